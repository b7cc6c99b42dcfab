/- CertNeeds: the law (mkcn.py). -/
import Derived.Test.YtpppegnojmnicaaGreatDoorVbt
namespace Go.Proofs.YtpppegnojmnicaaGreatDoor
set_option linter.unusedSimpArgs false
set_option linter.unusedVariables false
open Go.RowKit
set_option linter.unusedVariables false
set_option linter.unusedSimpArgs false
set_option maxRecDepth 100000 in
set_option maxHeartbeats 8000000 in
theorem certNeeds_law (seed : Int) (hsd : U64 seed) (Aa : Option Addr) (ca : Nat) (l : List Int) (hla : l.length ≤ ca) (hpa : ∀ x ∈ l, 0 ≤ x ∧ x ≤ 255)
 (w : World) (hS : Std w) (hra : Rd w w.heap.size Aa (l.map (Value.int .u8))) :
 Calls Tryz.prog 10 #[.int .u64 seed, .slice Aa l.length ca] w fun e w' => e = .returned (.bool true) ∧ Grew w w' := by
 have CK := Lib.hid (kn12 w hS)
 have HS := Lib.hid hS
 have CE0 := Lib.hid (fun W => keys_ok seed hsd 4 (by omega) W)
 have hkt := Tryz.underlying50
 have hut := Tryz.underlying91
 have hct := Tryz.underlying36
 obtain ⟨i0, hi, hz0, hz1, hz2⟩ := info_parts st_inf
 clear hS
 by_cases hl12 : 12 < l.length
 ·have ea : decide ((12 : Int) < (l.length : Int)) = true := decide_eq_true (by omega)
  clear hra hpa hi hz0 hz1 hz2 hl12
  go_enter Tryz.func10, Tryz.ntmps10
  go_wp2_with fail
  refine CK.out.mono ?_
  rintro e w0 ⟨rfl, G0⟩
  clear CK
  go_wp2_with fail
  go_ret
  exact ⟨rfl, G0⟩
 have ea : decide ((12 : Int) < (l.length : Int)) = false := decide_eq_false (by omega)
 have HL12 : Hid (l.length ≤ 12) := Lib.hid (by omega)
 have HRA := Lib.hid hra
 have HPA := Lib.hid hpa
 clear hra hpa hl12
 go_enter Tryz.func10, Tryz.ntmps10
 go_wp2_with fail
 refine CK.out.mono ?_
 rintro e w0 ⟨rfl, G0⟩
 clear CK
 have CE := CE0.out w0
 rw [show ((4 : Nat) : Int) = 4 from rfl] at CE
 clear CE0
 go_wp2_with fail
 refine CE.mono ?_
 clear CE
 rintro e w1 ⟨LA, Lc, RA, Rc, p, rfl, KS, rL, rR, FL0, FR0, gk⟩
 have G1 := grew_trans G0 gk
 obtain ⟨lad, hLA, -, -⟩ := rL 0 (by simp [ptrL])
 subst hLA
 obtain ⟨kc, hkc⟩ : ∃ v, kyS 1 RA 4 Rc 4 = v := ⟨_, rfl⟩
 have HSK : Hid ((Tryz.prog.info? 50).map (·.size) = some (kyS 1 RA 4 Rc 4).size) := Lib.hid (by kernel_rfl)
 have HSKL : Hid ((Tryz.prog.info? 50).map (·.size) = some (kyS 1 RA 4 Rc 4).toList.length) := Lib.hid (by kernel_rfl)
 have HOK : Hid ((kyS 1 RA 4 Rc 4).all (·.oneCell') = true) := Lib.hid (by simp [kyS, Value.oneCell'])
 have HKC : Hid ((kpN seed RA Rc).C = kyS 1 RA 4 Rc 4) := Lib.hid (by show kyS 1 RA (rtL seed 4 4).length Rc ((4 : Nat) : Int) = _; rw [rt_len]; rfl)
 obtain ⟨w2, hw2, ht2, g2, z2⟩ := put_any w1 50 (#[.int .i64 0, .slice none 0 0, .int .i64 0]) (kyS 1 RA 4 Rc 4) rfl
 have HW2 := Lib.hid hw2
 have HTK := Lib.hid ht2
 have HP : Hid (∀ i, i < 4 → w.heap.size ≤ p i + 1 ∧ p i + 1 < w1.heap.size) := Lib.hid (fun i hi => ⟨by have := KS.low i hi; have := G0.size; omega, (KS.key i hi).key.lt⟩)
 have HAP := Lib.hid KS.apart
 have HLB : Hid (lad.block < w1.heap.size) := Lib.hid (by
  obtain ⟨ad, e, hb, _⟩ := rL 0 (by simp [ptrL])
  cases e; exact hb)
 have HRB : Hid (∀ ad, RA = some ad → ad.block < w1.heap.size) := Lib.hid (fun ad e => by
  obtain ⟨ad2, e2, hb, _⟩ := rR 0 (by simp [u64L, rt_len])
  rw [e] at e2; cases e2; exact hb)
 have KS2 := KS.grew g2
 have rL2 := rL.gr g2
 have rR2 := rR.gr g2
 have G2 := grew_trans G1 g2
 have HLD : Hid (∀ i, i < 4 → w2.cell? (lad.add i) = some (.pointer (some ⟨p i + 1, 0, none⟩))) := Lib.hid (fun i hi => by
  obtain ⟨ad, e, _, hc⟩ := rL2 i (by simp [ptrL]; exact hi)
  cases e
  rw [hc]; simp [ptrL])
 have HQK : Hid (w1.heap.size < w2.heap.size) := Lib.hid z2.lt
 have FL : Hid (∀ i, i < 4 → lad.block ≠ p i + 1) := Lib.hid (fun i hi => (FL0 lad rfl i hi).2)
 have FR : Hid (∀ i, i < 4 → ∀ ad, RA = some ad → ad.block ≠ p i + 1) := Lib.hid (fun i hi ad e => (FR0 ad e i hi).2)
 have HKS : Hid (∀ i, i < 4 → KyAt w2 (p i + 1) (p i) (i : Int) (sdI seed i) (ksL seed 4 i) 0 (2 ^ 4)) := Lib.hid KS2.key
 obtain ⟨Df, hDf⟩ : ∃ f : Nat → Nat, f = fun (c : Nat) => dgC (cm12 (c : Int)) := ⟨_, rfl⟩
 have HDF : Hid (∀ c : Nat, dgC (cm12 (c : Int)) = Df c) := Lib.hid (fun c => by rw [hDf])
 have HDL : Hid (∀ c, Df c < 18446744073709551616) := Lib.hid (fun c => by rw [hDf]; exact sumL_lt _ _)
 have HDNE : Hid (Df 0 ≠ Df 1) := Lib.hid (by
  rw [hDf]
  show dgC (cm12 ((0 : Nat) : Int)) ≠ dgC (cm12 ((1 : Nat) : Int))
  rw [show ((0 : Nat) : Int) = 0 from rfl, show ((1 : Nat) : Int) = 1 from rfl, dg12_0, dg12_1]
  decide)
 rw [hkc] at z2 HSK HSKL HOK HTK HW2 HKC ⊢
 clear hw2 ht2 g2 KS KS2 rL rL2 rR G1 hkc FL0 FR0 gk G0 hDf
 have zh := Ag.new w2 99 #[.bool false, .bool false, .bool false, .bool false, .bool false, .bool false, .bool false, .bool false]
 have gh := grew_alloc (grew_refl w2) (.cells #[.bool false, .bool false, .bool false, .bool false, .bool false, .bool false, .bool false, .bool false] 99)
 have zn := Ag.new (w2.alloc (.cells #[.bool false, .bool false, .bool false, .bool false, .bool false, .bool false, .bool false, .bool false] 99)) 100 #[.int .i64 0, .int .i64 0]
 have gn := grew_alloc (grew_refl (w2.alloc (.cells #[.bool false, .bool false, .bool false, .bool false, .bool false, .bool false, .bool false, .bool false] 99))) (.cells #[.int .i64 0, .int .i64 0] 100)
 have ZH := Lib.hid (zh.grew gn)
 have ZN := Lib.hid zn
 have GHN := Lib.hid (grew_trans gh gn)
 clear zh gh zn gn
 go_wp2_with (with_reducible refine wpList_store_mid rfl 50 (.tmp 6) (.tmp 27) rfl w1.heap.size 0 kc rfl rfl HTK.out HSK.out HOK.out ?_; rw [HW2.out]; clear HW2 HTK; generalize w1.heap.size = qk at *)
 obtain ⟨hb, hhb⟩ : ∃ b, w2.heap.size = b := ⟨_, rfl⟩
 have hnb : (w2.alloc (.cells #[.bool false, .bool false, .bool false, .bool false, .bool false, .bool false, .bool false, .bool false] 99)).heap.size = hb + 1 := by rw [World.size_alloc, hhb]
 obtain ⟨w3, hw3⟩ : ∃ w3, (w2.alloc (.cells #[.bool false, .bool false, .bool false, .bool false, .bool false, .bool false, .bool false, .bool false] 99)).alloc (.cells #[.int .i64 0, .int .i64 0] 100) = w3 := ⟨_, rfl⟩
 have zh := ZH.out
 have zn := ZN.out
 have gn := GHN.out
 have hs3 : w3.heap.size = hb + 2 := by rw [← hw3, World.size_alloc, hnb]
 rw [hw3] at zh zn gn ⊢
 try rw [hnb]
 rw [hnb] at zn
 rw [hhb] at zh
 try rw [hhb]
 have HQB : Hid (qk < hb) := Lib.hid (by have := HQK.out; omega)
 have HHB := Lib.hid hhb
 have G3 := grew_trans G2 gn
 have HWB : Hid (w.heap.size ≤ hb + 2) := Lib.hid (by have := G3.size; omega)
 have HWH : Hid (w.heap.size ≤ hb) := Lib.hid (by have := G2.size; have := HHB.out; omega)
 have hown0 : w3.ownsRow (hb + 2) 91 24 (.slice none 0 0) 0 (spL []).flatten := World.ownsRow_nil _ _ _ _
 have HBE := Lib.hid hs3
 have z3 := z2.grew gn
 have HKS3 : Hid (∀ i, i < 4 → KyAt w3 (p i + 1) (p i) (i : Int) (sdI seed i) (ksL seed 4 i) (usI (l.take 0) i) (2 ^ 4)) := Lib.hid (fun i hi => by rw [List.take_zero]; exact (HKS.out i hi).grew gn)
 have HLD3 : Hid (∀ i, i < 4 → w3.cell? (lad.add i) = some (.pointer (some ⟨p i + 1, 0, none⟩))) := Lib.hid (fun i hi => (gn.cell (p := lad.add i) (cell_blk (HLD.out i hi))).trans (HLD.out i hi))
 have rR3 := rR2.gr gn
 clear ZH ZN GHN hw3 hnb hhb hs3 gn z2 rR2 G2 HKS HLD HQK
 go_loopw [7, 10] (fun rv iv wr => ∃ (n : Nat) (M : List SP), n ≤ l.length ∧ iv = .int .i64 (n : Int) ∧ hb + 2 ≤ wr.heap.size ∧ MvL (nS seed Df l n) M ∧ (∀ S ∈ M, S.ok) ∧ (∀ S ∈ M, S.at wr) ∧ (∀ S ∈ M, ∀ ad, S.A = some ad → ∀ g, rv.ownBlock = some g → S.l = [] ∨ ad.block ≠ g) ∧ (∀ S ∈ M, ∀ ad, S.A = some ad → S.l = [] ∨ hb + 2 ≤ ad.block) ∧ wr.ownsRow (hb + 2) 91 24 rv n (spL M).flatten ∧ (∀ i, i < 4 → KyAt wr (p i + 1) (p i) (i : Int) (sdI seed i) (ksL seed 4 i) (usI (l.take n) i) (2 ^ 4)) ∧ Ag wr qk kc.toList ∧ Ag wr hb (hadL (l.take n)) ∧ Ag wr (hb + 1) (cntL (l.take n)) ∧ (∀ i, i < 4 → wr.cell? (lad.add i) = some (.pointer (some ⟨p i + 1, 0, none⟩))) ∧ Rd wr wr.heap.size RA (u64L (rtL seed 4 4)) ∧ Grew w wr) (fun _ iv _ => l.length - (Go.RowKit.intOf iv).toNat)
 case atStart => exact ⟨0, [], by omega, rfl, (by have := HBE.out; omega), (by simpa [nS] using MvL.nil), by simp, by simp, by simp, by simp, hown0, HKS3.out, z3, zh, zn, HLD3.out, rR3, G3⟩
 case round =>
  clear HKS3 HLD3 z3 zh zn rR3 G3 hown0
  obtain ⟨n, M, hn, rfl, hB0, hmv, hok, hat, hne, hlow, hrow, hks, zk, zh, zn, hld, rRr, hg⟩ := hrel
  by_cases hlt : n < l.length
  ·obtain ⟨ada, hAa, hbla, hca⟩ := (HRA.out.below hg) n (by simp; omega)
   subst hAa
   rw [List.getElem_map] at hca
   have hpx := HPA.out _ (List.getElem_mem hlt)
   have hts : l.take (n + 1) = l.take n ++ [l[n]] := by rw [List.take_succ_eq_append_getElem hlt]
   have hgd : l.getD n 0 = l[n] := by simp [List.getD, hlt]
   have hnS := nS_succ seed Df l n
   rw [hgd] at hnS
   have h1 : (n : Int) < (l.length : Int) := by omega
   have h0 : (0 : Int) ≤ (n : Int) := by omega
   have HI4 := Lib.hid hlt
   have HPL : Hid ((l.take n).length ≤ 11) := Lib.hid (by have := HL12.out; rw [List.length_take]; omega)
   generalize l[n] = x at *
   obtain ⟨pl, hpl⟩ : ∃ q, l.take n = q := ⟨_, rfl⟩
   rw [hpl] at hts hnS hks zh zn HPL
   have HTS := Lib.hid hts
   have HNS := Lib.hid hnS
   have HPX := Lib.hid hpx
   obtain ⟨ww, hww⟩ : ∃ a, wvI x = a := ⟨_, rfl⟩
   obtain ⟨cc, hcc⟩ : ∃ a, cvI x = a := ⟨_, rfl⟩
   have hw4 : ww < 4 := by rw [← hww]; exact wvI_lt x
   have hc2 : cc < 2 := by rw [← hcc]; exact cvI_lt x
   have HW4 := Lib.hid hw4
   have HC2 := Lib.hid hc2
   have HWW := Lib.hid hww
   have HCC := Lib.hid hcc
   have hxw : wrap64 (x.tmod 4) = (ww : Int) := by
    rw [IntWalk.wrap64_in _ (by rw [Int.tmod_eq_emod_of_nonneg hpx.1]; omega), Int.tmod_eq_emod_of_nonneg hpx.1, ← hww]
    unfold wvI
    omega
   have hxc : x.tdiv 4 % 2 = (cc : Int) := by
    rw [Int.tdiv_eq_ediv_of_nonneg hpx.1, ← hcc]
    unfold cvI
    omega
   have HCW : Hid (ada.block < w.heap.size) := Lib.hid hbla
   have HCA : Hid (∀ y : Gr wr, y.val.cell? (ada.add n) = some (.int .u8 x)) := Lib.hid (fun y => (y.ok.cell (p := ada.add n) (cell_blk hca)).trans hca)
   have HMV := Lib.hid hmv
   have HOKM := Lib.hid hok
   have HAT := Lib.hid hat
   have HNE := Lib.hid hne
   have HLW := Lib.hid hlow
   have HROW := Lib.hid hrow
   have HKS := Lib.hid hks
   have HZK := Lib.hid zk
   have HZH := Lib.hid zh
   have HZN := Lib.hid zn
   have HLD := Lib.hid hld
   have HRR := Lib.hid rRr
   have HGG := Lib.hid hg
   have HBW := Lib.hid hB0
   clear hmv hok hat hne hlow hrow hks zk zh zn hld rRr hg hB0 hlt hn hca hbla hpl hts hgd hnS hww hcc hw4 hc2 hpx
   go_upto_region 14 with fail
   have hcA := HCA.out
   refine wp_region_grew (grew_refl wr) (by kernel_rfl) (by kernel_rfl) ?_
   repeat (go_big_quiet_step (first | fail))
   refine wpQuiet_nil ?_
   rintro wz ⟨⟨wz', gq⟩, rfl⟩
   try rw [hxw]
   try rw [hxc]
   clear hxw hxc
   try generalize x.tdiv 4 % 256 = m2
   try generalize x.tmod 4 = m1
   try generalize x.tdiv 4 = m3
   have HGQ := Lib.hid gq
   have HCXQ : Hid (∀ y, Kp (fun j => j = p ww + 1) wz y → y.cell? (ada.add n) = some (.int .u8 x)) := Lib.hid (fun y k => (World.cell?_of_block (by rw [blk_add]; exact k.block ada.block (by have := cell_blk (hcA ⟨wz, gq⟩); rwa [blk_add] at this) (fun h => by have h : ada.block = p ww + 1 := h; have := HP.out ww HW4.out; have := HCW.out; omega))).trans (hcA ⟨wz, gq⟩))
   clear gq hcA HCA HCW
   have HPI := Lib.hid (HP.out ww HW4.out)
   have GZ := grew_trans HGG.out HGQ.out
   have hbz : hb + 2 ≤ wz.heap.size := Nat.le_trans HBW.out HGQ.out.size
   have HBZwz := Lib.hid hbz
   have HSBwz : Hid (∀ g, (fun j => j = p ww + 1) g → g < wz.heap.size) := Lib.hid (fun g h => by
    have h1 : g = p ww + 1 := h
    have := HPI.out; have := HQB.out; omega)
   have HSYwz : Hid (∀ y, Kp (fun j => j = p ww + 1) wz y → Std y) := Lib.hid (fun y k => HS.out.grew (below_kp GZ k GZ.size (fun i (hi : i = p ww + 1) => by have := HPI.out; omega)))
   have hldz : wz.cell? (lad.add ww) = some (.pointer (some ⟨p ww + 1, 0, none⟩)) := (HGQ.out.cell (p := lad.add ww) (cell_blk (HLD.out ww HW4.out))).trans (HLD.out ww HW4.out)
   have HLCwz : Hid (∀ y, Kp (fun j => j = p ww + 1) wz y → y.cell? (lad.add ww) = some (.pointer (some ⟨p ww + 1, 0, none⟩))) := Lib.hid (fun y k => (World.cell?_of_block (by rw [blk_add]; exact k.block lad.block (by have := cell_blk hldz; rwa [blk_add] at this) (FL.out ww HW4.out))).trans hldz)
   obtain ⟨u0, hu0⟩ : ∃ u, usI pl ww = u := ⟨_, rfl⟩
   have HU0 := Lib.hid hu0
   have HUL : Hid (u0 < 16) := Lib.hid (by have := usI_le pl ww; have := HPL.out; omega)
   have HKYwz : Hid (∀ y, Grew wz y → KyAt y (p ww + 1) (p ww) (ww : Int) (sdI seed ww) (ksL seed 4 ww) u0 (2 ^ 4)) := Lib.hid (fun y k => by
    have := (HKS.out ww HW4.out).grew (grew_trans HGQ.out k)
    rw [hu0] at this
    exact this)
   have HCX : Hid (∀ y, Kp (fun j => j = p ww + 1) wz y → y.cell? (ada.add n) = some (.int .u8 x)) := HCXQ
   have EWX : Hid (IntKind.i64.wrap x = x) := Lib.hid (IntWalk.i64_in _ (by have := HPX.out; omega))
   have EWY : Hid (Go.RowKit.wrap64 x = x) := Lib.hid (IntWalk.wrap64_in _ (by have := HPX.out; omega))
   have E1Y : Hid (Go.RowKit.wrap64 (1 + x) = 1 + x) := Lib.hid (IntWalk.wrap64_in _ (by have := HPX.out; omega))
   have E1X : Hid (IntKind.i64.wrap (1 + x) = 1 + x) := Lib.hid (IntWalk.i64_in _ (by have := HPX.out; omega))
   have CC0 := Lib.hid (fun W => c12_ok (cc : Int) W)
   have cd0 := fun W h => digest_ok (cm12 (cc : Int)) (okC_in (ok12 (cc : Int) (by have := HC2.out; omega))) W h
   rw [HDF.out, show (cm12 (cc : Int)).v = .agg (cm12 (cc : Int)).cells from rfl] at cd0
   have CD0 := Lib.hid cd0
   obtain ⟨S0, hS0⟩ : ∃ S, nsS seed Df pl x = S := ⟨_, rfl⟩
   have hS1 : stpK seed 4 ww u0 (Df cc) (1 + x) none 0 = S0 := by rw [← hS0, ← hu0, ← HWW.out, ← HCC.out]; rfl
   have CMwz : Hid (∀ W, Std W → KyAt W (p ww + 1) (p ww) (ww : Int) (sdI seed ww) (ksL seed 4 ww) u0 (2 ^ 4) → Calls Tryz.prog 42 #[.pointer (some ⟨p ww + 1, 0, none⟩), .int .i64 (ww : Int), .int .u64 (Df cc : Int), .int .i64 (1 + x)] W fun e w' =>
    (∃ A c, e = .returned (.tuple #[.agg (S0.mv A c).C, .int .i64 0]) ∧ (S0.mv A c).at w' ∧ (∀ ad, A = some ad → W.heap.size ≤ ad.block)) ∧ Tn (p ww + 1) W w' ∧ KyAt w' (p ww + 1) (p ww) (ww : Int) (sdI seed ww) (ksL seed 4 ww) (u0 + 1) (2 ^ 4)) := Lib.hid (fun W h1 h2 => by
    have hb := HPX.out
    have := stmakeK seed 4 ww u0 (by omega) HW4.out (by have := HUL.out; omega) (p ww) (Df cc) (HDL.out cc) (1 + x) ⟨by omega, by omega⟩ (decide_eq_true (by omega)) W h1 h2
    rw [← hS1]
    exact this)
   have HSO : Hid S0.ok := Lib.hid (by have hb := HPX.out; rw [← hS1]; exact stpK_ok seed 4 ww u0 (Df cc) (1 + x) none 0 (by omega) HW4.out (by have := HUL.out; omega) (HDL.out cc) ⟨by omega, by omega⟩)
   have HNS2 : Hid (nS seed Df l (n + 1) = nS seed Df l n ++ [S0]) := Lib.hid (by rw [HNS.out, hS0])
   have hww3 : (ww : Int) < 4 := by have := HW4.out; omega
   have hww0 : (0 : Int) ≤ (ww : Int) := by omega
   clear cd0 hS0 hS1 hldz GZ hbz hu0
   go_upto_region 15 with fail
   refine wp_region_lateapp2 19 20 14 (fun j => j = p ww + 1) (fun ix9 => match ix9 with
    | 0 => fun v => v = .slice (some lad) 4 Lc
    | 1 => fun v => v = .int .i64 (ww : Int)
    | 2 => fun v => v = .pointer (some (lad.add ww))
    | 3 => fun v => v = .pointer (some ⟨p ww + 1, 0, none⟩)
    | 4 => fun v => v = .int .i64 (ww : Int)
    | 5 => fun v => v = .int .i64 (cc : Int)
    | 6 => fun v => v = .agg (cm12 (cc : Int)).cells
    | 7 => fun v => v = .int .u64 (Df cc : Int)
    | 8 => fun v => v = .slice (some ada) l.length ca
    | 9 => fun v => v = .int .i64 (n : Int)
    | 10 => fun v => v = .pointer (some (ada.add n))
    | 11 => fun v => v = .int .u8 x
    | 12 => fun v => v = .int .i64 x
    | 13 => fun v => v = .int .i64 (1 + x)
    | 14 => fun _ => True
    | 15 => fun v => ∃ A c, v = .tuple #[.agg (S0.mv A c).C, .int .i64 0]
    | 16 => fun _ => True
    | 17 => fun v => v = .int .i64 0
    | 18 => fun _ => True
    | 19 => fun _ => True
    | _ => fun _ => True) (fun ix9 => match ix9 with
    | 14 => fun lo hi v w => MkY w wz.heap.size (p ww + 1) (p ww) (ww : Int) (sdI seed ww) (ksL seed 4 ww) (u0 + 1) (2 ^ 4) S0 lo hi v (fun A c => .tuple #[.agg (S0.mv A c).C, .int .i64 0])
    | 15 => fun lo hi v w => MkS w wz.heap.size S0 lo hi v (fun A c => .tuple #[.agg (S0.mv A c).C, .int .i64 0])
    | 16 => fun lo hi v w => MkS w wz.heap.size S0 lo hi v (fun A c => .agg (S0.mv A c).C)
    | 18 => fun lo hi v w => AgZ w wz.heap.size lo hi (#[.int .u64 0, .int .i64 0, .int .i64 0, .int .i64 0, .int .i64 0, .int .u64 0, .int .u64 0, .int .u64 0, .int .u64 0, .int .u64 0, .int .u64 0, .int .u64 0, .int .u64 0, .int .u64 0, .int .u64 0, .int .u64 0, .int .u64 0, .int .u64 0, .int .u64 0, .int .u64 0, .int .u64 0, .int .u64 0, .int .u64 0, .slice none 0 0] : Array Value).toList v
    | _ => fun _ _ _ _ => True) (fun ix9 => match ix9 with
    | 15 => 14
    | 16 => 15
    | ix8 => ix8) (fun ix9 => match ix9 with
    | 15 => 14
    | 16 => 14
    | ix8 => ix8) (fun ix9 => match ix9 with
    | 17 => true
    | _ => false) 18 (fun v W => StY (fun j => j = p ww + 1) wz S0 (p ww + 1) (p ww) (ww : Int) (sdI seed ww) (ksL seed 4 ww) (u0 + 1) (2 ^ 4) v W) rfl (by kernel_rfl) (by kernel_rfl) (by kernel_rfl) (by kernel_rfl) rfl rfl (by decide) (fun _ => trivial) ?_ ?_ ?_ ?_ ?_ (fun o ho => by cases ho; rfl) (fun v x y h hg => StY.gr h hg) ?_
   ·refine ⟨?_, ?_, ?_, ?_, ?_, ?_, ?_, ?_, ?_, ?_, ?_, ?_, ?_, ?_, ?_, ?_, ?_, ?_, ?_, trivial⟩
    ·intro vs lo hi y hg hd hvia
     replace hg : Kp (fun j => j = p ww + 1) wz y := hg
     clear hvia
     simp only [actOf, tk1, tk0, dr1, dr0, Act.put, si1, st1, st0, Nat.reduceAdd]
     go_wp2_with fail
     first | exact ⟨rfl, _, rfl, grew_refl _, rfl⟩ | exact ⟨rfl, _, rfl, grew_refl _, rfl, trivial⟩
    ·intro vs lo hi y hg hd hvia
     replace hg : Kp (fun j => j = p ww + 1) wz y := hg
     clear hvia
     simp only [actOf, tk1, tk0, dr1, dr0, Act.put, si1, st1, st0, Nat.reduceAdd]
     go_wp2_with fail
     first | exact ⟨rfl, _, rfl, grew_refl _, rfl⟩ | exact ⟨rfl, _, rfl, grew_refl _, rfl, trivial⟩
    ·intro vs lo hi y hg hd hvia
     replace hg : Kp (fun j => j = p ww + 1) wz y := hg
     obtain ⟨h0, h1, _⟩ := hd
     replace h0 := h0 rfl
     replace h1 := h1 rfl
     clear hvia
     simp only [actOf, tk1, tk0, dr1, dr0, Act.put, si1, st1, st0, Nat.reduceAdd]
     rw [show vs 0 = _ from h0, show vs 1 = _ from h1]
     go_wp2_with fail
     first | exact ⟨rfl, _, rfl, grew_refl _, rfl⟩ | exact ⟨rfl, _, rfl, grew_refl _, rfl, trivial⟩
    ·intro vs lo hi y hg hd hvia
     replace hg : Kp (fun j => j = p ww + 1) wz y := hg
     obtain ⟨h2, _⟩ := hd
     replace h2 := h2 rfl
     clear hvia
     simp only [actOf, tk1, tk0, dr1, dr0, Act.put, si1, st1, st0, Nat.reduceAdd]
     rw [show vs 2 = _ from h2]
     have hc := HLCwz.out y hg
     go_wp2_with fail
     first | exact ⟨rfl, _, rfl, grew_refl _, rfl⟩ | exact ⟨rfl, _, rfl, grew_refl _, rfl, trivial⟩
    ·intro vs lo hi y hg hd hvia
     replace hg : Kp (fun j => j = p ww + 1) wz y := hg
     clear hvia
     simp only [actOf, tk1, tk0, dr1, dr0, Act.put, si1, st1, st0, Nat.reduceAdd]
     go_wp2_with fail
     first | exact ⟨rfl, _, rfl, grew_refl _, rfl⟩ | exact ⟨rfl, _, rfl, grew_refl _, rfl, trivial⟩
    ·intro vs lo hi y hg hd hvia
     replace hg : Kp (fun j => j = p ww + 1) wz y := hg
     clear hvia
     simp only [actOf, tk1, tk0, dr1, dr0, Act.put, si1, st1, st0, Nat.reduceAdd]
     go_wp2_with fail
     first | exact ⟨rfl, _, rfl, grew_refl _, rfl⟩ | exact ⟨rfl, _, rfl, grew_refl _, rfl, trivial⟩
    ·intro vs lo hi y hg hd hvia
     replace hg : Kp (fun j => j = p ww + 1) wz y := hg
     obtain ⟨h5, _⟩ := hd
     replace h5 := h5 rfl
     clear hvia
     simp only [actOf, tk1, tk0, dr1, dr0, Act.put, si1, st1, st0, Nat.reduceAdd]
     rw [show vs 5 = _ from h5]
     go_wp2_with (go_at_call 44; refine (CC0.out y).mono ?_; rintro e z ⟨rfl, gz⟩)
     exact ⟨rfl, _, rfl, gz, rfl, trivial⟩
    ·intro vs lo hi y hg hd hvia
     replace hg : Kp (fun j => j = p ww + 1) wz y := hg
     obtain ⟨h6, _⟩ := hd
     replace h6 := h6 rfl
     clear hvia
     simp only [actOf, tk1, tk0, dr1, dr0, Act.put, si1, st1, st0, Nat.reduceAdd]
     rw [show vs 6 = _ from h6]
     have hgS := HSYwz.out y hg
     go_wp2_with (go_at_call 43; refine (CD0.out y hgS).mono ?_; rintro e z ⟨rfl, gz⟩)
     exact ⟨rfl, _, rfl, gz, rfl, trivial⟩
    ·intro vs lo hi y hg hd hvia
     replace hg : Kp (fun j => j = p ww + 1) wz y := hg
     clear hvia
     simp only [actOf, tk1, tk0, dr1, dr0, Act.put, si1, st1, st0, Nat.reduceAdd]
     go_wp2_with fail
     first | exact ⟨rfl, _, rfl, grew_refl _, rfl⟩ | exact ⟨rfl, _, rfl, grew_refl _, rfl, trivial⟩
    ·intro vs lo hi y hg hd hvia
     replace hg : Kp (fun j => j = p ww + 1) wz y := hg
     clear hvia
     simp only [actOf, tk1, tk0, dr1, dr0, Act.put, si1, st1, st0, Nat.reduceAdd]
     go_wp2_with fail
     first | exact ⟨rfl, _, rfl, grew_refl _, rfl⟩ | exact ⟨rfl, _, rfl, grew_refl _, rfl, trivial⟩
    ·intro vs lo hi y hg hd hvia
     replace hg : Kp (fun j => j = p ww + 1) wz y := hg
     obtain ⟨h8, h9, _⟩ := hd
     replace h8 := h8 rfl
     replace h9 := h9 rfl
     clear hvia
     simp only [actOf, tk1, tk0, dr1, dr0, Act.put, si1, st1, st0, Nat.reduceAdd]
     rw [show vs 8 = _ from h8, show vs 9 = _ from h9]
     go_wp2_with fail
     first | exact ⟨rfl, _, rfl, grew_refl _, rfl⟩ | exact ⟨rfl, _, rfl, grew_refl _, rfl, trivial⟩
    ·intro vs lo hi y hg hd hvia
     replace hg : Kp (fun j => j = p ww + 1) wz y := hg
     obtain ⟨h10, _⟩ := hd
     replace h10 := h10 rfl
     clear hvia
     simp only [actOf, tk1, tk0, dr1, dr0, Act.put, si1, st1, st0, Nat.reduceAdd]
     rw [show vs 10 = _ from h10]
     have hc := HCX.out y hg
     go_wp2_with fail
     first | exact ⟨rfl, _, rfl, grew_refl _, rfl⟩ | exact ⟨rfl, _, rfl, grew_refl _, rfl, trivial⟩
    ·intro vs lo hi y hg hd hvia
     replace hg : Kp (fun j => j = p ww + 1) wz y := hg
     obtain ⟨h11, _⟩ := hd
     replace h11 := h11 rfl
     clear hvia
     simp only [actOf, tk1, tk0, dr1, dr0, Act.put, si1, st1, st0, Nat.reduceAdd]
     rw [show vs 11 = _ from h11]
     have ewx := EWX.out
     have ewy := EWY.out
     go_wp2_with fail
     first | exact ⟨rfl, _, rfl, grew_refl _, rfl⟩ | exact ⟨rfl, _, rfl, grew_refl _, rfl, trivial⟩
    ·intro vs lo hi y hg hd hvia
     replace hg : Kp (fun j => j = p ww + 1) wz y := hg
     obtain ⟨h12, _⟩ := hd
     replace h12 := h12 rfl
     clear hvia
     simp only [actOf, tk1, tk0, dr1, dr0, Act.put, si1, st1, st0, Nat.reduceAdd]
     rw [show vs 12 = _ from h12]
     have e1x := E1X.out
     have e1y := E1Y.out
     go_wp2_with fail
     first | exact ⟨rfl, _, rfl, grew_refl _, rfl⟩ | exact ⟨rfl, _, rfl, grew_refl _, rfl, trivial⟩
    ·intro vs lo hi y hg hd hvia
     replace hg : Grew wz y := hg
     obtain ⟨h3, h4, h7, h13, _⟩ := hd
     replace h3 := h3 rfl
     replace h4 := h4 rfl
     replace h7 := h7 rfl
     replace h13 := h13 rfl
     clear hvia
     simp only [actOf, tk1, tk0, dr1, dr0, Act.put, si1, st1, st0, Nat.reduceAdd]
     rw [show vs 3 = _ from h3, show vs 4 = _ from h4, show vs 7 = _ from h7, show vs 13 = _ from h13]
     have hgS := HSYwz.out y (kp_grew hg)
     have hKY := HKYwz.out y hg
     go_wp2_with (go_at_call 42; refine (CMwz.out y hgS hKY).mono ?_; rintro e z ⟨⟨A9, c9, rfl, hat9, hfr9⟩, ht9, hk9⟩)
     exact ⟨rfl, _, rfl, kp_tn ht9, trivial, ⟨⟨A9, c9, rfl, hat9, hg.size, fun ad h => (at_lt hat9 ad h).imp id (fun h2 => ⟨hfr9 ad h, h2⟩)⟩, hk9⟩⟩
    ·intro vs lo hi y hg hd hvia
     replace hg : Kp (fun j => j = p ww + 1) wz y := hg
     obtain ⟨h14, _⟩ := hd
     replace h14 := h14 rfl
     have hv9 : (fun lo hi v w => MkY w wz.heap.size (p ww + 1) (p ww) (ww : Int) (sdI seed ww) (ksL seed 4 ww) (u0 + 1) (2 ^ 4) S0 lo hi v (fun A c => .tuple #[.agg (S0.mv A c).C, .int .i64 0])) (lo 14) (hi 14) (vs 14) y := hvia rfl
     clear hvia
     simp only [actOf, tk1, tk0, dr1, dr0, Act.put, si1, st1, st0, Nat.reduceAdd]
     obtain ⟨A9, c9, e9, hat9, hb9, hr9⟩ := MkS.out (MkY.sk hv9)
     rw [e9]
     go_wp2_with fail
     exact ⟨rfl, _, rfl, grew_refl _, ⟨A9, ⟨c9, rfl⟩⟩, ⟨A9, c9, rfl, hat9, hb9, hr9⟩⟩
    ·intro vs lo hi y hg hd hvia
     replace hg : Kp (fun j => j = p ww + 1) wz y := hg
     obtain ⟨h15, _⟩ := hd
     replace h15 := h15 rfl
     have hv9 : (fun lo hi v w => MkS w wz.heap.size S0 lo hi v (fun A c => .tuple #[.agg (S0.mv A c).C, .int .i64 0])) (lo 15) (hi 15) (vs 15) y := hvia rfl
     clear hvia
     simp only [actOf, tk1, tk0, dr1, dr0, Act.put, si1, st1, st0, Nat.reduceAdd]
     obtain ⟨A9, c9, e9, hat9, hb9, hr9⟩ := MkS.out hv9
     rw [e9]
     go_wp2_with fail
     exact ⟨rfl, _, rfl, grew_refl _, ⟨A9, c9, rfl, hat9, hb9, hr9⟩⟩
    ·intro vs lo hi y hg hd hvia
     replace hg : Kp (fun j => j = p ww + 1) wz y := hg
     obtain ⟨h15, _⟩ := hd
     replace h15 := h15 rfl
     clear hvia
     simp only [actOf, tk1, tk0, dr1, dr0, Act.put, si1, st1, st0, Nat.reduceAdd]
     obtain ⟨A9, c9, e9⟩ := h15
     rw [e9]
     go_wp2_with fail
     first | exact ⟨rfl, _, rfl, grew_refl _, rfl⟩ | exact ⟨rfl, _, rfl, grew_refl _, rfl, trivial⟩
    ·intro vs lo hi y hg hd hvia
     replace hg : Kp (fun j => j = p ww + 1) wz y := hg
     clear hvia
     simp only [actOf, tk1, tk0, dr1, dr0, Act.put, si1, st1, st0, Nat.reduceAdd]
     go_wp2_with fail
     exact ⟨rfl, _, rfl, grew_alloc (grew_refl _) _, ⟨y.heap.size, rfl, Ag.new y 91 (#[.int .u64 0, .int .i64 0, .int .i64 0, .int .i64 0, .int .i64 0, .int .u64 0, .int .u64 0, .int .u64 0, .int .u64 0, .int .u64 0, .int .u64 0, .int .u64 0, .int .u64 0, .int .u64 0, .int .u64 0, .int .u64 0, .int .u64 0, .int .u64 0, .int .u64 0, .int .u64 0, .int .u64 0, .int .u64 0, .int .u64 0, .slice none 0 0] : Array Value), hg.size, Nat.le_refl _, by show y.heap.size < (y.alloc _).heap.size; simp⟩⟩
   ·refine ⟨(fun h => absurd h (by decide)), (fun h => absurd h (by decide)), (fun h => absurd h (by decide)), (fun h => absurd h (by decide)), (fun h => absurd h (by decide)), (fun h => absurd h (by decide)), (fun h => absurd h (by decide)), (fun h => absurd h (by decide)), (fun h => absurd h (by decide)), (fun h => absurd h (by decide)), (fun h => absurd h (by decide)), (fun h => absurd h (by decide)), (fun h => absurd h (by decide)), (fun h => absurd h (by decide)), (fun h => absurd h (by decide)), (fun h => absurd h (by decide)), (fun h => absurd h (by decide)), ?_, (fun h => absurd h (by decide)), (fun h => absurd h (by decide)), trivial⟩
    ·intro _ vs y hd
     obtain ⟨h15, _⟩ := hd
     replace h15 := h15 rfl
     simp only [actOf, tk1, tk0, dr1, dr0, Act.put, si1, st1, st0, Nat.reduceAdd]
     obtain ⟨A9, c9, e9⟩ := h15
     rw [e9]
     go_wp2_with fail
     first | exact ⟨rfl, _, rfl, grew_refl _, rfl⟩ | exact ⟨rfl, _, rfl, grew_refl _, rfl, trivial⟩
   ·intro lo hi v x y h hg
    exact MkY.gr h hg
   ·intro i lo hi v x y hne hx h hg
    match i, h with
    | 14, h => exact absurd rfl hne
    | 15, h => exact MkS.kp h hg HSBwz.out
    | 16, h => exact MkS.kp h hg HSBwz.out
    | 18, h => exact AgZ.kp h hg HSBwz.out
    | 0, _ => trivial
    | 1, _ => trivial
    | 2, _ => trivial
    | 3, _ => trivial
    | 4, _ => trivial
    | 5, _ => trivial
    | 6, _ => trivial
    | 7, _ => trivial
    | 8, _ => trivial
    | 9, _ => trivial
    | 10, _ => trivial
    | 11, _ => trivial
    | 12, _ => trivial
    | 13, _ => trivial
    | 17, _ => trivial
    | m + 19, _ => trivial
   ·intro vs lo hi y hg hJ hK hB hD
    replace hg : Kp (fun j => j = p ww + 1) wz y := hg
    have k65 := hK 14 (by decide) rfl
    have b65 := hB 14 (by decide) rfl
    have k50 := hK 15 (by decide) rfl
    have b50 := hB 15 (by decide) rfl
    have k66 := hK 16 (by decide) rfl
    have b66 := hB 16 (by decide) rfl
    have k13 := hK 18 (by decide) rfl
    have b13 := hB 18 (by decide) rfl
    have d65_13 := hD 14 (by decide) rfl 18 (by decide) rfl (by decide)
    have d50_13 := hD 15 (by decide) rfl 18 (by decide) rfl (by decide)
    have d66_13 := hD 16 (by decide) rfl 18 (by decide) rfl (by decide)
    clear hK hB hD
    have j0 : vs 0 = .slice (some lad) 4 Lc := hJ 0 (by decide) rfl
    have j1 : vs 1 = .int .i64 (ww : Int) := hJ 1 (by decide) rfl
    have j2 : vs 2 = .pointer (some (lad.add ww)) := hJ 2 (by decide) rfl
    have j3 : vs 3 = .pointer (some ⟨p ww + 1, 0, none⟩) := hJ 3 (by decide) rfl
    have j4 : vs 4 = .int .i64 (ww : Int) := hJ 4 (by decide) rfl
    have j5 : vs 5 = .int .i64 (cc : Int) := hJ 5 (by decide) rfl
    have j6 : vs 6 = .agg (cm12 (cc : Int)).cells := hJ 6 (by decide) rfl
    have j7 : vs 7 = .int .u64 (Df cc : Int) := hJ 7 (by decide) rfl
    have j8 : vs 8 = .slice (some ada) l.length ca := hJ 8 (by decide) rfl
    have j9 : vs 9 = .int .i64 (n : Int) := hJ 9 (by decide) rfl
    have j10 : vs 10 = .pointer (some (ada.add n)) := hJ 10 (by decide) rfl
    have j11 : vs 11 = .int .u8 x := hJ 11 (by decide) rfl
    have j12 : vs 12 = .int .i64 x := hJ 12 (by decide) rfl
    have j13 : vs 13 = .int .i64 (1 + x) := hJ 13 (by decide) rfl
    clear hJ
    simp only [actOf, tk1, tk0, dr1, dr0, Act.put, si1, st1, st0, Nat.reduceAdd]
    obtain ⟨A1, c1, e43, hat1, hb1, hr1⟩ := MkS.out k66
    obtain ⟨q, e5, zq, hBq, hql, hqh⟩ := AgZ.out k13
    rw [e43, e5]
    have hky := MkY.ky k65
    have hPI := HPI.out
    have hqb := HQB.out
    have hbz := HBZwz.out
    have HNQ : Hid (∀ ad, A1 = some ad → S0.l = [] ∨ ad.block ≠ q) := Lib.hid (fun ad h => by
     rcases hr1 ad h with h1 | h1
     ·exact .inl h1
     ·exact .inr (by rcases d66_13 with h2 | h2 <;> omega))
    have HLO1 : Hid (∀ ad, A1 = some ad → S0.l = [] ∨ wz.heap.size ≤ ad.block) := Lib.hid (fun ad h => (hr1 ad h).imp id (fun h1 => by omega))
    obtain ⟨gs, hgs⟩ : ∃ g, (S0.mv A1 c1).C = g := ⟨_, rfl⟩
    have hz24 : gs.size = 24 := by rw [← hgs]; rfl
    have HTH : Hid (y.there q 0 gs.size) := Lib.hid (zq.thereN gs.size (by rw [hz24]; rfl))
    have HSI : Hid ((Tryz.prog.info? 91).map (·.size) = some gs.size) := Lib.hid (by rw [hz24]; exact st_info)
    have HON : Hid (gs.all (·.oneCell') = true) := Lib.hid (by rw [← hgs]; exact (S0.mv A1 c1).one)
    have z4 := Ag.set (vs := gs.toList) zq (by rw [Array.length_toList, hz24]; rfl)
    have k4 := setCells_kp gs.toList q 0 y
    have HF : Hid (StY (fun j => j = p ww + 1) wz S0 (p ww + 1) (p ww) (ww : Int) (sdI seed ww) (ksL seed 4 ww) (u0 + 1) (2 ^ 4) (.pointer (some ⟨q, 0, none⟩)) (y.setCells q 0 gs.toList)) := Lib.hid ⟨⟨A1, c1, q, rfl, by rw [hgs]; exact z4, at_kp hat1 k4 (fun ad h => HNQ.out ad h), by omega, HLO1.out, kp_new hg k4 (by omega)⟩, hky.kp k4 (fun h => by have h : p ww + 1 = q := h; omega) (fun h => by have h : p ww = q := h; omega)⟩
    rw [hgs]
    clear hgs hg z4 k4 zq hat1 hky
    generalize gs = gs' at *
    go_wp2_with (with_reducible refine wpList_store_mid rfl 91 (.tmp 13) (.tmp 66) rfl q 0 gs' rfl rfl HTH.out HSI.out HON.out ?_)
    exact HF.out
   ·intro vs w4 hF hJ
    have j0 : vs 0 = .slice (some lad) 4 Lc := hJ 0 (by decide)
    have j1 : vs 1 = .int .i64 (ww : Int) := hJ 1 (by decide)
    have j2 : vs 2 = .pointer (some (lad.add ww)) := hJ 2 (by decide)
    have j3 : vs 3 = .pointer (some ⟨p ww + 1, 0, none⟩) := hJ 3 (by decide)
    have j4 : vs 4 = .int .i64 (ww : Int) := hJ 4 (by decide)
    have j5 : vs 5 = .int .i64 (cc : Int) := hJ 5 (by decide)
    have j6 : vs 6 = .agg (cm12 (cc : Int)).cells := hJ 6 (by decide)
    have j7 : vs 7 = .int .u64 (Df cc : Int) := hJ 7 (by decide)
    have j8 : vs 8 = .slice (some ada) l.length ca := hJ 8 (by decide)
    have j9 : vs 9 = .int .i64 (n : Int) := hJ 9 (by decide)
    have j10 : vs 10 = .pointer (some (ada.add n)) := hJ 10 (by decide)
    have j11 : vs 11 = .int .u8 x := hJ 11 (by decide)
    have j12 : vs 12 = .int .i64 x := hJ 12 (by decide)
    have j13 : vs 13 = .int .i64 (1 + x) := hJ 13 (by decide)
    have j17 : vs 17 = .int .i64 0 := hJ 17 (by decide)
    clear hJ
    simp only [actOf, tk1, tk0, dr1, dr0, Act.put, si1, st1, st0, Nat.reduceAdd]
    obtain ⟨A1, c1, q1, e5, z4, hat4, hq4, hlo4, kk4⟩ := StF.out (StY.st hF)
    have hky4 := StY.ky hF
    rw [e5, show vs 17 = _ from j17]
    have hpi := HPI.out
    have hqb := HQB.out
    have hbz := HBZwz.out
    have hbw := HBW.out
    have hgq := HGQ.out.size
    have kk : Kp (fun j => j = p ww + 1) wr w4 := kp_trans (kp_grew HGQ.out) kk4
    have HQ4 := Lib.hid hq4
    have HS1 : Hid ((S0.mv A1 c1).at w4) := Lib.hid hat4
    have HAT5 : Hid (∀ S ∈ M, S.at w4) := Lib.hid (fun S hS => at_kp (HAT.out S hS) kk (fun ad h => (HLW.out S hS ad h).imp id (fun h1 h3 => by have h3 : ad.block = p ww + 1 := h3; omega)))
    have HROW5 := Lib.hid (ownsRow_kp HROW.out kk (fun g h h3 => by
     have h1 := ownsRow_lt HROW.out g h
     have h3 : g = p ww + 1 := h3
     omega))
    have HKS5 : Hid (∀ i, i < 4 → KyAt w4 (p i + 1) (p i) (i : Int) (sdI seed i) (ksL seed 4 i) (usI (pl ++ [x]) i) (2 ^ 4)) := Lib.hid (fun i hi => by
     rw [usI_snoc]
     by_cases h : wvI x = i
     ·rw [if_pos h]
      have hi2 : i = ww := by rw [← h]; exact HWW.out
      rw [hi2, HU0.out]
      exact hky4
     ·rw [if_neg h, Nat.add_zero]
      have h9 : i ≠ ww := fun e => h (by rw [HWW.out, e])
      have h1 := HP.out i hi
      have h2 := HAP.out i ww hi HW4.out h9
      exact (HKS.out i hi).kp kk (fun h => by have h : p i + 1 = p ww + 1 := h; omega) (fun h => by have h : p i = p ww + 1 := h; omega))
    have HZK5 := Lib.hid (HZK.out.kp kk (fun h => by have h : qk = p ww + 1 := h; omega))
    have HZH5 := Lib.hid (HZH.out.kp kk (fun h => by have h : hb = p ww + 1 := h; omega))
    have HZN5 := Lib.hid (HZN.out.kp kk (fun h => by have h : hb + 1 = p ww + 1 := h; omega))
    have HLD5 : Hid (∀ i, i < 4 → w4.cell? (lad.add i) = some (.pointer (some ⟨p i + 1, 0, none⟩))) := Lib.hid (fun i hi => by
     have h1 := cell_blk (HLD.out i hi)
     rw [blk_add] at h1
     exact (World.cell?_of_block (by rw [blk_add]; exact kk.block lad.block h1 (FL.out ww HW4.out))).trans (HLD.out i hi))
    have HRR5 := Lib.hid ((HRR.out.kp kk (Nat.le_refl _) (fun ad e h1 h => FR.out ww HW4.out ad e h)).more kk.size)
    have HGG5 := Lib.hid (below_kp HGG.out kk HGG.out.size (fun i (h : i = p ww + 1) => by omega))
    have HBW5 : Hid (hb + 2 ≤ w4.heap.size) := Lib.hid (Nat.le_trans hbw kk.size)
    have HOA := Lib.hid (ownsRow_lt HROW.out)
    have HPAT : Hid (∀ S ∈ M ++ [S0.mv A1 c1], S.at w4) := Lib.hid (fun S hS => by
     rcases List.mem_append.1 hS with h | h
     ·exact HAT5.out S h
     ·cases List.mem_singleton.1 h
      exact HS1.out)
    have HFRS : Hid (∀ ad, A1 = some ad → S0.l = [] ∨ wr.heap.size ≤ ad.block) := Lib.hid (fun ad e => (hlo4 ad e).imp id (fun h => by omega))
    have HPA2 : Hid (∀ S ∈ M ++ [S0.mv A1 c1], ∀ ad, S.A = some ad → ∀ g, u7.ownBlock = some g → S.l = [] ∨ ad.block ≠ g) := Lib.hid (fun S hS ad e g hg => by
     rcases List.mem_append.1 hS with h | h
     ·exact HNE.out S h ad e g hg
     ·cases List.mem_singleton.1 h
      exact (HFRS.out ad e).imp id (fun h1 => by have := HOA.out g hg; omega))
    have HLW2 : Hid (∀ S ∈ M ++ [S0.mv A1 c1], ∀ ad, S.A = some ad → S.l = [] ∨ hb + 2 ≤ ad.block) := Lib.hid (fun S hS ad e => by
     rcases List.mem_append.1 hS with h | h
     ·exact HLW.out S h ad e
     ·cases List.mem_singleton.1 h
      exact (HFRS.out ad e).imp id (fun h1 => Nat.le_trans hbw h1))
    have HOK2 : Hid (∀ S ∈ M ++ [S0.mv A1 c1], S.ok) := Lib.hid (fun S hS => by
     rcases List.mem_append.1 hS with h | h
     ·exact HOKM.out S h
     ·cases List.mem_singleton.1 h
      exact SP.mv_ok HSO.out _ _)
    have HMV2 : Hid (MvL (nS seed Df l (n + 1)) (M ++ [S0.mv A1 c1])) := Lib.hid (by rw [HNS2.out]; exact HMV.out.snoc S0 A1 c1)
    obtain ⟨gs, hgs⟩ : ∃ g, (S0.mv A1 c1).C = g := ⟨_, rfl⟩
    clear hF hky4 e5 hat4 hq4 hlo4 kk4 kk hpi hqb hbz hbw hgq
    try clear j0
    try clear j1
    try clear j2
    try clear j3
    try clear j4
    try clear j5
    try clear j6
    try clear j7
    try clear j8
    try clear j9
    try clear j10
    try clear j11
    try clear j12
    try clear j13
    try clear j17
    have z4g : Ag w4 q1 gs.toList := by rw [← hgs]; exact z4
    clear z4
    have HSL1 : Hid ((Tryz.prog.info? 91).map (·.size) = some gs.toList.length) := Lib.hid (by rw [← hgs]; exact st_info)
    have HFO1 : Hid (Array.foldl (fun (cs : Array Value) (x : Value × Nat) => cs.setIfInBounds x.snd x.fst) (#[.int .u64 0, .int .i64 0, .int .i64 0, .int .i64 0, .int .i64 0, .int .u64 0, .int .u64 0, .int .u64 0, .int .u64 0, .int .u64 0, .int .u64 0, .int .u64 0, .int .u64 0, .int .u64 0, .int .u64 0, .int .u64 0, .int .u64 0, .int .u64 0, .int .u64 0, .int .u64 0, .int .u64 0, .int .u64 0, .int .u64 0, .slice none 0 0] : Array Value) gs.zipIdx 0 24 = gs) := Lib.hid (by rw [← hgs]; exact sp_fold (S0.mv A1 c1))
    have HONE1 : Hid (∀ u ∈ gs.toList, u.oneCell' = true) := Lib.hid (by rw [← hgs]; exact (S0.mv A1 c1).one')
    have HLEN1 : Hid (gs.toList.length = 24) := Lib.hid (by rw [← hgs]; rfl)
    have hgs24 : gs.size = 24 := by rw [← hgs]; rfl
    have HTS1 : Hid ((spL M).flatten ++ gs.toList = (spL (M ++ [S0.mv A1 c1])).flatten) := Lib.hid (by rw [spL_snoc, ← hgs])
    have hrow5 := HROW5.out
    have hm1 := z4g.cell
    have hn9 := HI4.out
    have hl9 := HL12.out
    have hb5 := HBW5.out
    have e49 : IntKind.i64.wrap ((n : Int) + 1) = ((n + 1 : Nat) : Int) := by rw [IntWalk.i64_in _ (by omega)]; omega
    have hc9 : (cc : Int) < 2 := by have := HC2.out; omega
    have hc0 : (0 : Int) ≤ (cc : Int) := by omega
    clear hgs z4g
    obtain ⟨kn, hkn⟩ : ∃ k, cntP pl cc = k := ⟨_, rfl⟩
    have HKN := Lib.hid hkn
    have ekn : IntKind.i64.wrap ((kn : Int) + 1) = ((kn + 1 : Nat) : Int) := by have := cntP_le pl cc; rw [hkn] at this; rw [IntWalk.i64_in _ (by omega)]; omega
    clear hkn
    by_cases hh : hadP pl cc ww = true
    ·have HH := Lib.hid hh
     go_wp2_with (first
      | (with_reducible refine wpList_load_mid rfl 91 (.tmp 13) rfl q1 0 rfl gs.toList _ hm1 hut rfl HSL1.out ?_; simp only [Array.toArray_toList])
      | (at_builtin; rw [HFO1.out]; refine wpList_append_at _ rfl (.tmp 70) (.tmp 72) 34 rfl (hb + 2) 91 i0 (.agg (#[.int .u64 0, .int .i64 0, .int .i64 0, .int .i64 0, .int .i64 0, .int .u64 0, .int .u64 0, .int .u64 0, .int .u64 0, .int .u64 0, .int .u64 0, .int .u64 0, .int .u64 0, .int .u64 0, .int .u64 0, .int .u64 0, .int .u64 0, .int .u64 0, .int .u64 0, .int .u64 0, .int .u64 0, .int .u64 0, .int .u64 0, .slice none 0 0] : Array Value)) 24 208 Tryz.underlying34 hi hz0 hz1 hz2 rfl (by decide) _ _ _ rfl (hrow5.alloc _) ⟨w4.heap.size, 0, none⟩ 1 1 gs.toList rfl (by rw [HLEN1.out]) (fun j u hj => cell_new24 w4 gs 91 j u hj) HONE1.out (by unfold maxLen; omega) (by omega) (by simp; omega) ?_; intro va w6 hva hga hoa; have K6 : Kp (fun g => hb + 2 ≤ g) w4 w6 := kp_grown (kp_alloc (kp_refl _ w4) _) hga (fun g e => .inl (own_base hrow5 g e)); have HZH6 := Lib.hid (HZH5.out.kp K6 (by omega)); have HZN6 := Lib.hid (HZN5.out.kp K6 (by omega)); have hcA : w6.cell? ⟨hb, cc * 4 + ww, none⟩ = some (.bool (hadP pl cc ww)) := ag_at HZH6.out _ (hadL_get pl cc ww HC2.out HW4.out); have hfA := ag_fr HZH6.out (cc * 4 + ww) (by rw [hadL_len]; have := HC2.out; have := HW4.out; omega); have hcB : w6.cell? ⟨hb + 1, cc, none⟩ = some (.int .i64 (kn : Int)) := (by rw [← HKN.out]; exact ag_at HZN6.out _ (cntL_get pl cc HC2.out)); have hfB := ag_fr HZN6.out cc (by rw [cntL_len]; exact HC2.out); rw [hh] at hcA))
     go_roundw
     case rel =>
      have z7 := HZH6.out.set1 (cc * 4 + ww) (.bool true) (by rw [hadL_len]; have := HC2.out; have := HW4.out; omega)
      have KH : Kp (fun g => hb ≤ g ∧ g < hb + 2) w6 (w6.setCell ⟨hb, cc * 4 + ww, none⟩ (.bool true)) := kp_set (kp_refl _ w6) (.inl ⟨Nat.le_refl _, by show hb < hb + 2; omega⟩) _
      have zN := HZN6.out.kp (kp_set (S := fun g => g = hb) (p := ⟨hb, cc * 4 + ww, none⟩) (kp_refl _ w6) (.inl rfl) (.bool true)) (by omega)
      have hcl : cntL pl = cntL (pl ++ [x]) := (cntL_had pl x (by rw [HCC.out, HWW.out]; exact HH.out)).symm
      rw [hcl] at zN
      rw [show cc * 4 + ww = cvI x * 4 + wvI x from by rw [HCC.out, HWW.out], hadL_set] at z7
      rw [show cvI x * 4 + wvI x = cc * 4 + ww from by rw [HCC.out, HWW.out]] at z7
      obtain ⟨hat6, hna6⟩ := app_at HPAT.out HPA2.out hga hoa
      have h46 := K6.size
      have h67 := KH.size
      have hqb := HQB.out
      refine ⟨n + 1, M ++ [S0.mv A1 c1], by omega, by go_num, by omega, HMV2.out, HOK2.out, fun S hS => at_kp (hat6 S hS) KH (fun ad e => (HLW2.out S hS ad e).imp id (fun h1 h2 => by omega)), hna6, HLW2.out, ?_, ?_, ?_, by rw [HTS.out]; exact z7, by rw [HTS.out]; exact zN, ?_, ?_, ?_⟩
      ·rw [← HTS1.out]
       exact ownsRow_kp hva KH (fun g h h3 => by have := own_base hva g h; omega)
      ·intro i hi
       rw [HTS.out]
       have h1 := HP.out i hi
       exact ((HKS5.out i hi).kp K6 (by omega) (by omega)).kp KH (by omega) (by omega)
      ·exact (HZK5.out.kp K6 (by omega)).kp KH (by omega)
      ·intro i hi
       have h1 := cell_blk (HLD5.out i hi)
       have h2 := HLB.out
       rw [blk_add] at h1
       exact (World.cell?_of_block (by rw [blk_add]; exact (kp_trans (S := fun g => hb ≤ g) (kp_mono K6 (fun g h => by omega)) (kp_mono KH (fun g h => h.1))).block lad.block h1 (by omega))).trans (HLD5.out i hi)
      ·exact (((HRR5.out.kp K6 (Nat.le_refl _) (fun ad e h1 h => by have := HRB.out ad e; omega)).more K6.size).kp KH (Nat.le_refl _) (fun ad e h1 h => by have := HRB.out ad e; omega)).more KH.size
      ·have g6 := below_kp HGG5.out K6 HGG5.out.size (fun i hi => by have := HWB.out; omega)
       exact below_kp g6 KH g6.size (fun i hi => by have := HWH.out; omega)
     case measure => have := HI4.out; simp [Go.RowKit.intOf] <;> omega
    ·have hh : hadP pl cc ww = false := by simpa using hh
     have HH := Lib.hid hh
     go_wp2_with (first
      | (with_reducible refine wpList_load_mid rfl 91 (.tmp 13) rfl q1 0 rfl gs.toList _ hm1 hut rfl HSL1.out ?_; simp only [Array.toArray_toList])
      | (at_builtin; rw [HFO1.out]; refine wpList_append_at _ rfl (.tmp 70) (.tmp 72) 34 rfl (hb + 2) 91 i0 (.agg (#[.int .u64 0, .int .i64 0, .int .i64 0, .int .i64 0, .int .i64 0, .int .u64 0, .int .u64 0, .int .u64 0, .int .u64 0, .int .u64 0, .int .u64 0, .int .u64 0, .int .u64 0, .int .u64 0, .int .u64 0, .int .u64 0, .int .u64 0, .int .u64 0, .int .u64 0, .int .u64 0, .int .u64 0, .int .u64 0, .int .u64 0, .slice none 0 0] : Array Value)) 24 208 Tryz.underlying34 hi hz0 hz1 hz2 rfl (by decide) _ _ _ rfl (hrow5.alloc _) ⟨w4.heap.size, 0, none⟩ 1 1 gs.toList rfl (by rw [HLEN1.out]) (fun j u hj => cell_new24 w4 gs 91 j u hj) HONE1.out (by unfold maxLen; omega) (by omega) (by simp; omega) ?_; intro va w6 hva hga hoa; have K6 : Kp (fun g => hb + 2 ≤ g) w4 w6 := kp_grown (kp_alloc (kp_refl _ w4) _) hga (fun g e => .inl (own_base hrow5 g e)); have HZH6 := Lib.hid (HZH5.out.kp K6 (by omega)); have HZN6 := Lib.hid (HZN5.out.kp K6 (by omega)); have hcA : w6.cell? ⟨hb, cc * 4 + ww, none⟩ = some (.bool (hadP pl cc ww)) := ag_at HZH6.out _ (hadL_get pl cc ww HC2.out HW4.out); have hfA := ag_fr HZH6.out (cc * 4 + ww) (by rw [hadL_len]; have := HC2.out; have := HW4.out; omega); have hcB : w6.cell? ⟨hb + 1, cc, none⟩ = some (.int .i64 (kn : Int)) := (by rw [← HKN.out]; exact ag_at HZN6.out _ (cntL_get pl cc HC2.out)); have hfB := ag_fr HZN6.out cc (by rw [cntL_len]; exact HC2.out); rw [hh] at hcA))
     go_roundw
     case rel =>
      have zN0 := HZN6.out.set1 (cc) (.int .i64 ((kn : Int) + 1)) (by rw [cntL_len]; exact HC2.out)
      have KH0 : Kp (fun g => hb ≤ g ∧ g < hb + 2) w6 (w6.setCell ⟨hb + 1, cc, none⟩ (.int .i64 ((kn : Int) + 1))) := kp_set (kp_refl _ w6) (.inl ⟨by show hb ≤ hb + 1; omega, by show hb + 1 < hb + 2; omega⟩) _
      have zH0 := HZH6.out.kp (kp_set (S := fun g => g = hb + 1) (p := ⟨hb + 1, cc, none⟩) (kp_refl _ w6) (.inl rfl) (.int .i64 ((kn : Int) + 1))) (by omega)
      have z7 := zH0.set1 (cc * 4 + ww) (.bool true) (by rw [hadL_len]; have := HC2.out; have := HW4.out; omega)
      have KH : Kp (fun g => hb ≤ g ∧ g < hb + 2) w6 ((w6.setCell ⟨hb + 1, cc, none⟩ (.int .i64 ((kn : Int) + 1))).setCell ⟨hb, cc * 4 + ww, none⟩ (.bool true)) := kp_set KH0 (.inl ⟨Nat.le_refl _, by show hb < hb + 2; omega⟩) _
      have zN := zN0.kp (kp_set (S := fun g => g = hb) (p := ⟨hb, cc * 4 + ww, none⟩) (kp_refl _ _) (.inl rfl) (.bool true)) (by omega)
      have hcl : (cntL pl).set cc (.int .i64 ((kn : Int) + 1)) = cntL (pl ++ [x]) := by
       have := cntL_new pl x (by rw [HCC.out, HWW.out]; exact HH.out)
       rw [HCC.out, HKN.out, show ((kn + 1 : Nat) : Int) = (kn : Int) + 1 from by omega] at this
       exact this
      rw [hcl] at zN
      rw [show cc * 4 + ww = cvI x * 4 + wvI x from by rw [HCC.out, HWW.out], hadL_set] at z7
      rw [show cvI x * 4 + wvI x = cc * 4 + ww from by rw [HCC.out, HWW.out]] at z7
      obtain ⟨hat6, hna6⟩ := app_at HPAT.out HPA2.out hga hoa
      have h46 := K6.size
      have h67 := KH.size
      have hqb := HQB.out
      refine ⟨n + 1, M ++ [S0.mv A1 c1], by omega, by go_num, by omega, HMV2.out, HOK2.out, fun S hS => at_kp (hat6 S hS) KH (fun ad e => (HLW2.out S hS ad e).imp id (fun h1 h2 => by omega)), hna6, HLW2.out, ?_, ?_, ?_, by rw [HTS.out]; exact z7, by rw [HTS.out]; exact zN, ?_, ?_, ?_⟩
      ·rw [← HTS1.out]
       exact ownsRow_kp hva KH (fun g h h3 => by have := own_base hva g h; omega)
      ·intro i hi
       rw [HTS.out]
       have h1 := HP.out i hi
       exact ((HKS5.out i hi).kp K6 (by omega) (by omega)).kp KH (by omega) (by omega)
      ·exact (HZK5.out.kp K6 (by omega)).kp KH (by omega)
      ·intro i hi
       have h1 := cell_blk (HLD5.out i hi)
       have h2 := HLB.out
       rw [blk_add] at h1
       exact (World.cell?_of_block (by rw [blk_add]; exact (kp_trans (S := fun g => hb ≤ g) (kp_mono K6 (fun g h => by omega)) (kp_mono KH (fun g h => h.1))).block lad.block h1 (by omega))).trans (HLD5.out i hi)
      ·exact (((HRR5.out.kp K6 (Nat.le_refl _) (fun ad e h1 h => by have := HRB.out ad e; omega)).more K6.size).kp KH (Nat.le_refl _) (fun ad e h1 h => by have := HRB.out ad e; omega)).more KH.size
      ·have g6 := below_kp HGG5.out K6 HGG5.out.size (fun i hi => by have := HWB.out; omega)
       exact below_kp g6 KH g6.size (fun i hi => by have := HWH.out; omega)
     case measure => have := HI4.out; simp [Go.RowKit.intOf] <;> omega
  ·obtain rfl : n = l.length := by omega
   rw [List.take_length] at zn
   obtain ⟨B, cap, rfl, hB, hcB1, hcB2, hbB⟩ := own_spL hrow (by rw [hmv.len]; simp [nS])
   have hspM : Sps wr B M := ⟨hB, hok, hat⟩
   have HML : Hid (M.length = l.length) := Lib.hid (by rw [hmv.len]; simp [nS])
   have HKM : Hid (∀ y, Grew wr y → y.rangeAt qk 0 kc.toList) := Lib.hid (fun y g => (zk.grew g).cell)
   have HKP : Hid (∀ y, Grew wr y → (kpN seed RA Rc).at y) := Lib.hid (fun y g => rRr.gr g)
   have HSP : Hid (∀ y, Grew wr y → Sps y B M) := Lib.hid (fun y g => hspM.gr g)
   have HSY : Hid (∀ y, Grew wr y → Std y) := Lib.hid (fun y g => HS.out.grew (grew_trans hg g))
   have HZN : Hid (∀ y, Grew wr y → Ag y (hb + 1) (cntL l)) := Lib.hid (fun y g => zn.grew g)
   have HGWR := Lib.hid hg
   have HMV := Lib.hid hmv
   have HEN : Hid (∀ c, c < 2 → enoughB (kpN seed RA Rc) (Df c) M = decide (3 ≤ cntP l c)) := Lib.hid (fun c hc => enough_cnt HDNE.out HL12.out HPA.out HMV.out c hc)
   clear hrow hmv hok hat hne hlow hks zk zh zn hld rRr hg hB0 hlt hn hi hz0 hz1 hz2 hspM hB hcB1 hcB2 hbB HP HAP HLB HRB FL FR HRA HDNE HQB HHB HWB HWH HBE
   generalize wr = wo at *
   go_wp2_with fail
   go_loopw [15] (fun iv wA => ∃ c : Nat, c ≤ 2 ∧ iv = .int .i64 (c : Int) ∧ Grew wo wA) (fun iv _ => 2 - (Go.RowKit.intOf iv).toNat)
   case atStart => exact ⟨0, by omega, rfl, grew_refl _⟩
   case round =>
    obtain ⟨c, hc, rfl, ga⟩ := hrel
    by_cases hlt : c < 2
    ·have h2 : (c : Int) < 2 := by omega
     have h0 : (0 : Int) ≤ (c : Int) := by omega
     have HC := Lib.hid hlt
     have GA := Lib.hid ga
     have CCc := Lib.hid (fun W => c12_ok (c : Int) W)
     obtain ⟨mcm, LE, er, hcase, CM⟩ : ∃ (mcm : Cm) (LE : List SP) (er : Int), ((3 ≤ cntP l c ∧ mcm = cm12 (c : Int) ∧ LE = chosen (kpN seed RA Rc) (Df c) M ∧ er = 0) ∨ (cntP l c < 3 ∧ mcm = Cm.zero ∧ LE = [] ∧ er = 8)) ∧ Hid (∀ W, Std W → (kpN seed RA Rc).at W → Sps W B M → Calls Tryz.prog 34 #[.agg kc, .agg (cm12 (c : Int)).cells, .slice B l.length cap] W fun e w' => ∃ B k M', e = .returned (.tuple #[.agg (ctC mcm B LE.length k), .int .i64 er]) ∧ MvL LE M' ∧ Sps w' B M' ∧ (∀ ad, B = some ad → W.heap.size ≤ ad.block ∧ ad.block < w'.heap.size) ∧ (∀ S ∈ M', ∀ ad, S.A = some ad → S.l = [] ∨ W.heap.size ≤ ad.block) ∧ Grew W w') := by
      have hM12 : M.length ≤ 100000 := by rw [HML.out]; have := HL12.out; omega
      by_cases h3 : 3 ≤ cntP l c
      ·have hen : enoughB (kpN seed RA Rc) (dgC (cm12 (c : Int))) M = true := by rw [HDF.out, HEN.out c hlt]; exact decide_eq_true h3
       refine ⟨cm12 (c : Int), chosen (kpN seed RA Rc) (Df c) M, 0, .inl ⟨h3, rfl, rfl, rfl⟩, Lib.hid (fun W q1 q2 q3 => ?_)⟩
       have := mdmake_ok (cm12 (c : Int)) (kpN_ok seed RA Rc) B cap M hM12 (ok12 (c : Int) (by omega)) W q1 q2 q3 hen
       have h33 := chosen_len hen
       rw [HKC.out, HML.out] at this
       rw [HDF.out] at this h33
       refine this.mono ?_
       rintro e w' ⟨B', k', M', rfl, m1, m2, m3, m4, m5⟩
       refine ⟨B', k', M', rfl, m1, m2, fun ad h => ⟨m3 ad h, ?_⟩, m4, m5⟩
       obtain ⟨q9, e9, hq9, -⟩ := m2.get 0 (by rw [m1.len, h33]; exact (by decide : 0 < ((2 * (1 : Int)) + 1).toNat))
       rw [h] at e9; cases e9; exact hq9
      ·have hen : enoughB (kpN seed RA Rc) (dgC (cm12 (c : Int))) M = false := by rw [HDF.out, HEN.out c hlt]; exact decide_eq_false h3
       refine ⟨Cm.zero, [], 8, .inr ⟨by omega, rfl, rfl, rfl⟩, Lib.hid (fun W q1 q2 q3 => ?_)⟩
       have := mdmake_few (cm12 (c : Int)) (kpN_ok seed RA Rc) B cap M hM12 (ok12 (c : Int) (by omega)) W q1 q2 q3 hen
       rw [HKC.out, HML.out] at this
       refine this.mono ?_
       rintro e w' ⟨rfl, gg⟩
       exact ⟨none, 0, [], rfl, MvL.nil, ⟨fun k hk => by simp [spL] at hk, by simp, by simp⟩, (fun ad h => by cases h), by simp, gg⟩
     have HCASE := Lib.hid hcase
     clear ga hlt hc hcase
     go_upto_region 25 with fail
     refine wp_region_latev 9 10 (fun ix9 => match ix9 with
      | 0 => fun v => v = .agg kc
      | 1 => fun v => v = .int .i64 (c : Int)
      | 2 => fun v => v = .agg (cm12 (c : Int)).cells
      | 3 => fun v => v = .slice B l.length cap
      | 4 => fun _ => True
      | 5 => fun v => ∃ A k, v = .tuple #[.agg (ctC mcm A LE.length k), .int .i64 er]
      | 6 => fun _ => True
      | 7 => fun v => v = .int .i64 er
      | 8 => fun _ => True
      | 9 => fun _ => True
      | _ => fun _ => True) (fun ix9 => match ix9 with
      | 4 => fun lo hi v w => CtS w wr.heap.size LE lo hi v (fun A k => .tuple #[.agg (ctC mcm A LE.length k), .int .i64 er])
      | 5 => fun lo hi v w => CtS w wr.heap.size LE lo hi v (fun A k => .tuple #[.agg (ctC mcm A LE.length k), .int .i64 er])
      | 6 => fun lo hi v w => CtS w wr.heap.size LE lo hi v (fun A k => .agg (ctC mcm A LE.length k))
      | 8 => fun lo hi v w => AgZ w wr.heap.size lo hi (#[.int .i64 0, .int .i64 0, .int .i64 0, .int .i64 0, .int .i64 0, .slice none 0 0] : Array Value).toList v
      | _ => fun _ _ _ _ => True) (fun ix9 => match ix9 with
      | 5 => 4
      | 6 => 5
      | ix8 => ix8) (fun ix9 => match ix9 with
      | 5 => 4
      | 6 => 4
      | ix8 => ix8) (fun ix9 => match ix9 with
      | 7 => true
      | _ => false) 8 (fun v W => CtF wr mcm LE v W) rfl (by kernel_rfl) (by kernel_rfl) (by kernel_rfl) (by kernel_rfl) rfl rfl (by decide) (fun _ => trivial) ?_ ?_ ?_ ?_ (fun o ho => by cases ho; rfl) (fun v x y h hg => CtF.gr h hg) ?_
     ·refine ⟨?_, ?_, ?_, ?_, ?_, ?_, ?_, ?_, ?_, trivial⟩
      ·intro vs lo hi y hg hd hvia
       replace hg : Grew wr y := hg
       clear hvia
       simp only [actOf, tk1, tk0, dr1, dr0, Act.put, si1, st1, st0, Nat.reduceAdd]
       have hg0 := hg
       replace hg := grew_trans GA.out hg0
       have hm := HKM.out y hg
       go_wp2_with (with_reducible refine wpList_load_mid rfl 50 (.tmp 6) rfl qk 0 rfl kc.toList _ hm hkt rfl HSKL.out ?_; simp only [Array.toArray_toList])
       first | exact ⟨rfl, _, rfl, grew_refl _, rfl⟩ | exact ⟨rfl, _, rfl, grew_refl _, rfl, trivial⟩
      ·intro vs lo hi y hg hd hvia
       replace hg : Grew wr y := hg
       clear hvia
       simp only [actOf, tk1, tk0, dr1, dr0, Act.put, si1, st1, st0, Nat.reduceAdd]
       go_wp2_with fail
       first | exact ⟨rfl, _, rfl, grew_refl _, rfl⟩ | exact ⟨rfl, _, rfl, grew_refl _, rfl, trivial⟩
      ·intro vs lo hi y hg hd hvia
       replace hg : Grew wr y := hg
       obtain ⟨h1, _⟩ := hd
       replace h1 := h1 rfl
       clear hvia
       simp only [actOf, tk1, tk0, dr1, dr0, Act.put, si1, st1, st0, Nat.reduceAdd]
       rw [show vs 1 = _ from h1]
       go_wp2_with (go_at_call 44; refine (CCc.out y).mono ?_; rintro e z ⟨rfl, gz⟩)
       exact ⟨rfl, _, rfl, gz, rfl, trivial⟩
      ·intro vs lo hi y hg hd hvia
       replace hg : Grew wr y := hg
       clear hvia
       simp only [actOf, tk1, tk0, dr1, dr0, Act.put, si1, st1, st0, Nat.reduceAdd]
       go_wp2_with fail
       first | exact ⟨rfl, _, rfl, grew_refl _, rfl⟩ | exact ⟨rfl, _, rfl, grew_refl _, rfl, trivial⟩
      ·intro vs lo hi y hg hd hvia
       replace hg : Grew wr y := hg
       obtain ⟨h0, h2, h3, _⟩ := hd
       replace h0 := h0 rfl
       replace h2 := h2 rfl
       replace h3 := h3 rfl
       clear hvia
       simp only [actOf, tk1, tk0, dr1, dr0, Act.put, si1, st1, st0, Nat.reduceAdd]
       rw [show vs 0 = _ from h0, show vs 2 = _ from h2, show vs 3 = _ from h3]
       have hg0 := hg
       replace hg := grew_trans GA.out hg0
       have hgS := HSY.out y hg
       have hks := HKP.out y hg
       have hsp := HSP.out y hg
       go_wp2_with (go_at_call 34; refine (CM.out y hgS hks hsp).mono ?_; rintro e z ⟨B9, k9, M9, rfl, hmv9, hsp9, hf1, hf2, gz⟩)
       exact ⟨rfl, _, rfl, gz, trivial, ⟨B9, k9, M9, rfl, hmv9, hsp9, hg0.size, hf1, fun S hS ad h => by
        rcases hf2 S hS ad h with h1 | h1
        ·exact .inl h1
        ·exact (at_lt (hsp9.at_ S hS) ad h).imp id (fun h2 => ⟨h1, h2⟩)⟩⟩
      ·intro vs lo hi y hg hd hvia
       replace hg : Grew wr y := hg
       obtain ⟨h4, _⟩ := hd
       replace h4 := h4 rfl
       have hv9 : (fun lo hi v w => CtS w wr.heap.size LE lo hi v (fun A k => .tuple #[.agg (ctC mcm A LE.length k), .int .i64 er])) (lo 4) (hi 4) (vs 4) y := hvia rfl
       clear hvia
       simp only [actOf, tk1, tk0, dr1, dr0, Act.put, si1, st1, st0, Nat.reduceAdd]
       obtain ⟨A9, c9, M9, e9, hr9⟩ := CtS.out hv9
       rw [e9]
       go_wp2_with fail
       exact ⟨rfl, _, rfl, grew_refl _, ⟨A9, ⟨c9, rfl⟩⟩, ⟨A9, c9, M9, rfl, hr9⟩⟩
      ·intro vs lo hi y hg hd hvia
       replace hg : Grew wr y := hg
       obtain ⟨h5, _⟩ := hd
       replace h5 := h5 rfl
       have hv9 : (fun lo hi v w => CtS w wr.heap.size LE lo hi v (fun A k => .tuple #[.agg (ctC mcm A LE.length k), .int .i64 er])) (lo 5) (hi 5) (vs 5) y := hvia rfl
       clear hvia
       simp only [actOf, tk1, tk0, dr1, dr0, Act.put, si1, st1, st0, Nat.reduceAdd]
       obtain ⟨A9, c9, M9, e9, hr9⟩ := CtS.out hv9
       rw [e9]
       go_wp2_with fail
       exact ⟨rfl, _, rfl, grew_refl _, ⟨A9, c9, M9, rfl, hr9⟩⟩
      ·intro vs lo hi y hg hd hvia
       replace hg : Grew wr y := hg
       obtain ⟨h5, _⟩ := hd
       replace h5 := h5 rfl
       clear hvia
       simp only [actOf, tk1, tk0, dr1, dr0, Act.put, si1, st1, st0, Nat.reduceAdd]
       obtain ⟨A9, c9, e9⟩ := h5
       rw [e9]
       go_wp2_with fail
       first | exact ⟨rfl, _, rfl, grew_refl _, rfl⟩ | exact ⟨rfl, _, rfl, grew_refl _, rfl, trivial⟩
      ·intro vs lo hi y hg hd hvia
       replace hg : Grew wr y := hg
       clear hvia
       simp only [actOf, tk1, tk0, dr1, dr0, Act.put, si1, st1, st0, Nat.reduceAdd]
       go_wp2_with fail
       exact ⟨rfl, _, rfl, grew_alloc (grew_refl _) _, ⟨y.heap.size, rfl, Ag.new y 36 (#[.int .i64 0, .int .i64 0, .int .i64 0, .int .i64 0, .int .i64 0, .slice none 0 0] : Array Value), hg.size, Nat.le_refl _, by show y.heap.size < (y.alloc _).heap.size; simp⟩⟩
     ·refine ⟨(fun h => absurd h (by decide)), (fun h => absurd h (by decide)), (fun h => absurd h (by decide)), (fun h => absurd h (by decide)), (fun h => absurd h (by decide)), (fun h => absurd h (by decide)), (fun h => absurd h (by decide)), ?_, (fun h => absurd h (by decide)), (fun h => absurd h (by decide)), trivial⟩
      ·intro _ vs y hd
       obtain ⟨h5, _⟩ := hd
       replace h5 := h5 rfl
       simp only [actOf, tk1, tk0, dr1, dr0, Act.put, si1, st1, st0, Nat.reduceAdd]
       obtain ⟨A9, c9, e9⟩ := h5
       rw [e9]
       go_wp2_with fail
       first | exact ⟨rfl, _, rfl, grew_refl _, rfl⟩ | exact ⟨rfl, _, rfl, grew_refl _, rfl, trivial⟩
     ·intro i lo hi v x y h hg
      match i, h with
      | 4, h => exact CtS.gr h hg
      | 5, h => exact CtS.gr h hg
      | 6, h => exact CtS.gr h hg
      | 8, h => exact AgZ.gr h hg
      | 0, _ => trivial
      | 1, _ => trivial
      | 2, _ => trivial
      | 3, _ => trivial
      | 7, _ => trivial
      | m + 9, _ => trivial
     ·intro vs lo hi y hg hJ hK hB hD
      replace hg : Grew wr y := hg
      have k98 := hK 4 (by decide) rfl
      have b98 := hB 4 (by decide) rfl
      have k93 := hK 5 (by decide) rfl
      have b93 := hB 5 (by decide) rfl
      have k99 := hK 6 (by decide) rfl
      have b99 := hB 6 (by decide) rfl
      have k16 := hK 8 (by decide) rfl
      have b16 := hB 8 (by decide) rfl
      have d98_16 := hD 4 (by decide) rfl 8 (by decide) rfl (by decide)
      have d93_16 := hD 5 (by decide) rfl 8 (by decide) rfl (by decide)
      have d99_16 := hD 6 (by decide) rfl 8 (by decide) rfl (by decide)
      clear hK hB hD
      have j0 : vs 0 = .agg kc := hJ 0 (by decide) rfl
      have j1 : vs 1 = .int .i64 (c : Int) := hJ 1 (by decide) rfl
      have j2 : vs 2 = .agg (cm12 (c : Int)).cells := hJ 2 (by decide) rfl
      have j3 : vs 3 = .slice B l.length cap := hJ 3 (by decide) rfl
      clear hJ
      simp only [actOf, tk1, tk0, dr1, dr0, Act.put, si1, st1, st0, Nat.reduceAdd]
      obtain ⟨A7, k7c, M7, e56, hmv7, hsp7, hb7, hr7, hs7⟩ := CtS.out k99
      obtain ⟨q, e7, zq, hBq, hql, hqh⟩ := AgZ.out k16
      rw [e56, e7]
      have HTH : Hid (y.there q 0 (ctC mcm A7 LE.length k7c).size) := Lib.hid (zq.thereN 6 rfl)
      have HSI : Hid ((Tryz.prog.info? 36).map (·.size) = some (ctC mcm A7 LE.length k7c).size) := Lib.hid ct_info
      have HON := Lib.hid (ctC_one mcm A7 LE.length k7c)
      have z4 := Ag.set (vs := (ctC mcm A7 LE.length k7c).toList) zq rfl
      have k4 := setCells_kp (ctC mcm A7 LE.length k7c).toList q 0 y
      have hsp8 := hsp7.kpx k4 (fun ad h e => by have := hr7 ad h; rcases d99_16 with h2 | h2 <;> omega) (fun S hS ad h => (hs7 S hS ad h).imp id (fun h1 e => by rcases d99_16 with h2 | h2 <;> omega))
      have HF : Hid (CtF wr mcm LE (.pointer (some ⟨q, 0, none⟩)) (y.setCells q 0 (ctC mcm A7 LE.length k7c).toList)) := Lib.hid ⟨A7, k7c, M7, q, rfl, z4, hmv7, hsp8, by omega, fun ad h => by have := hr7 ad h; omega, fun S hS ad h => (hs7 S hS ad h).imp id (fun h1 => by omega), setCells_grew (o := 0) (b := q) _ hg (by omega)⟩
      clear hg z4 k4 zq hsp7 hsp8 hmv7
      generalize ctC mcm A7 LE.length k7c = gs' at *
      go_wp2_with (with_reducible refine wpList_store_mid rfl 36 (.tmp 16) (.tmp 99) rfl q 0 gs' rfl rfl HTH.out HSI.out HON.out ?_)
      exact HF.out
     ·intro vs w5 hF hJ
      have j0 : vs 0 = .agg kc := hJ 0 (by decide)
      have j1 : vs 1 = .int .i64 (c : Int) := hJ 1 (by decide)
      have j2 : vs 2 = .agg (cm12 (c : Int)).cells := hJ 2 (by decide)
      have j3 : vs 3 = .slice B l.length cap := hJ 3 (by decide)
      have j7 : vs 7 = .int .i64 er := hJ 7 (by decide)
      clear hJ
      simp only [actOf, tk1, tk0, dr1, dr0, Act.put, si1, st1, st0, Nat.reduceAdd]
      obtain ⟨A7, k7, M7, q7, e7, z7, hmv7, hsp7, hq7, hlo7, hls7, g5⟩ := CtF.out hF
      rw [e7, show vs 7 = _ from j7]
      have GW5 := grew_trans GA.out g5
      have hcn := ag_at (HZN.out w5 GW5) c (cntL_get l c HC.out)
      have G5 := Lib.hid GW5
      have Z7 := Lib.hid z7
      have M7H := Lib.hid hmv7
      have S7H := Lib.hid hsp7
      clear hF e7 z7 hmv7 hsp7 hq7 hlo7 hls7 g5 GW5
      try clear j0
      try clear j1
      try clear j2
      try clear j3
      try clear j7
      have E9 := Lib.hid (show IntKind.i64.wrap ((c : Int) + 1) = ((c + 1 : Nat) : Int) by rw [IntWalk.i64_in _ (by omega)]; omega)
      rcases HCASE.out with ⟨h3, rfl, rfl, rfl⟩ | ⟨h3, rfl, rfl, rfl⟩
      ·have e106 : decide ((3 : Int) ≤ (cntP l c : Int)) = true := decide_eq_true (by omega)
       have e106n : decide (3 ≤ cntP l c) = true := decide_eq_true (by omega)
       have hen : enoughB (kpN seed RA Rc) (dgC (cm12 (c : Int))) M = true := by rw [HDF.out, HEN.out c HC.out]; exact decide_eq_true h3
       have h33 := chosen_len hen
       rw [HDF.out] at h33
       have hl3 : (chosen (kpN seed RA Rc) (Df c) M).length = 3 := by rw [h33]; rfl
       have z7 := Z7.out
       rw [hl3] at z7
       have hm3 : M7.length = 3 := by rw [M7H.out.len, hl3]
       have hmvE : mvE (kpN seed RA Rc) (cm12 (c : Int)) M7 = 0 := by
        rw [mvE_mv M7H.out]
        have := mv_chosen (K := kpN seed RA Rc) (ok12 (c : Int) (by have := HC.out; omega)) hen
        rw [HDF.out] at this
        exact this
       obtain ⟨cd, hcd⟩ : ∃ v, ctC (cm12 (c : Int)) A7 3 k7 = v := ⟨_, rfl⟩
       have hrc := ct_cmd z7
       have hsc : w5.cell? ⟨q7, 5, none⟩ = some (.slice A7 3 k7) := ag_at z7 5 rfl
       rw [hcd] at z7
       have E1 : ∀ W, (Op.equalIn 10000 33 (.agg (cm12 (c : Int)).cells) (.agg (cm12 (c : Int)).cells)).run Tryz.prog W = .ok true W := fun W => by
        have := cm_eq (cm12 (c : Int)) (cm12 (c : Int)) W
        rw [show (cm12 (c : Int)).v = .agg (cm12 (c : Int)).cells from rfl] at this
        simpa using this
       have XV : Hid (∀ y : Gr w5, Calls Tryz.prog 23 #[.agg kc, .agg cd] y.val fun e w' => e = .returned (.int .i64 0) ∧ Grew y.val w') := Lib.hid (fun y => by
        have := mdvalid_ok (cm12 (c : Int)) (kpN_ok seed RA Rc) A7 k7 M7 (by omega) y.val (HSY.out _ (grew_trans G5.out y.ok)) (HKP.out _ (grew_trans G5.out y.ok)) (S7H.out.gr y.ok)
        rw [hm3, hcd, HKC.out, hmvE] at this
        exact this)
       have XC : Hid (∀ y : Gr w5, Calls Tryz.prog 44 #[.int .i64 (c : Int)] y.val fun e w' => e = .returned (.agg (cm12 (c : Int)).cells) ∧ Grew y.val w') := Lib.hid (fun y => CCc.out y.val)
       have YK : Hid (∀ y : Gr w5, y.val.rangeAt qk 0 kc.toList) := Lib.hid (fun y => HKM.out y.val (grew_trans G5.out y.ok))
       have Y7 : Hid (∀ y : Gr w5, y.val.rangeAt q7 0 cd.toList) := Lib.hid (fun y => (z7.grew y.ok).cell)
       have YC : Hid (∀ y : Gr w5, y.val.rangeAt q7 0 (cm12 (c : Int)).cells.toList) := Lib.hid (fun y j v hj => by have := hrc j v hj; exact cell_gr this y.ok)
       have YS : ∀ y : Gr w5, y.val.cell? ⟨q7, 5, none⟩ = some (.slice A7 3 k7) := fun y => cell_gr hsc y.ok
       have HSC : Hid ((Tryz.prog.info? 36).map (·.size) = some cd.toList.length) := Lib.hid (by rw [← hcd]; exact ct_info)
       have SIC : Hid ((Tryz.prog.info? 33).map (·.size) = some (cm12 (c : Int)).cells.toList.length) := Lib.hid (show _ = some 5 by kernel_rfl)
       have huc := Tryz.underlying33
       clear z7 hm3 hmvE hcd hrc hsc hen h33 hl3 h3 Z7 M7H S7H CCc
       generalize (cm12 (c : Int)).cells = gc at *
       go_upto_region 28 with fail
       clear hcn e106 e106n
       refine wp_region_grew (grew_refl w5) (by kernel_rfl) (by kernel_rfl) ?_
       repeat (first
        | (go_big_quiet_want; refine quiet_load_mid 50 (.tmp 6) rfl qk 0 rfl kc.toList _ YK.out hkt rfl HSKL.out ?_; simp only [Act.put, List.setIfInBounds_toArray, List.set_cons_succ, List.set_cons_zero, Array.toArray_toList]; go_big_quiet_on)
        | (go_big_quiet_want; refine quiet_load_mid 36 (.tmp 16) rfl q7 0 rfl cd.toList _ Y7.out hct rfl HSC.out ?_; simp only [Act.put, List.setIfInBounds_toArray, List.set_cons_succ, List.set_cons_zero, Array.toArray_toList]; go_big_quiet_on)
        | (go_big_quiet_want; refine quiet_load_mid 33 (.tmp 116) rfl q7 0 rfl gc.toList _ YC.out huc rfl SIC.out ?_; simp only [Act.put, List.setIfInBounds_toArray, List.set_cons_succ, List.set_cons_zero, Array.toArray_toList]; go_big_quiet_on)
        | (go_big_quiet_step (first
         | (go_at_call 23; exact callG (XV.out _))
         | (go_at_call 44; exact callG (XC.out _)))))
       refine wpQuiet_nil ?_
       rintro wG ⟨⟨wG', gG⟩, rfl⟩
       have e9 := E9.out
       go_wp2_with fail
       go_roundw
       case rel => exact ⟨c + 1, by have := HC.out; omega, by go_num, grew_trans G5.out gG⟩
       case measure => have := HC.out; simp [Go.RowKit.intOf] <;> omega
      ·have e106 : decide ((3 : Int) ≤ (cntP l c : Int)) = false := decide_eq_false (by omega)
       have e106n : decide (3 ≤ cntP l c) = false := decide_eq_false (by omega)
       clear h3 Z7 M7H S7H CCc
       go_upto_region 28 with fail
       clear hcn e106 e106n
       refine wp_region_grew (grew_refl w5) (by kernel_rfl) (by kernel_rfl) ?_
       repeat (go_big_quiet_step (first | fail))
       refine wpQuiet_nil ?_
       rintro wG ⟨⟨wG', gG⟩, rfl⟩
       have e9 := E9.out
       go_wp2_with fail
       go_roundw
       case rel => exact ⟨c + 1, by have := HC.out; omega, by go_num, grew_trans G5.out gG⟩
       case measure => have := HC.out; simp [Go.RowKit.intOf] <;> omega
    ·obtain rfl : c = 2 := by omega
     have GF := grew_trans HGWR.out ga
     go_wp2_with fail
     go_ret
     exact ⟨rfl, GF⟩
end Go.Proofs.YtpppegnojmnicaaGreatDoor
