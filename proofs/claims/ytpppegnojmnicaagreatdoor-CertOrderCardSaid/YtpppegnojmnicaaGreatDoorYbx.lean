/- CertOrder: the law (mkcor.py). -/
import Derived.Test.YtpppegnojmnicaaGreatDoorYbw
namespace Go.Proofs.YtpppegnojmnicaaGreatDoor
set_option linter.unusedSimpArgs false
set_option linter.unusedVariables false
open Go.RowKit
set_option linter.unusedVariables false
set_option linter.unusedSimpArgs false
set_option maxRecDepth 100000 in
set_option maxHeartbeats 8000000 in
theorem certOrder_law (seed : Int) (hsd : U64 seed) (Aa : Option Addr) (ca : Nat) (la : List Int) (hla : la.length ≤ ca) (Ab : Option Addr) (cb : Nat) (lb : List Int) (hlb : lb.length ≤ cb) (hpa : ∀ x ∈ la, 0 ≤ x ∧ x ≤ 255) (hpb : ∀ x ∈ lb, 0 ≤ x ∧ x ≤ 255) (bad : Int) (hbad : 0 ≤ bad ∧ bad ≤ 255) (xv yv : Int) (hxv : 0 ≤ xv ∧ xv ≤ 65535) (hyv : 0 ≤ yv ∧ yv ≤ 65535)
    (w : World) (hS : Std w) (hra : Rd w w.heap.size Aa (la.map (Value.int .u8))) (hrb : Rd w w.heap.size Ab (lb.map (Value.int .u8))) :
    Calls Tryz.prog 9 #[.int .u64 seed, .slice Aa la.length ca, .slice Ab lb.length cb, .int .u8 bad, .int .u16 xv, .int .u16 yv] w fun e w' => e = .returned (.bool true) ∧ Grew w w' := by
  have CK := Lib.hid (kn12 w hS)
  have HS := Lib.hid hS
  have CE0 := Lib.hid (fun W => keys_ok seed hsd 2 (by omega) W)
  have hkt := Tryz.underlying50
  have hut := Tryz.underlying91
  have hct := Tryz.underlying36
  obtain ⟨i0, hi, hz0, hz1, hz2⟩ := info_parts st_inf
  clear hS
  by_cases hla4 : la.length < 4
  · have ea : decide ((la.length : Int) < 4) = true := decide_eq_true (by omega)
    clear hra hrb hpa hpb hi hz0 hz1 hz2 hla4
    go_enter Tryz.func9, Tryz.ntmps9
    go_wp2_with fail
    refine CK.out.mono ?_
    rintro e w0 ⟨rfl, G0⟩
    clear CK
    go_wp2_with fail
    go_ret
    exact ⟨rfl, G0⟩
  by_cases hlb4 : lb.length < 4
  · have ea : decide ((la.length : Int) < 4) = false := decide_eq_false (by omega)
    have eb : decide ((lb.length : Int) < 4) = true := decide_eq_true (by omega)
    clear hra hrb hpa hpb hi hz0 hz1 hz2 hla4 hlb4
    go_enter Tryz.func9, Tryz.ntmps9
    go_wp2_with fail
    refine CK.out.mono ?_
    rintro e w0 ⟨rfl, G0⟩
    clear CK
    go_wp2_with fail
    go_ret
    exact ⟨rfl, G0⟩
  have ea : decide ((la.length : Int) < 4) = false := decide_eq_false (by omega)
  have eb : decide ((lb.length : Int) < 4) = false := decide_eq_false (by omega)
  have HLA : Hid (4 ≤ la.length) := Lib.hid (by omega)
  have HLB4 : Hid (4 ≤ lb.length) := Lib.hid (by omega)
  have HRA := Lib.hid hra
  have HRBB := Lib.hid hrb
  have HPA := Lib.hid hpa
  have HPB := Lib.hid hpb
  clear hra hrb hpa hpb hla4 hlb4
  go_enter Tryz.func9, Tryz.ntmps9
  go_wp2_with fail
  refine CK.out.mono ?_
  rintro e w0 ⟨rfl, G0⟩
  clear CK
  have CE := CE0.out w0
  rw [show ((2 : Nat) : Int) = 2 from rfl] at CE
  clear CE0
  go_wp2_with fail
  refine CE.mono ?_
  clear CE
  rintro e w1 ⟨LA, Lc, RA, Rc, p, rfl, KS, rL, rR, FL0, FR0, gk⟩
  have G1 := grew_trans G0 gk
  obtain ⟨lad, hLA, -, -⟩ := rL 0 (by simp [ptrL])
  subst hLA
  obtain ⟨kc, hkc⟩ : ∃ v, kyS 1 RA 4 Rc 2 = v := ⟨_, rfl⟩
  have HSK : Hid ((Tryz.prog.info? 50).map (·.size) = some (kyS 1 RA 4 Rc 2).size) := Lib.hid (by kernel_rfl)
  have HSKL : Hid ((Tryz.prog.info? 50).map (·.size) = some (kyS 1 RA 4 Rc 2).toList.length) := Lib.hid (by kernel_rfl)
  have HOK : Hid ((kyS 1 RA 4 Rc 2).all (·.oneCell') = true) := Lib.hid (by simp [kyS, Value.oneCell'])
  have HKC : Hid ((kpS seed RA Rc).C = kyS 1 RA 4 Rc 2) := Lib.hid (by show kyS 1 RA (rtL seed 2 4).length Rc 2 = _; rw [rt_len])
  obtain ⟨w2, hw2, ht2, g2, z2⟩ := put_any w1 50 (#[.int .i64 0, .slice none 0 0, .int .i64 0]) (kyS 1 RA 4 Rc 2) rfl
  have HW2 := Lib.hid hw2
  have HTK := Lib.hid ht2
  have HP : Hid (∀ i, i < 4 → w.heap.size ≤ p i + 1 ∧ p i + 1 < w1.heap.size) := Lib.hid (fun i hi => ⟨by have := KS.low i hi; have := G0.size; omega, (KS.key i hi).key.lt⟩)
  have HAP := Lib.hid KS.apart
  have HLB : Hid (lad.block < w1.heap.size) := Lib.hid (by
    obtain ⟨ad, e, hb, _⟩ := rL 0 (by simp [ptrL])
    cases e; exact hb)
  have HRB : Hid (∀ ad, RA = some ad → ad.block < w1.heap.size) := Lib.hid (fun ad e => by
    obtain ⟨ad2, e2, hb, _⟩ := rR 0 (by simp [u64L, rt_len])
    rw [e] at e2; cases e2; exact hb)
  have KS2 := KS.grew g2
  have rL2 := rL.gr g2
  have rR2 := rR.gr g2
  have G2 := grew_trans G1 g2
  have HLD : Hid (∀ i, i < 4 → w2.cell? (lad.add i) = some (.pointer (some ⟨p i + 1, 0, none⟩))) := Lib.hid (fun i hi => by
    obtain ⟨ad, e, _, hc⟩ := rL2 i (by simp [ptrL]; exact hi)
    cases e
    rw [hc]; simp [ptrL])
  have HQK : Hid (w1.heap.size < w2.heap.size) := Lib.hid z2.lt
  have FL : Hid (∀ i, i < 4 → lad.block ≠ p i + 1) := Lib.hid (fun i hi => (FL0 lad rfl i hi).2)
  have FR : Hid (∀ i, i < 4 → ∀ ad, RA = some ad → ad.block ≠ p i + 1) := Lib.hid (fun i hi ad e => (FR0 ad e i hi).2)
  have HKS : Hid (∀ i, i < 4 → KyAt w2 (p i + 1) (p i) (i : Int) (sdI seed i) (ksL seed 2 i) 0 (2 ^ 2)) := Lib.hid KS2.key
  obtain ⟨jb, hjb, hjb4⟩ : ∃ j : Nat, bad % 4 = (j : Int) ∧ j < 4 := ⟨(bad % 4).toNat, by omega, by omega⟩
  obtain ⟨pf, hpf⟩ : ∃ f : Nat → Int, f = fun i => if i = jb then 1 + xv else 1 + la.getD i 0 := ⟨_, rfl⟩
  obtain ⟨qf, hqf⟩ : ∃ f : Nat → Int, f = fun i => if i = jb then 1 + yv else 300 + lb.getD i 0 := ⟨_, rfl⟩
  have hgA : ∀ i, i < 4 → 0 ≤ la.getD i 0 ∧ la.getD i 0 ≤ 255 := fun i hi => by
    have h := HLA.out
    rw [List.getD_eq_getElem?_getD, List.getElem?_eq_getElem (show i < la.length by omega)]
    exact HPA.out _ (List.getElem_mem _)
  have hgB : ∀ i, i < 4 → 0 ≤ lb.getD i 0 ∧ lb.getD i 0 ≤ 255 := fun i hi => by
    have h := HLB4.out
    rw [List.getD_eq_getElem?_getD, List.getElem?_eq_getElem (show i < lb.length by omega)]
    exact HPB.out _ (List.getElem_mem _)
  have HPF : Hid (∀ i, i < 4 → 1 ≤ pf i ∧ pf i ≤ 65536) := Lib.hid (fun i hi => by
    have := hgA i hi
    rw [hpf]
    simp only
    split <;> omega)
  have HQF : Hid (∀ i, i < 4 → 1 ≤ qf i ∧ qf i ≤ 65536) := Lib.hid (fun i hi => by
    have := hgB i hi
    rw [hqf]
    simp only
    split <;> omega)
  have HORD : Hid (midZ [pf 0, pf 1, pf 2] 1 < midZ [qf 0, qf 1, qf 2] 1) := Lib.hid (order3 pf qf jb (fun i hi hij => by
    have := hgA i hi
    rw [hpf]
    simp only
    rw [if_neg hij]
    omega) (fun i hi hij => by
    have := hgB i hi
    rw [hqf]
    simp only
    rw [if_neg hij]
    omega))
  have HPE : Hid (∀ i, i = jb → 1 + xv = pf i) := Lib.hid (fun i h => by rw [hpf]; simp only; rw [if_pos h])
  have HQE : Hid (∀ i, i = jb → 1 + yv = qf i) := Lib.hid (fun i h => by rw [hqf]; simp only; rw [if_pos h])
  have HPN : Hid (∀ i (hi : i < la.length), i ≠ jb → 1 + la[i] = pf i) := Lib.hid (fun i hi h => by rw [hpf]; simp only; rw [if_neg h, List.getD_eq_getElem?_getD, List.getElem?_eq_getElem hi]; rfl)
  have HQN : Hid (∀ i (hi : i < lb.length), i ≠ jb → 300 + lb[i] = qf i) := Lib.hid (fun i hi h => by rw [hqf]; simp only; rw [if_neg h, List.getD_eq_getElem?_getD, List.getElem?_eq_getElem hi]; rfl)
  have HXV := Lib.hid hxv
  have HYV := Lib.hid hyv
  rw [hkc] at z2 HSK HSKL HOK HTK HW2 HKC ⊢
  clear hw2 ht2 g2 KS KS2 rL rL2 rR G1 hkc FL0 FR0 hpf hqf hgA hgB hxv hyv gk G0
  go_wp2_with (with_reducible refine wpList_store_mid rfl 50 (.tmp 14) (.tmp 42) rfl w1.heap.size 0 kc rfl rfl HTK.out HSK.out HOK.out ?_; rw [HW2.out]; clear HW2 HTK; generalize w1.heap.size = qk at *)
  obtain ⟨D, hD⟩ : ∃ D, dgC (cm12 0) = D := ⟨_, rfl⟩
  obtain ⟨E, hE⟩ : ∃ D, dgC (cm12 1) = D := ⟨_, rfl⟩
  have HD := Lib.hid hD
  have HE := Lib.hid hE
  have HDL : Hid (D < 18446744073709551616 ∧ E < 18446744073709551616) := Lib.hid ⟨by rw [← hD]; exact sumL_lt _ _, by rw [← hE]; exact sumL_lt _ _⟩
  clear hD hE
  obtain ⟨B0, hB0⟩ : ∃ b, w2.heap.size = b := ⟨_, rfl⟩
  have HQB : Hid (qk < B0) := Lib.hid (by have := HQK.out; omega)
  have hown0 : w2.ownsRow B0 91 24 (.slice none 0 0) 0 (spL []).flatten := World.ownsRow_nil _ _ _ _
  have HWB : Hid (w.heap.size ≤ B0) := Lib.hid (by have := G2.size; omega)
  have HBE := Lib.hid hB0
  clear hB0
  go_loopw [15, 16, 17] (fun ra rb iv wr => ∃ (n : Nat) (M N : List SP), n ≤ 4 ∧ iv = .int .i64 (n : Int) ∧ B0 ≤ wr.heap.size ∧ MvL (cS seed 0 D pf n) M ∧ MvL (cS seed 1 E qf n) N ∧ (∀ S ∈ M ++ N, S.ok) ∧ (∀ S ∈ M ++ N, S.at wr) ∧ (∀ S ∈ M ++ N, ∀ ad, S.A = some ad → ∀ g, ra.ownBlock = some g → S.l = [] ∨ ad.block ≠ g) ∧ (∀ S ∈ M ++ N, ∀ ad, S.A = some ad → ∀ g, rb.ownBlock = some g → S.l = [] ∨ ad.block ≠ g) ∧ (∀ S ∈ M ++ N, ∀ ad, S.A = some ad → S.l = [] ∨ B0 ≤ ad.block) ∧ wr.ownsRow B0 91 24 ra n (spL M).flatten ∧ wr.ownsRow B0 91 24 rb n (spL N).flatten ∧ Dsj ra rb ∧ (∀ i, n ≤ i → i < 4 → KyAt wr (p i + 1) (p i) (i : Int) (sdI seed i) (ksL seed 2 i) 0 (2 ^ 2)) ∧ Ag wr qk kc.toList ∧ (∀ i, i < 4 → wr.cell? (lad.add i) = some (.pointer (some ⟨p i + 1, 0, none⟩))) ∧ Rd wr wr.heap.size RA (u64L (rtL seed 2 4)) ∧ Grew w wr) (fun _ _ iv _ => 4 - (Go.RowKit.intOf iv).toNat)
  case atStart => exact ⟨0, [], [], by omega, rfl, (by have := HBE.out; omega), by simpa [cS] using MvL.nil, by simpa [cS] using MvL.nil, by simp, by simp, by simp, by simp, by simp, hown0, hown0, (fun g h => by cases h), fun i _ hi => HKS.out i hi, z2, HLD.out, rR2, G2⟩
  case round =>
    clear HKS HLD z2 rR2 G2 hown0 HQK
    obtain ⟨n, M, N, hn, rfl, hB0, hmv, hmvN, hok, hat, hnea, hneb, hlow, hrow, hrowN, hdj, hks, zk, hld, rRr, hg⟩ := hrel
    by_cases hlt : n < 4
    · obtain ⟨ada, hAa, hbla, hca⟩ := (HRA.out.below hg) n (by have := HLA.out; simp; omega)
      obtain ⟨adb, hAb, hblb, hcb⟩ := (HRBB.out.below hg) n (by have := HLB4.out; simp; omega)
      subst hAa
      subst hAb
      rw [List.getElem_map] at hca hcb
      have hpx := HPA.out _ (List.getElem_mem (show n < la.length by have := HLA.out; omega))
      have hpy := HPB.out _ (List.getElem_mem (show n < lb.length by have := HLB4.out; omega))
      have hPN := HPN.out n (by have := HLA.out; omega)
      have hQN := HQN.out n (by have := HLB4.out; omega)
      obtain ⟨xa, hxa⟩ : ∃ x, la[n]'(by have := HLA.out; omega) = x := ⟨_, rfl⟩
      obtain ⟨xb, hxb⟩ : ∃ x, lb[n]'(by have := HLB4.out; omega) = x := ⟨_, rfl⟩
      rw [hxa] at hca hpx hPN
      rw [hxb] at hcb hpy hQN
      have HPNN := Lib.hid hPN
      have HQNN := Lib.hid hQN
      have HCA : Hid (∀ y : Gr wr, y.val.cell? (ada.add n) = some (.int .u8 xa)) := Lib.hid (fun y => (y.ok.cell (p := ada.add n) (cell_blk hca)).trans hca)
      have HCB : Hid (∀ y : Gr wr, y.val.cell? (adb.add n) = some (.int .u8 xb)) := Lib.hid (fun y => (y.ok.cell (p := adb.add n) (cell_blk hcb)).trans hcb)
      have h0 : (0 : Int) ≤ (n : Int) := by omega
      have h1 : (n : Int) < (la.length : Int) := by have := HLA.out; omega
      have h2 : (n : Int) < (lb.length : Int) := by have := HLB4.out; omega
      have h3 : (n : Int) < 4 := by omega
      have e55 : IntKind.i64.wrap (1 + xa) = 1 + xa := IntWalk.i64_in _ (by omega)
      have e61 : IntKind.i64.wrap (300 + xb) = 300 + xb := IntWalk.i64_in _ (by omega)
      have ewa : IntKind.i64.wrap xa = xa := IntWalk.i64_in _ (by omega)
      have ewb : IntKind.i64.wrap xb = xb := IntWalk.i64_in _ (by omega)
      have HI4 := Lib.hid hlt
      have HMV := Lib.hid hmv
      have HMVN := Lib.hid hmvN
      have HOKM := Lib.hid hok
      have HAT := Lib.hid hat
      have HNEA := Lib.hid hnea
      have HNEB := Lib.hid hneb
      have HLW := Lib.hid hlow
      have HROW := Lib.hid hrow
      have HROWN := Lib.hid hrowN
      have HDJ := Lib.hid hdj
      have HKS := Lib.hid hks
      have HZK := Lib.hid zk
      have HLD := Lib.hid hld
      have HRR := Lib.hid rRr
      have HGG := Lib.hid hg
      have HBW := Lib.hid hB0
      clear hxa hxb hmv hmvN hok hat hnea hneb hlow hrow hrowN hdj hks zk hld rRr hg hB0 hlt hn hca hcb hbla hblb hPN hQN
      go_upto_region 12 with fail
      have hcA := HCA.out
      have hcB := HCB.out
      refine wp_region_grew (grew_refl wr) (by kernel_rfl) (by kernel_rfl) ?_
      repeat (go_big_quiet_step (first | fail))
      refine wpQuiet_nil ?_
      rintro wz ⟨⟨wz', gq⟩, rfl⟩
      have hxv := HXV.out
      have hyv := HYV.out
      have e69 : IntKind.i64.wrap (1 + xv) = 1 + xv := IntWalk.i64_in _ (by omega)
      have e72 : IntKind.i64.wrap (1 + yv) = 1 + yv := IntWalk.i64_in _ (by omega)
      have ewx : IntKind.i64.wrap xv = xv := IntWalk.i64_in _ (by omega)
      have ewy : IntKind.i64.wrap yv = yv := IntWalk.i64_in _ (by omega)
      have HGQ := Lib.hid gq
      clear hcA hcB HCA HCB gq h1 h2
      by_cases hnj : n = jb
      · have e66 : ((n : Int) == (jb : Int)) = true := by simp [hnj]
        have HNJ := Lib.hid hnj
        clear hnj hpx hpy hxv hyv
        go_upto_region 15 with fail
        have hpe := HPE.out n HNJ.out
        have hqe := HQE.out n HNJ.out
        try rw [hpe]
        try rw [hqe]
        try rw [hjb]
        clear hpe hqe e66 hjb
        have HPI := Lib.hid (HP.out n HI4.out)
        have GZ := grew_trans HGG.out HGQ.out
        have hbz : B0 ≤ wz.heap.size := Nat.le_trans HBW.out HGQ.out.size
        have HBZwz := Lib.hid hbz
        have HSBwz : Hid (∀ g, (fun j => j = p n + 1) g → g < wz.heap.size) := Lib.hid (fun g h => by
          have h1 : g = p n + 1 := h
          have := HPI.out; have := HQB.out; omega)
        have HSYwz : Hid (∀ y, Kp (fun j => j = p n + 1) wz y → Std y) := Lib.hid (fun y k => HS.out.grew (below_kp GZ k GZ.size (fun i (hi : i = p n + 1) => by have := HPI.out; omega)))
        have hldz : wz.cell? (lad.add n) = some (.pointer (some ⟨p n + 1, 0, none⟩)) := (HGQ.out.cell (p := lad.add n) (cell_blk (HLD.out n HI4.out))).trans (HLD.out n HI4.out)
        have HLCwz : Hid (∀ y, Kp (fun j => j = p n + 1) wz y → y.cell? (lad.add n) = some (.pointer (some ⟨p n + 1, 0, none⟩))) := Lib.hid (fun y k => (World.cell?_of_block (by rw [blk_add]; exact k.block lad.block (by have := cell_blk hldz; rwa [blk_add] at this) (FL.out n HI4.out))).trans hldz)
        have HKYwz : Hid (∀ y, Grew wz y → KyAt y (p n + 1) (p n) (n : Int) (sdI seed n) (ksL seed 2 n) 0 (2 ^ 2)) := Lib.hid (fun y k => (HKS.out n (Nat.le_refl _) HI4.out).grew (grew_trans HGQ.out k))
        have CC0 := Lib.hid (fun W => c12_ok 0 W)
        have CC1 := Lib.hid (fun W => c12_ok 1 W)
        have cd0 := fun W h => digest_ok (cm12 0) (okC_in (ok12 0 (by omega))) W h
        have cd1 := fun W h => digest_ok (cm12 1) (okC_in (ok12 1 (by omega))) W h
        rw [HD.out, show (cm12 0).v = .agg (cm12 0).cells from rfl] at cd0
        rw [HE.out, show (cm12 1).v = .agg (cm12 1).cells from rfl] at cd1
        have CD0 := Lib.hid cd0
        have CD1 := Lib.hid cd1
        obtain ⟨S0, hS0⟩ : ∃ S, stpK seed 2 n 0 D (pf n) none 0 = S := ⟨_, rfl⟩
        obtain ⟨T0, hT0⟩ : ∃ S, stpK seed 2 n 1 E (qf n) none 0 = S := ⟨_, rfl⟩
        have CMwz : Hid (∀ W, Std W → KyAt W (p n + 1) (p n) (n : Int) (sdI seed n) (ksL seed 2 n) 0 (2 ^ 2) → Calls Tryz.prog 42 #[.pointer (some ⟨p n + 1, 0, none⟩), .int .i64 (n : Int), .int .u64 (D : Int), .int .i64 (pf n)] W fun e w' =>
            (∃ A c, e = .returned (.tuple #[.agg (S0.mv A c).C, .int .i64 0]) ∧ (S0.mv A c).at w' ∧ (∀ ad, A = some ad → W.heap.size ≤ ad.block)) ∧ Tn (p n + 1) W w' ∧ KyAt w' (p n + 1) (p n) (n : Int) (sdI seed n) (ksL seed 2 n) (0 + 1) (2 ^ 2)) := Lib.hid (fun W h1 h2 => by
          have hb := HPF.out n HI4.out
          have := stmakeK seed 2 n 0 (by omega) HI4.out (by decide) (p n) D HDL.out.1 (pf n) ⟨by omega, by omega⟩ (decide_eq_true (by omega)) W h1 h2
          rw [← hS0]
          exact this)
        have CMw4 : Hid (∀ W, Std W → KyAt W (p n + 1) (p n) (n : Int) (sdI seed n) (ksL seed 2 n) 1 (2 ^ 2) → Calls Tryz.prog 42 #[.pointer (some ⟨p n + 1, 0, none⟩), .int .i64 (n : Int), .int .u64 (E : Int), .int .i64 (qf n)] W fun e w' =>
            (∃ A c, e = .returned (.tuple #[.agg (T0.mv A c).C, .int .i64 0]) ∧ (T0.mv A c).at w' ∧ (∀ ad, A = some ad → W.heap.size ≤ ad.block)) ∧ Tn (p n + 1) W w' ∧ KyAt w' (p n + 1) (p n) (n : Int) (sdI seed n) (ksL seed 2 n) (1 + 1) (2 ^ 2)) := Lib.hid (fun W h1 h2 => by
          have hb := HQF.out n HI4.out
          have := stmakeK seed 2 n 1 (by omega) HI4.out (by decide) (p n) E HDL.out.2 (qf n) ⟨by omega, by omega⟩ (decide_eq_true (by omega)) W h1 h2
          rw [← hT0]
          exact this)
        have HCS : Hid (cS seed 0 D pf (n + 1) = cS seed 0 D pf n ++ [S0]) := Lib.hid (by rw [← hS0, cS_succ])
        have HCT : Hid (cS seed 1 E qf (n + 1) = cS seed 1 E qf n ++ [T0]) := Lib.hid (by rw [← hT0, cS_succ])
        have HSO : Hid S0.ok := Lib.hid (by have hb := HPF.out n HI4.out; rw [← hS0]; exact stpK_ok seed 2 n 0 D (pf n) none 0 (by omega) HI4.out (by decide) HDL.out.1 ⟨by omega, by omega⟩)
        have HTO : Hid T0.ok := Lib.hid (by have hb := HQF.out n HI4.out; rw [← hT0]; exact stpK_ok seed 2 n 1 E (qf n) none 0 (by omega) HI4.out (by decide) HDL.out.2 ⟨by omega, by omega⟩)
        clear cd0 cd1 hS0 hT0 hldz GZ hbz
        refine wp_region_lateapp2 13 14 8 (fun j => j = p n + 1) (fun ix9 => match ix9 with
            | 0 => fun v => v = .slice (some lad) 4 Lc
            | 1 => fun v => v = .int .i64 (n : Int)
            | 2 => fun v => v = .pointer (some (lad.add n))
            | 3 => fun v => v = .pointer (some ⟨p n + 1, 0, none⟩)
            | 4 => fun v => v = .int .i64 (n : Int)
            | 5 => fun v => v = .agg (cm12 0).cells
            | 6 => fun v => v = .int .u64 (D : Int)
            | 7 => fun v => v = .int .i64 (pf n)
            | 8 => fun _ => True
            | 9 => fun v => ∃ A c, v = .tuple #[.agg (S0.mv A c).C, .int .i64 0]
            | 10 => fun _ => True
            | 11 => fun v => v = .int .i64 0
            | 12 => fun _ => True
            | 13 => fun _ => True
            | _ => fun _ => True) (fun ix9 => match ix9 with
            | 8 => fun lo hi v w => MkY w wz.heap.size (p n + 1) (p n) (n : Int) (sdI seed n) (ksL seed 2 n) 1 (2 ^ 2) S0 lo hi v (fun A c => .tuple #[.agg (S0.mv A c).C, .int .i64 0])
            | 9 => fun lo hi v w => MkS w wz.heap.size S0 lo hi v (fun A c => .tuple #[.agg (S0.mv A c).C, .int .i64 0])
            | 10 => fun lo hi v w => MkS w wz.heap.size S0 lo hi v (fun A c => .agg (S0.mv A c).C)
            | 12 => fun lo hi v w => AgZ w wz.heap.size lo hi (#[.int .u64 0, .int .i64 0, .int .i64 0, .int .i64 0, .int .i64 0, .int .u64 0, .int .u64 0, .int .u64 0, .int .u64 0, .int .u64 0, .int .u64 0, .int .u64 0, .int .u64 0, .int .u64 0, .int .u64 0, .int .u64 0, .int .u64 0, .int .u64 0, .int .u64 0, .int .u64 0, .int .u64 0, .int .u64 0, .int .u64 0, .slice none 0 0] : Array Value).toList v
            | _ => fun _ _ _ _ => True) (fun ix9 => match ix9 with
            | 9 => 8
            | 10 => 9
            | ix8 => ix8) (fun ix9 => match ix9 with
            | 9 => 8
            | 10 => 8
            | ix8 => ix8) (fun ix9 => match ix9 with
            | 11 => true
            | _ => false) 12 (fun v W => StY (fun j => j = p n + 1) wz S0 (p n + 1) (p n) (n : Int) (sdI seed n) (ksL seed 2 n) 1 (2 ^ 2) v W) rfl (by kernel_rfl) (by kernel_rfl) (by kernel_rfl) (by kernel_rfl) rfl rfl (by decide) (fun _ => trivial) ?_ ?_ ?_ ?_ ?_ (fun o ho => by cases ho; rfl) (fun v x y h hg => StY.gr h hg) ?_
        · refine ⟨?_, ?_, ?_, ?_, ?_, ?_, ?_, ?_, ?_, ?_, ?_, ?_, ?_, trivial⟩
          · intro vs lo hi y hg hd hvia
            replace hg : Kp (fun j => j = p n + 1) wz y := hg
            clear hvia
            simp only [actOf, List.take_succ_cons, List.take_zero, List.drop_succ_cons, List.drop_zero, Act.put, List.setIfInBounds_toArray, List.set_cons_succ, List.set_cons_zero, Nat.reduceAdd]
            go_wp2_with fail
            first | exact ⟨rfl, _, rfl, grew_refl _, rfl⟩ | exact ⟨rfl, _, rfl, grew_refl _, rfl, trivial⟩
          · intro vs lo hi y hg hd hvia
            replace hg : Kp (fun j => j = p n + 1) wz y := hg
            clear hvia
            simp only [actOf, List.take_succ_cons, List.take_zero, List.drop_succ_cons, List.drop_zero, Act.put, List.setIfInBounds_toArray, List.set_cons_succ, List.set_cons_zero, Nat.reduceAdd]
            go_wp2_with fail
            first | exact ⟨rfl, _, rfl, grew_refl _, rfl⟩ | exact ⟨rfl, _, rfl, grew_refl _, rfl, trivial⟩
          · intro vs lo hi y hg hd hvia
            replace hg : Kp (fun j => j = p n + 1) wz y := hg
            obtain ⟨h0, h1, _⟩ := hd
            replace h0 := h0 rfl
            replace h1 := h1 rfl
            clear hvia
            simp only [actOf, List.take_succ_cons, List.take_zero, List.drop_succ_cons, List.drop_zero, Act.put, List.setIfInBounds_toArray, List.set_cons_succ, List.set_cons_zero, Nat.reduceAdd]
            rw [show vs 0 = _ from h0, show vs 1 = _ from h1]
            go_wp2_with fail
            first | exact ⟨rfl, _, rfl, grew_refl _, rfl⟩ | exact ⟨rfl, _, rfl, grew_refl _, rfl, trivial⟩
          · intro vs lo hi y hg hd hvia
            replace hg : Kp (fun j => j = p n + 1) wz y := hg
            obtain ⟨h2, _⟩ := hd
            replace h2 := h2 rfl
            clear hvia
            simp only [actOf, List.take_succ_cons, List.take_zero, List.drop_succ_cons, List.drop_zero, Act.put, List.setIfInBounds_toArray, List.set_cons_succ, List.set_cons_zero, Nat.reduceAdd]
            rw [show vs 2 = _ from h2]
            have hc := HLCwz.out y hg
            go_wp2_with fail
            first | exact ⟨rfl, _, rfl, grew_refl _, rfl⟩ | exact ⟨rfl, _, rfl, grew_refl _, rfl, trivial⟩
          · intro vs lo hi y hg hd hvia
            replace hg : Kp (fun j => j = p n + 1) wz y := hg
            clear hvia
            simp only [actOf, List.take_succ_cons, List.take_zero, List.drop_succ_cons, List.drop_zero, Act.put, List.setIfInBounds_toArray, List.set_cons_succ, List.set_cons_zero, Nat.reduceAdd]
            go_wp2_with fail
            first | exact ⟨rfl, _, rfl, grew_refl _, rfl⟩ | exact ⟨rfl, _, rfl, grew_refl _, rfl, trivial⟩
          · intro vs lo hi y hg hd hvia
            replace hg : Kp (fun j => j = p n + 1) wz y := hg
            clear hvia
            simp only [actOf, List.take_succ_cons, List.take_zero, List.drop_succ_cons, List.drop_zero, Act.put, List.setIfInBounds_toArray, List.set_cons_succ, List.set_cons_zero, Nat.reduceAdd]
            go_wp2_with (go_at_call 44; refine (CC0.out y).mono ?_; rintro e z ⟨rfl, gz⟩)
            exact ⟨rfl, _, rfl, gz, rfl, trivial⟩
          · intro vs lo hi y hg hd hvia
            replace hg : Kp (fun j => j = p n + 1) wz y := hg
            obtain ⟨h5, _⟩ := hd
            replace h5 := h5 rfl
            clear hvia
            simp only [actOf, List.take_succ_cons, List.take_zero, List.drop_succ_cons, List.drop_zero, Act.put, List.setIfInBounds_toArray, List.set_cons_succ, List.set_cons_zero, Nat.reduceAdd]
            rw [show vs 5 = _ from h5]
            have hgS := HSYwz.out y hg
            go_wp2_with (go_at_call 43; refine (CD0.out y hgS).mono ?_; rintro e z ⟨rfl, gz⟩)
            exact ⟨rfl, _, rfl, gz, rfl, trivial⟩
          · intro vs lo hi y hg hd hvia
            replace hg : Kp (fun j => j = p n + 1) wz y := hg
            clear hvia
            simp only [actOf, List.take_succ_cons, List.take_zero, List.drop_succ_cons, List.drop_zero, Act.put, List.setIfInBounds_toArray, List.set_cons_succ, List.set_cons_zero, Nat.reduceAdd]
            go_wp2_with fail
            first | exact ⟨rfl, _, rfl, grew_refl _, rfl⟩ | exact ⟨rfl, _, rfl, grew_refl _, rfl, trivial⟩
          · intro vs lo hi y hg hd hvia
            replace hg : Grew wz y := hg
            obtain ⟨h3, h4, h6, h7, _⟩ := hd
            replace h3 := h3 rfl
            replace h4 := h4 rfl
            replace h6 := h6 rfl
            replace h7 := h7 rfl
            clear hvia
            simp only [actOf, List.take_succ_cons, List.take_zero, List.drop_succ_cons, List.drop_zero, Act.put, List.setIfInBounds_toArray, List.set_cons_succ, List.set_cons_zero, Nat.reduceAdd]
            rw [show vs 3 = _ from h3, show vs 4 = _ from h4, show vs 6 = _ from h6, show vs 7 = _ from h7]
            have hgS := HSYwz.out y (kp_grew hg)
            have hKY := HKYwz.out y hg
            go_wp2_with (go_at_call 42; refine (CMwz.out y hgS hKY).mono ?_; rintro e z ⟨⟨A9, c9, rfl, hat9, hfr9⟩, ht9, hk9⟩)
            exact ⟨rfl, _, rfl, kp_tn ht9, trivial, ⟨⟨A9, c9, rfl, hat9, hg.size, fun ad h => (at_lt hat9 ad h).imp id (fun h2 => ⟨hfr9 ad h, h2⟩)⟩, hk9⟩⟩
          · intro vs lo hi y hg hd hvia
            replace hg : Kp (fun j => j = p n + 1) wz y := hg
            obtain ⟨h8, _⟩ := hd
            replace h8 := h8 rfl
            have hv9 : (fun lo hi v w => MkY w wz.heap.size (p n + 1) (p n) (n : Int) (sdI seed n) (ksL seed 2 n) 1 (2 ^ 2) S0 lo hi v (fun A c => .tuple #[.agg (S0.mv A c).C, .int .i64 0])) (lo 8) (hi 8) (vs 8) y := hvia rfl
            clear hvia
            simp only [actOf, List.take_succ_cons, List.take_zero, List.drop_succ_cons, List.drop_zero, Act.put, List.setIfInBounds_toArray, List.set_cons_succ, List.set_cons_zero, Nat.reduceAdd]
            obtain ⟨A9, c9, e9, hat9, hb9, hr9⟩ := MkS.out (MkY.sk hv9)
            rw [e9]
            go_wp2_with fail
            exact ⟨rfl, _, rfl, grew_refl _, ⟨A9, ⟨c9, rfl⟩⟩, ⟨A9, c9, rfl, hat9, hb9, hr9⟩⟩
          · intro vs lo hi y hg hd hvia
            replace hg : Kp (fun j => j = p n + 1) wz y := hg
            obtain ⟨h9, _⟩ := hd
            replace h9 := h9 rfl
            have hv9 : (fun lo hi v w => MkS w wz.heap.size S0 lo hi v (fun A c => .tuple #[.agg (S0.mv A c).C, .int .i64 0])) (lo 9) (hi 9) (vs 9) y := hvia rfl
            clear hvia
            simp only [actOf, List.take_succ_cons, List.take_zero, List.drop_succ_cons, List.drop_zero, Act.put, List.setIfInBounds_toArray, List.set_cons_succ, List.set_cons_zero, Nat.reduceAdd]
            obtain ⟨A9, c9, e9, hat9, hb9, hr9⟩ := MkS.out hv9
            rw [e9]
            go_wp2_with fail
            exact ⟨rfl, _, rfl, grew_refl _, ⟨A9, c9, rfl, hat9, hb9, hr9⟩⟩
          · intro vs lo hi y hg hd hvia
            replace hg : Kp (fun j => j = p n + 1) wz y := hg
            obtain ⟨h9, _⟩ := hd
            replace h9 := h9 rfl
            clear hvia
            simp only [actOf, List.take_succ_cons, List.take_zero, List.drop_succ_cons, List.drop_zero, Act.put, List.setIfInBounds_toArray, List.set_cons_succ, List.set_cons_zero, Nat.reduceAdd]
            obtain ⟨A9, c9, e9⟩ := h9
            rw [e9]
            go_wp2_with fail
            first | exact ⟨rfl, _, rfl, grew_refl _, rfl⟩ | exact ⟨rfl, _, rfl, grew_refl _, rfl, trivial⟩
          · intro vs lo hi y hg hd hvia
            replace hg : Kp (fun j => j = p n + 1) wz y := hg
            clear hvia
            simp only [actOf, List.take_succ_cons, List.take_zero, List.drop_succ_cons, List.drop_zero, Act.put, List.setIfInBounds_toArray, List.set_cons_succ, List.set_cons_zero, Nat.reduceAdd]
            go_wp2_with fail
            exact ⟨rfl, _, rfl, grew_alloc (grew_refl _) _, ⟨y.heap.size, rfl, Ag.new y 91 (#[.int .u64 0, .int .i64 0, .int .i64 0, .int .i64 0, .int .i64 0, .int .u64 0, .int .u64 0, .int .u64 0, .int .u64 0, .int .u64 0, .int .u64 0, .int .u64 0, .int .u64 0, .int .u64 0, .int .u64 0, .int .u64 0, .int .u64 0, .int .u64 0, .int .u64 0, .int .u64 0, .int .u64 0, .int .u64 0, .int .u64 0, .slice none 0 0] : Array Value), hg.size, Nat.le_refl _, by show y.heap.size < (y.alloc _).heap.size; simp⟩⟩
        · refine ⟨(fun h => absurd h (by decide)), (fun h => absurd h (by decide)), (fun h => absurd h (by decide)), (fun h => absurd h (by decide)), (fun h => absurd h (by decide)), (fun h => absurd h (by decide)), (fun h => absurd h (by decide)), (fun h => absurd h (by decide)), (fun h => absurd h (by decide)), (fun h => absurd h (by decide)), (fun h => absurd h (by decide)), ?_, (fun h => absurd h (by decide)), (fun h => absurd h (by decide)), trivial⟩
          · intro _ vs y hd
            obtain ⟨h9, _⟩ := hd
            replace h9 := h9 rfl
            simp only [actOf, List.take_succ_cons, List.take_zero, List.drop_succ_cons, List.drop_zero, Act.put, List.setIfInBounds_toArray, List.set_cons_succ, List.set_cons_zero, Nat.reduceAdd]
            obtain ⟨A9, c9, e9⟩ := h9
            rw [e9]
            go_wp2_with fail
            first | exact ⟨rfl, _, rfl, grew_refl _, rfl⟩ | exact ⟨rfl, _, rfl, grew_refl _, rfl, trivial⟩
        · intro lo hi v x y h hg
          exact MkY.gr h hg
        · intro i lo hi v x y hne hx h hg
          match i, h with
          | 8, h => exact absurd rfl hne
          | 9, h => exact MkS.kp h hg HSBwz.out
          | 10, h => exact MkS.kp h hg HSBwz.out
          | 12, h => exact AgZ.kp h hg HSBwz.out
          | 0, _ => trivial
          | 1, _ => trivial
          | 2, _ => trivial
          | 3, _ => trivial
          | 4, _ => trivial
          | 5, _ => trivial
          | 6, _ => trivial
          | 7, _ => trivial
          | 11, _ => trivial
          | m + 13, _ => trivial
        · intro vs lo hi y hg hJ hK hB hD
          replace hg : Kp (fun j => j = p n + 1) wz y := hg
          have k82 := hK 8 (by decide) rfl
          have b82 := hB 8 (by decide) rfl
          have k73 := hK 9 (by decide) rfl
          have b73 := hB 9 (by decide) rfl
          have k83 := hK 10 (by decide) rfl
          have b83 := hB 10 (by decide) rfl
          have k20 := hK 12 (by decide) rfl
          have b20 := hB 12 (by decide) rfl
          have d82_20 := hD 8 (by decide) rfl 12 (by decide) rfl (by decide)
          have d73_20 := hD 9 (by decide) rfl 12 (by decide) rfl (by decide)
          have d83_20 := hD 10 (by decide) rfl 12 (by decide) rfl (by decide)
          clear hK hB hD
          have j0 : vs 0 = .slice (some lad) 4 Lc := hJ 0 (by decide) rfl
          have j1 : vs 1 = .int .i64 (n : Int) := hJ 1 (by decide) rfl
          have j2 : vs 2 = .pointer (some (lad.add n)) := hJ 2 (by decide) rfl
          have j3 : vs 3 = .pointer (some ⟨p n + 1, 0, none⟩) := hJ 3 (by decide) rfl
          have j4 : vs 4 = .int .i64 (n : Int) := hJ 4 (by decide) rfl
          have j5 : vs 5 = .agg (cm12 0).cells := hJ 5 (by decide) rfl
          have j6 : vs 6 = .int .u64 (D : Int) := hJ 6 (by decide) rfl
          have j7 : vs 7 = .int .i64 (pf n) := hJ 7 (by decide) rfl
          clear hJ
          simp only [actOf, List.take_succ_cons, List.take_zero, List.drop_succ_cons, List.drop_zero, Act.put, List.setIfInBounds_toArray, List.set_cons_succ, List.set_cons_zero, Nat.reduceAdd]
          obtain ⟨A1, c1, e43, hat1, hb1, hr1⟩ := MkS.out k83
          obtain ⟨q, e5, zq, hBq, hql, hqh⟩ := AgZ.out k20
          rw [e43, e5]
          have hky := MkY.ky k82
          have hPI := HPI.out
          have hqb := HQB.out
          have hbz := HBZwz.out
          have HNQ : Hid (∀ ad, A1 = some ad → S0.l = [] ∨ ad.block ≠ q) := Lib.hid (fun ad h => by
            rcases hr1 ad h with h1 | h1
            · exact .inl h1
            · exact .inr (by rcases d83_20 with h2 | h2 <;> omega))
          have HLO1 : Hid (∀ ad, A1 = some ad → S0.l = [] ∨ wz.heap.size ≤ ad.block) := Lib.hid (fun ad h => (hr1 ad h).imp id (fun h1 => by omega))
          obtain ⟨gs, hgs⟩ : ∃ g, (S0.mv A1 c1).C = g := ⟨_, rfl⟩
          have hz24 : gs.size = 24 := by rw [← hgs]; rfl
          have HTH : Hid (y.there q 0 gs.size) := Lib.hid (zq.thereN gs.size (by rw [hz24]; rfl))
          have HSI : Hid ((Tryz.prog.info? 91).map (·.size) = some gs.size) := Lib.hid (by rw [hz24]; exact st_info)
          have HON : Hid (gs.all (·.oneCell') = true) := Lib.hid (by rw [← hgs]; exact (S0.mv A1 c1).one)
          have z4 := Ag.set (vs := gs.toList) zq (by rw [Array.length_toList, hz24]; rfl)
          have k4 := setCells_kp gs.toList q 0 y
          have HF : Hid (StY (fun j => j = p n + 1) wz S0 (p n + 1) (p n) (n : Int) (sdI seed n) (ksL seed 2 n) 1 (2 ^ 2) (.pointer (some ⟨q, 0, none⟩)) (y.setCells q 0 gs.toList)) := Lib.hid ⟨⟨A1, c1, q, rfl, by rw [hgs]; exact z4, at_kp hat1 k4 (fun ad h => HNQ.out ad h), by omega, HLO1.out, kp_new hg k4 (by omega)⟩, hky.kp k4 (fun h => by have h : p n + 1 = q := h; omega) (fun h => by have h : p n = q := h; omega)⟩
          rw [hgs]
          clear hgs hg z4 k4 zq hat1 hky
          generalize gs = gs' at *
          go_wp2_with (with_reducible refine wpList_store_mid rfl 91 (.tmp 20) (.tmp 83) rfl q 0 gs' rfl rfl HTH.out HSI.out HON.out ?_)
          exact HF.out
        · intro vs w4 hF hJ
          have j0 : vs 0 = .slice (some lad) 4 Lc := hJ 0 (by decide)
          have j1 : vs 1 = .int .i64 (n : Int) := hJ 1 (by decide)
          have j2 : vs 2 = .pointer (some (lad.add n)) := hJ 2 (by decide)
          have j3 : vs 3 = .pointer (some ⟨p n + 1, 0, none⟩) := hJ 3 (by decide)
          have j4 : vs 4 = .int .i64 (n : Int) := hJ 4 (by decide)
          have j5 : vs 5 = .agg (cm12 0).cells := hJ 5 (by decide)
          have j6 : vs 6 = .int .u64 (D : Int) := hJ 6 (by decide)
          have j7 : vs 7 = .int .i64 (pf n) := hJ 7 (by decide)
          have j11 : vs 11 = .int .i64 0 := hJ 11 (by decide)
          clear hJ
          simp only [actOf, List.take_succ_cons, List.take_zero, List.drop_succ_cons, List.drop_zero, Act.put, List.setIfInBounds_toArray, List.set_cons_succ, List.set_cons_zero, Nat.reduceAdd]
          obtain ⟨A1, c1, q1, e5, z4, hat4, hq4, hlo4, kk4⟩ := StF.out (StY.st hF)
          have hky4 := StY.ky hF
          rw [e5, show vs 11 = _ from j11]
          have hpi := HPI.out
          have hqb := HQB.out
          have hbz := HBZwz.out
          have HBZw4 : Hid (B0 ≤ w4.heap.size) := Lib.hid (Nat.le_trans hbz kk4.size)
          have HSBw4 : Hid (∀ g, (fun j => j = p n + 1) g → g < w4.heap.size) := Lib.hid (fun g h => by
            have h1 : g = p n + 1 := h
            have := HBZw4.out; omega)
          have HSYw4 : Hid (∀ y, Kp (fun j => j = p n + 1) w4 y → Std y) := Lib.hid (fun y k => HSYwz.out y (kp_trans kk4 k))
          have HLCw4 : Hid (∀ y, Kp (fun j => j = p n + 1) w4 y → y.cell? (lad.add n) = some (.pointer (some ⟨p n + 1, 0, none⟩))) := Lib.hid (fun y k => HLCwz.out y (kp_trans kk4 k))
          have HKYw4 : Hid (∀ y, Grew w4 y → KyAt y (p n + 1) (p n) (n : Int) (sdI seed n) (ksL seed 2 n) 1 (2 ^ 2)) := Lib.hid (fun y k => hky4.grew k)
          have HZ4 := Lib.hid z4
          have HAT4 := Lib.hid hat4
          have HLO4 := Lib.hid hlo4
          have HKK4 := Lib.hid kk4
          have HQ4 := Lib.hid hq4
          clear hF hky4 e5 z4 hat4 hlo4 kk4 hq4 hpi hqb hbz j0 j1 j2 j3 j4 j5 j6 j7 j11
          go_upto_region 16 with fail
          refine wp_region_lateapp2 13 14 8 (fun j => j = p n + 1) (fun ix9 => match ix9 with
              | 0 => fun v => v = .slice (some lad) 4 Lc
              | 1 => fun v => v = .int .i64 (n : Int)
              | 2 => fun v => v = .pointer (some (lad.add n))
              | 3 => fun v => v = .pointer (some ⟨p n + 1, 0, none⟩)
              | 4 => fun v => v = .int .i64 (n : Int)
              | 5 => fun v => v = .agg (cm12 1).cells
              | 6 => fun v => v = .int .u64 (E : Int)
              | 7 => fun v => v = .int .i64 (qf n)
              | 8 => fun _ => True
              | 9 => fun v => ∃ A c, v = .tuple #[.agg (T0.mv A c).C, .int .i64 0]
              | 10 => fun _ => True
              | 11 => fun v => v = .int .i64 0
              | 12 => fun _ => True
              | 13 => fun _ => True
              | _ => fun _ => True) (fun ix9 => match ix9 with
              | 8 => fun lo hi v w => MkY w w4.heap.size (p n + 1) (p n) (n : Int) (sdI seed n) (ksL seed 2 n) 2 (2 ^ 2) T0 lo hi v (fun A c => .tuple #[.agg (T0.mv A c).C, .int .i64 0])
              | 9 => fun lo hi v w => MkS w w4.heap.size T0 lo hi v (fun A c => .tuple #[.agg (T0.mv A c).C, .int .i64 0])
              | 10 => fun lo hi v w => MkS w w4.heap.size T0 lo hi v (fun A c => .agg (T0.mv A c).C)
              | 12 => fun lo hi v w => AgZ w w4.heap.size lo hi (#[.int .u64 0, .int .i64 0, .int .i64 0, .int .i64 0, .int .i64 0, .int .u64 0, .int .u64 0, .int .u64 0, .int .u64 0, .int .u64 0, .int .u64 0, .int .u64 0, .int .u64 0, .int .u64 0, .int .u64 0, .int .u64 0, .int .u64 0, .int .u64 0, .int .u64 0, .int .u64 0, .int .u64 0, .int .u64 0, .int .u64 0, .slice none 0 0] : Array Value).toList v
              | _ => fun _ _ _ _ => True) (fun ix9 => match ix9 with
              | 9 => 8
              | 10 => 9
              | ix8 => ix8) (fun ix9 => match ix9 with
              | 9 => 8
              | 10 => 8
              | ix8 => ix8) (fun ix9 => match ix9 with
              | 11 => true
              | _ => false) 12 (fun v W => StY (fun j => j = p n + 1) w4 T0 (p n + 1) (p n) (n : Int) (sdI seed n) (ksL seed 2 n) 2 (2 ^ 2) v W) rfl (by kernel_rfl) (by kernel_rfl) (by kernel_rfl) (by kernel_rfl) rfl rfl (by decide) (fun _ => trivial) ?_ ?_ ?_ ?_ ?_ (fun o ho => by cases ho; rfl) (fun v x y h hg => StY.gr h hg) ?_
          · refine ⟨?_, ?_, ?_, ?_, ?_, ?_, ?_, ?_, ?_, ?_, ?_, ?_, ?_, trivial⟩
            · intro vs lo hi y hg hd hvia
              replace hg : Kp (fun j => j = p n + 1) w4 y := hg
              clear hvia
              simp only [actOf, List.take_succ_cons, List.take_zero, List.drop_succ_cons, List.drop_zero, Act.put, List.setIfInBounds_toArray, List.set_cons_succ, List.set_cons_zero, Nat.reduceAdd]
              go_wp2_with fail
              first | exact ⟨rfl, _, rfl, grew_refl _, rfl⟩ | exact ⟨rfl, _, rfl, grew_refl _, rfl, trivial⟩
            · intro vs lo hi y hg hd hvia
              replace hg : Kp (fun j => j = p n + 1) w4 y := hg
              clear hvia
              simp only [actOf, List.take_succ_cons, List.take_zero, List.drop_succ_cons, List.drop_zero, Act.put, List.setIfInBounds_toArray, List.set_cons_succ, List.set_cons_zero, Nat.reduceAdd]
              go_wp2_with fail
              first | exact ⟨rfl, _, rfl, grew_refl _, rfl⟩ | exact ⟨rfl, _, rfl, grew_refl _, rfl, trivial⟩
            · intro vs lo hi y hg hd hvia
              replace hg : Kp (fun j => j = p n + 1) w4 y := hg
              obtain ⟨h0, h1, _⟩ := hd
              replace h0 := h0 rfl
              replace h1 := h1 rfl
              clear hvia
              simp only [actOf, List.take_succ_cons, List.take_zero, List.drop_succ_cons, List.drop_zero, Act.put, List.setIfInBounds_toArray, List.set_cons_succ, List.set_cons_zero, Nat.reduceAdd]
              rw [show vs 0 = _ from h0, show vs 1 = _ from h1]
              go_wp2_with fail
              first | exact ⟨rfl, _, rfl, grew_refl _, rfl⟩ | exact ⟨rfl, _, rfl, grew_refl _, rfl, trivial⟩
            · intro vs lo hi y hg hd hvia
              replace hg : Kp (fun j => j = p n + 1) w4 y := hg
              obtain ⟨h2, _⟩ := hd
              replace h2 := h2 rfl
              clear hvia
              simp only [actOf, List.take_succ_cons, List.take_zero, List.drop_succ_cons, List.drop_zero, Act.put, List.setIfInBounds_toArray, List.set_cons_succ, List.set_cons_zero, Nat.reduceAdd]
              rw [show vs 2 = _ from h2]
              have hc := HLCw4.out y hg
              go_wp2_with fail
              first | exact ⟨rfl, _, rfl, grew_refl _, rfl⟩ | exact ⟨rfl, _, rfl, grew_refl _, rfl, trivial⟩
            · intro vs lo hi y hg hd hvia
              replace hg : Kp (fun j => j = p n + 1) w4 y := hg
              clear hvia
              simp only [actOf, List.take_succ_cons, List.take_zero, List.drop_succ_cons, List.drop_zero, Act.put, List.setIfInBounds_toArray, List.set_cons_succ, List.set_cons_zero, Nat.reduceAdd]
              go_wp2_with fail
              first | exact ⟨rfl, _, rfl, grew_refl _, rfl⟩ | exact ⟨rfl, _, rfl, grew_refl _, rfl, trivial⟩
            · intro vs lo hi y hg hd hvia
              replace hg : Kp (fun j => j = p n + 1) w4 y := hg
              clear hvia
              simp only [actOf, List.take_succ_cons, List.take_zero, List.drop_succ_cons, List.drop_zero, Act.put, List.setIfInBounds_toArray, List.set_cons_succ, List.set_cons_zero, Nat.reduceAdd]
              go_wp2_with (go_at_call 44; refine (CC1.out y).mono ?_; rintro e z ⟨rfl, gz⟩)
              exact ⟨rfl, _, rfl, gz, rfl, trivial⟩
            · intro vs lo hi y hg hd hvia
              replace hg : Kp (fun j => j = p n + 1) w4 y := hg
              obtain ⟨h5, _⟩ := hd
              replace h5 := h5 rfl
              clear hvia
              simp only [actOf, List.take_succ_cons, List.take_zero, List.drop_succ_cons, List.drop_zero, Act.put, List.setIfInBounds_toArray, List.set_cons_succ, List.set_cons_zero, Nat.reduceAdd]
              rw [show vs 5 = _ from h5]
              have hgS := HSYw4.out y hg
              go_wp2_with (go_at_call 43; refine (CD1.out y hgS).mono ?_; rintro e z ⟨rfl, gz⟩)
              exact ⟨rfl, _, rfl, gz, rfl, trivial⟩
            · intro vs lo hi y hg hd hvia
              replace hg : Kp (fun j => j = p n + 1) w4 y := hg
              clear hvia
              simp only [actOf, List.take_succ_cons, List.take_zero, List.drop_succ_cons, List.drop_zero, Act.put, List.setIfInBounds_toArray, List.set_cons_succ, List.set_cons_zero, Nat.reduceAdd]
              go_wp2_with fail
              first | exact ⟨rfl, _, rfl, grew_refl _, rfl⟩ | exact ⟨rfl, _, rfl, grew_refl _, rfl, trivial⟩
            · intro vs lo hi y hg hd hvia
              replace hg : Grew w4 y := hg
              obtain ⟨h3, h4, h6, h7, _⟩ := hd
              replace h3 := h3 rfl
              replace h4 := h4 rfl
              replace h6 := h6 rfl
              replace h7 := h7 rfl
              clear hvia
              simp only [actOf, List.take_succ_cons, List.take_zero, List.drop_succ_cons, List.drop_zero, Act.put, List.setIfInBounds_toArray, List.set_cons_succ, List.set_cons_zero, Nat.reduceAdd]
              rw [show vs 3 = _ from h3, show vs 4 = _ from h4, show vs 6 = _ from h6, show vs 7 = _ from h7]
              have hgS := HSYw4.out y (kp_grew hg)
              have hKY := HKYw4.out y hg
              go_wp2_with (go_at_call 42; refine (CMw4.out y hgS hKY).mono ?_; rintro e z ⟨⟨A9, c9, rfl, hat9, hfr9⟩, ht9, hk9⟩)
              exact ⟨rfl, _, rfl, kp_tn ht9, trivial, ⟨⟨A9, c9, rfl, hat9, hg.size, fun ad h => (at_lt hat9 ad h).imp id (fun h2 => ⟨hfr9 ad h, h2⟩)⟩, hk9⟩⟩
            · intro vs lo hi y hg hd hvia
              replace hg : Kp (fun j => j = p n + 1) w4 y := hg
              obtain ⟨h8, _⟩ := hd
              replace h8 := h8 rfl
              have hv9 : (fun lo hi v w => MkY w w4.heap.size (p n + 1) (p n) (n : Int) (sdI seed n) (ksL seed 2 n) 2 (2 ^ 2) T0 lo hi v (fun A c => .tuple #[.agg (T0.mv A c).C, .int .i64 0])) (lo 8) (hi 8) (vs 8) y := hvia rfl
              clear hvia
              simp only [actOf, List.take_succ_cons, List.take_zero, List.drop_succ_cons, List.drop_zero, Act.put, List.setIfInBounds_toArray, List.set_cons_succ, List.set_cons_zero, Nat.reduceAdd]
              obtain ⟨A9, c9, e9, hat9, hb9, hr9⟩ := MkS.out (MkY.sk hv9)
              rw [e9]
              go_wp2_with fail
              exact ⟨rfl, _, rfl, grew_refl _, ⟨A9, ⟨c9, rfl⟩⟩, ⟨A9, c9, rfl, hat9, hb9, hr9⟩⟩
            · intro vs lo hi y hg hd hvia
              replace hg : Kp (fun j => j = p n + 1) w4 y := hg
              obtain ⟨h9, _⟩ := hd
              replace h9 := h9 rfl
              have hv9 : (fun lo hi v w => MkS w w4.heap.size T0 lo hi v (fun A c => .tuple #[.agg (T0.mv A c).C, .int .i64 0])) (lo 9) (hi 9) (vs 9) y := hvia rfl
              clear hvia
              simp only [actOf, List.take_succ_cons, List.take_zero, List.drop_succ_cons, List.drop_zero, Act.put, List.setIfInBounds_toArray, List.set_cons_succ, List.set_cons_zero, Nat.reduceAdd]
              obtain ⟨A9, c9, e9, hat9, hb9, hr9⟩ := MkS.out hv9
              rw [e9]
              go_wp2_with fail
              exact ⟨rfl, _, rfl, grew_refl _, ⟨A9, c9, rfl, hat9, hb9, hr9⟩⟩
            · intro vs lo hi y hg hd hvia
              replace hg : Kp (fun j => j = p n + 1) w4 y := hg
              obtain ⟨h9, _⟩ := hd
              replace h9 := h9 rfl
              clear hvia
              simp only [actOf, List.take_succ_cons, List.take_zero, List.drop_succ_cons, List.drop_zero, Act.put, List.setIfInBounds_toArray, List.set_cons_succ, List.set_cons_zero, Nat.reduceAdd]
              obtain ⟨A9, c9, e9⟩ := h9
              rw [e9]
              go_wp2_with fail
              first | exact ⟨rfl, _, rfl, grew_refl _, rfl⟩ | exact ⟨rfl, _, rfl, grew_refl _, rfl, trivial⟩
            · intro vs lo hi y hg hd hvia
              replace hg : Kp (fun j => j = p n + 1) w4 y := hg
              clear hvia
              simp only [actOf, List.take_succ_cons, List.take_zero, List.drop_succ_cons, List.drop_zero, Act.put, List.setIfInBounds_toArray, List.set_cons_succ, List.set_cons_zero, Nat.reduceAdd]
              go_wp2_with fail
              exact ⟨rfl, _, rfl, grew_alloc (grew_refl _) _, ⟨y.heap.size, rfl, Ag.new y 91 (#[.int .u64 0, .int .i64 0, .int .i64 0, .int .i64 0, .int .i64 0, .int .u64 0, .int .u64 0, .int .u64 0, .int .u64 0, .int .u64 0, .int .u64 0, .int .u64 0, .int .u64 0, .int .u64 0, .int .u64 0, .int .u64 0, .int .u64 0, .int .u64 0, .int .u64 0, .int .u64 0, .int .u64 0, .int .u64 0, .int .u64 0, .slice none 0 0] : Array Value), hg.size, Nat.le_refl _, by show y.heap.size < (y.alloc _).heap.size; simp⟩⟩
          · refine ⟨(fun h => absurd h (by decide)), (fun h => absurd h (by decide)), (fun h => absurd h (by decide)), (fun h => absurd h (by decide)), (fun h => absurd h (by decide)), (fun h => absurd h (by decide)), (fun h => absurd h (by decide)), (fun h => absurd h (by decide)), (fun h => absurd h (by decide)), (fun h => absurd h (by decide)), (fun h => absurd h (by decide)), ?_, (fun h => absurd h (by decide)), (fun h => absurd h (by decide)), trivial⟩
            · intro _ vs y hd
              obtain ⟨h9, _⟩ := hd
              replace h9 := h9 rfl
              simp only [actOf, List.take_succ_cons, List.take_zero, List.drop_succ_cons, List.drop_zero, Act.put, List.setIfInBounds_toArray, List.set_cons_succ, List.set_cons_zero, Nat.reduceAdd]
              obtain ⟨A9, c9, e9⟩ := h9
              rw [e9]
              go_wp2_with fail
              first | exact ⟨rfl, _, rfl, grew_refl _, rfl⟩ | exact ⟨rfl, _, rfl, grew_refl _, rfl, trivial⟩
          · intro lo hi v x y h hg
            exact MkY.gr h hg
          · intro i lo hi v x y hne hx h hg
            match i, h with
            | 8, h => exact absurd rfl hne
            | 9, h => exact MkS.kp h hg HSBw4.out
            | 10, h => exact MkS.kp h hg HSBw4.out
            | 12, h => exact AgZ.kp h hg HSBw4.out
            | 0, _ => trivial
            | 1, _ => trivial
            | 2, _ => trivial
            | 3, _ => trivial
            | 4, _ => trivial
            | 5, _ => trivial
            | 6, _ => trivial
            | 7, _ => trivial
            | 11, _ => trivial
            | m + 13, _ => trivial
          · intro vs lo hi y hg hJ hK hB hD
            replace hg : Kp (fun j => j = p n + 1) w4 y := hg
            have k94 := hK 8 (by decide) rfl
            have b94 := hB 8 (by decide) rfl
            have k85 := hK 9 (by decide) rfl
            have b85 := hB 9 (by decide) rfl
            have k95 := hK 10 (by decide) rfl
            have b95 := hB 10 (by decide) rfl
            have k22 := hK 12 (by decide) rfl
            have b22 := hB 12 (by decide) rfl
            have d94_22 := hD 8 (by decide) rfl 12 (by decide) rfl (by decide)
            have d85_22 := hD 9 (by decide) rfl 12 (by decide) rfl (by decide)
            have d95_22 := hD 10 (by decide) rfl 12 (by decide) rfl (by decide)
            clear hK hB hD
            have j0 : vs 0 = .slice (some lad) 4 Lc := hJ 0 (by decide) rfl
            have j1 : vs 1 = .int .i64 (n : Int) := hJ 1 (by decide) rfl
            have j2 : vs 2 = .pointer (some (lad.add n)) := hJ 2 (by decide) rfl
            have j3 : vs 3 = .pointer (some ⟨p n + 1, 0, none⟩) := hJ 3 (by decide) rfl
            have j4 : vs 4 = .int .i64 (n : Int) := hJ 4 (by decide) rfl
            have j5 : vs 5 = .agg (cm12 1).cells := hJ 5 (by decide) rfl
            have j6 : vs 6 = .int .u64 (E : Int) := hJ 6 (by decide) rfl
            have j7 : vs 7 = .int .i64 (qf n) := hJ 7 (by decide) rfl
            clear hJ
            simp only [actOf, List.take_succ_cons, List.take_zero, List.drop_succ_cons, List.drop_zero, Act.put, List.setIfInBounds_toArray, List.set_cons_succ, List.set_cons_zero, Nat.reduceAdd]
            obtain ⟨A1, c1, e43, hat1, hb1, hr1⟩ := MkS.out k95
            obtain ⟨q, e5, zq, hBq, hql, hqh⟩ := AgZ.out k22
            rw [e43, e5]
            have hky := MkY.ky k94
            have hPI := HPI.out
            have hqb := HQB.out
            have hbz := HBZw4.out
            have HNQ : Hid (∀ ad, A1 = some ad → T0.l = [] ∨ ad.block ≠ q) := Lib.hid (fun ad h => by
              rcases hr1 ad h with h1 | h1
              · exact .inl h1
              · exact .inr (by rcases d95_22 with h2 | h2 <;> omega))
            have HLO1 : Hid (∀ ad, A1 = some ad → T0.l = [] ∨ w4.heap.size ≤ ad.block) := Lib.hid (fun ad h => (hr1 ad h).imp id (fun h1 => by omega))
            obtain ⟨gs, hgs⟩ : ∃ g, (T0.mv A1 c1).C = g := ⟨_, rfl⟩
            have hz24 : gs.size = 24 := by rw [← hgs]; rfl
            have HTH : Hid (y.there q 0 gs.size) := Lib.hid (zq.thereN gs.size (by rw [hz24]; rfl))
            have HSI : Hid ((Tryz.prog.info? 91).map (·.size) = some gs.size) := Lib.hid (by rw [hz24]; exact st_info)
            have HON : Hid (gs.all (·.oneCell') = true) := Lib.hid (by rw [← hgs]; exact (T0.mv A1 c1).one)
            have z4 := Ag.set (vs := gs.toList) zq (by rw [Array.length_toList, hz24]; rfl)
            have k4 := setCells_kp gs.toList q 0 y
            have HF : Hid (StY (fun j => j = p n + 1) w4 T0 (p n + 1) (p n) (n : Int) (sdI seed n) (ksL seed 2 n) 2 (2 ^ 2) (.pointer (some ⟨q, 0, none⟩)) (y.setCells q 0 gs.toList)) := Lib.hid ⟨⟨A1, c1, q, rfl, by rw [hgs]; exact z4, at_kp hat1 k4 (fun ad h => HNQ.out ad h), by omega, HLO1.out, kp_new hg k4 (by omega)⟩, hky.kp k4 (fun h => by have h : p n + 1 = q := h; omega) (fun h => by have h : p n = q := h; omega)⟩
            rw [hgs]
            clear hgs hg z4 k4 zq hat1 hky
            generalize gs = gs' at *
            go_wp2_with (with_reducible refine wpList_store_mid rfl 91 (.tmp 22) (.tmp 95) rfl q 0 gs' rfl rfl HTH.out HSI.out HON.out ?_)
            exact HF.out
          · intro vs w5 hF hJ
            have j0 : vs 0 = .slice (some lad) 4 Lc := hJ 0 (by decide)
            have j1 : vs 1 = .int .i64 (n : Int) := hJ 1 (by decide)
            have j2 : vs 2 = .pointer (some (lad.add n)) := hJ 2 (by decide)
            have j3 : vs 3 = .pointer (some ⟨p n + 1, 0, none⟩) := hJ 3 (by decide)
            have j4 : vs 4 = .int .i64 (n : Int) := hJ 4 (by decide)
            have j5 : vs 5 = .agg (cm12 1).cells := hJ 5 (by decide)
            have j6 : vs 6 = .int .u64 (E : Int) := hJ 6 (by decide)
            have j7 : vs 7 = .int .i64 (qf n) := hJ 7 (by decide)
            have j11 : vs 11 = .int .i64 0 := hJ 11 (by decide)
            clear hJ
            simp only [actOf, List.take_succ_cons, List.take_zero, List.drop_succ_cons, List.drop_zero, Act.put, List.setIfInBounds_toArray, List.set_cons_succ, List.set_cons_zero, Nat.reduceAdd]
            obtain ⟨A2, c2, q2, e5, z5, hat5, hq5, hlo5, kk5⟩ := StF.out (StY.st hF)
            rw [e5, show vs 11 = _ from j11]
            have hpi := HPI.out
            have hqb := HQB.out
            have hbz := HBZwz.out
            have hbw := HBW.out
            have hq4 := HQ4.out
            have hgq := HGQ.out.size
            have h4z := HKK4.out.size
            have kk : Kp (fun j => j = p n + 1) wr w5 := kp_trans (kp_grew HGQ.out) (kp_trans HKK4.out kk5)
            have HZ5q := Lib.hid z5
            have HZ4q := Lib.hid (HZ4.out.kp kk5 (fun h => by have h : q1 = p n + 1 := h; omega))
            have HS1 : Hid ((S0.mv A1 c1).at w5) := Lib.hid (at_kp HAT4.out kk5 (fun ad h => (HLO4.out ad h).imp id (fun h1 h3 => by have h3 : ad.block = p n + 1 := h3; omega)))
            have HT1 := Lib.hid hat5
            have HAT5 : Hid (∀ S ∈ M ++ N, S.at w5) := Lib.hid (fun S hS => at_kp (HAT.out S hS) kk (fun ad h => (HLW.out S hS ad h).imp id (fun h1 h3 => by have h3 : ad.block = p n + 1 := h3; omega)))
            have HROW5 := Lib.hid (ownsRow_kp HROW.out kk (fun g h h3 => by
              have h1 := ownsRow_lt HROW.out g h
              have h3 : g = p n + 1 := h3
              omega))
            have HROWN5 := Lib.hid (ownsRow_kp HROWN.out kk (fun g h h3 => by
              have h1 := ownsRow_lt HROWN.out g h
              have h3 : g = p n + 1 := h3
              omega))
            have HKS5 : Hid (∀ i, n + 1 ≤ i → i < 4 → KyAt w5 (p i + 1) (p i) (i : Int) (sdI seed i) (ksL seed 2 i) 0 (2 ^ 2)) := Lib.hid (fun i hi hi4 => by
              have h1 := HP.out i hi4
              have h2 := HAP.out i n hi4 HI4.out (by omega)
              exact (HKS.out i (by omega) hi4).kp kk (fun h => by have h : p i + 1 = p n + 1 := h; omega) (fun h => by have h : p i = p n + 1 := h; omega))
            have HZK5 := Lib.hid (HZK.out.kp kk (fun h => by have h : qk = p n + 1 := h; omega))
            have HLD5 : Hid (∀ i, i < 4 → w5.cell? (lad.add i) = some (.pointer (some ⟨p i + 1, 0, none⟩))) := Lib.hid (fun i hi => by
              have h1 := cell_blk (HLD.out i hi)
              rw [blk_add] at h1
              exact (World.cell?_of_block (by rw [blk_add]; exact kk.block lad.block h1 (FL.out n HI4.out))).trans (HLD.out i hi))
            have HRR5 := Lib.hid ((HRR.out.kp kk (Nat.le_refl _) (fun ad e h1 h => FR.out n HI4.out ad e h)).more kk.size)
            have HGG5 := Lib.hid (below_kp HGG.out kk HGG.out.size (fun i (h : i = p n + 1) => by omega))
            have HBW5 : Hid (B0 ≤ w5.heap.size) := Lib.hid (Nat.le_trans hbw kk.size)
            have HOA := Lib.hid (ownsRow_lt HROW.out)
            have HOB := Lib.hid (ownsRow_lt HROWN.out)
            have HPAT : Hid (∀ S ∈ (M ++ N) ++ [S0.mv A1 c1, T0.mv A2 c2], S.at w5) := Lib.hid (fun S hS => by
              rcases List.mem_append.1 hS with h | h
              · exact HAT5.out S h
              · simp only [List.mem_cons, List.not_mem_nil, or_false] at h
                rcases h with rfl | rfl
                · exact HS1.out
                · exact HT1.out)
            have HFRS : Hid (∀ S ∈ [S0.mv A1 c1, T0.mv A2 c2], ∀ ad, S.A = some ad → S.l = [] ∨ wr.heap.size ≤ ad.block) := Lib.hid (fun S hS ad e => by
              simp only [List.mem_cons, List.not_mem_nil, or_false] at hS
              rcases hS with rfl | rfl
              · exact (HLO4.out ad e).imp id (fun h => by omega)
              · exact (hlo5 ad e).imp id (fun h => by omega))
            have HPA : Hid (∀ S ∈ (M ++ N) ++ [S0.mv A1 c1, T0.mv A2 c2], ∀ ad, S.A = some ad → ∀ g, u15.ownBlock = some g → S.l = [] ∨ ad.block ≠ g) := Lib.hid (fun S hS ad e g hg => by
              rcases List.mem_append.1 hS with h | h
              · exact HNEA.out S h ad e g hg
              · exact (HFRS.out S h ad e).imp id (fun h1 => by have := HOA.out g hg; omega))
            have HPB2 : Hid (∀ S ∈ (M ++ N) ++ [S0.mv A1 c1, T0.mv A2 c2], ∀ ad, S.A = some ad → ∀ g, u16.ownBlock = some g → S.l = [] ∨ ad.block ≠ g) := Lib.hid (fun S hS ad e g hg => by
              rcases List.mem_append.1 hS with h | h
              · exact HNEB.out S h ad e g hg
              · exact (HFRS.out S h ad e).imp id (fun h1 => by have := HOB.out g hg; omega))
            obtain ⟨gs, hgs⟩ : ∃ g, (S0.mv A1 c1).C = g := ⟨_, rfl⟩
            obtain ⟨gt, hgt⟩ : ∃ g, (T0.mv A2 c2).C = g := ⟨_, rfl⟩
            have HQ5 : Hid (wr.heap.size ≤ q1 ∧ wr.heap.size ≤ q2) := Lib.hid ⟨by omega, by omega⟩
            clear hF e5 z5 hat5 hq5 hlo5 kk5 kk hpi hqb hbz hbw hq4 hgq h4z j0 j1 j2 j3 j4 j5 j6 j7 j11
            have HGS := Lib.hid hgs
            have HGT := Lib.hid hgt
            have z4g : Ag w5 q1 gs.toList := by rw [← hgs]; exact HZ4q.out
            have z5g : Ag w5 q2 gt.toList := by rw [← hgt]; exact HZ5q.out
            have HSL1 : Hid ((Tryz.prog.info? 91).map (·.size) = some gs.toList.length) := Lib.hid (by rw [← hgs]; exact st_info)
            have HSL2 : Hid ((Tryz.prog.info? 91).map (·.size) = some gt.toList.length) := Lib.hid (by rw [← hgt]; exact st_info)
            have HFO1 : Hid (Array.foldl (fun (cs : Array Value) (x : Value × Nat) => cs.setIfInBounds x.snd x.fst) (#[.int .u64 0, .int .i64 0, .int .i64 0, .int .i64 0, .int .i64 0, .int .u64 0, .int .u64 0, .int .u64 0, .int .u64 0, .int .u64 0, .int .u64 0, .int .u64 0, .int .u64 0, .int .u64 0, .int .u64 0, .int .u64 0, .int .u64 0, .int .u64 0, .int .u64 0, .int .u64 0, .int .u64 0, .int .u64 0, .int .u64 0, .slice none 0 0] : Array Value) gs.zipIdx 0 24 = gs) := Lib.hid (by rw [← hgs]; exact sp_fold (S0.mv A1 c1))
            have HFO2 : Hid (Array.foldl (fun (cs : Array Value) (x : Value × Nat) => cs.setIfInBounds x.snd x.fst) (#[.int .u64 0, .int .i64 0, .int .i64 0, .int .i64 0, .int .i64 0, .int .u64 0, .int .u64 0, .int .u64 0, .int .u64 0, .int .u64 0, .int .u64 0, .int .u64 0, .int .u64 0, .int .u64 0, .int .u64 0, .int .u64 0, .int .u64 0, .int .u64 0, .int .u64 0, .int .u64 0, .int .u64 0, .int .u64 0, .int .u64 0, .slice none 0 0] : Array Value) gt.zipIdx 0 24 = gt) := Lib.hid (by rw [← hgt]; exact sp_fold (T0.mv A2 c2))
            have HONE1 : Hid (∀ u ∈ gs.toList, u.oneCell' = true) := Lib.hid (by rw [← hgs]; exact (S0.mv A1 c1).one')
            have HONE2 : Hid (∀ u ∈ gt.toList, u.oneCell' = true) := Lib.hid (by rw [← hgt]; exact (T0.mv A2 c2).one')
            have HLEN1 : Hid (gs.toList.length = 24) := Lib.hid (by rw [← hgs]; rfl)
            have HLEN2 : Hid (gt.toList.length = 24) := Lib.hid (by rw [← hgt]; rfl)
            have hgs24 : gs.size = 24 := by rw [← hgs]; rfl
            have hgt24 : gt.size = 24 := by rw [← hgt]; rfl
            have HTS1 : Hid ((spL M).flatten ++ gs.toList = (spL (M ++ [S0.mv A1 c1])).flatten) := Lib.hid (by rw [spL_snoc, ← hgs])
            have HTS2 : Hid ((spL N).flatten ++ gt.toList = (spL (N ++ [T0.mv A2 c2])).flatten) := Lib.hid (by rw [spL_snoc, ← hgt])
            have hrow5 := HROW5.out
            have hrowN5 := HROWN5.out
            have hm1 := z4g.cell
            have hb5 := HBW5.out
            have hn9 := HI4.out
            have dj := HDJ.out
            have e49 : IntKind.i64.wrap ((n : Int) + 1) = ((n + 1 : Nat) : Int) := by rw [IntWalk.i64_in _ (by omega)]; omega
            clear hgs hgt z4g
            go_wp2_with (first
              | (with_reducible refine wpList_load_mid rfl 91 (.tmp 20) rfl q1 0 rfl gs.toList _ hm1 hut rfl HSL1.out ?_; simp only [Array.toArray_toList])
              | (with_reducible refine wpList_load_mid rfl 91 (.tmp 22) rfl q2 0 rfl gt.toList _ hm2 hut rfl HSL2.out ?_; simp only [Array.toArray_toList])
              | (at_builtin; rw [HFO1.out]; refine wpList_append_at _ rfl (.tmp 101) (.tmp 103) 34 rfl B0 91 i0 (.agg (#[.int .u64 0, .int .i64 0, .int .i64 0, .int .i64 0, .int .i64 0, .int .u64 0, .int .u64 0, .int .u64 0, .int .u64 0, .int .u64 0, .int .u64 0, .int .u64 0, .int .u64 0, .int .u64 0, .int .u64 0, .int .u64 0, .int .u64 0, .int .u64 0, .int .u64 0, .int .u64 0, .int .u64 0, .int .u64 0, .int .u64 0, .slice none 0 0] : Array Value)) 24 208 Tryz.underlying34 hi hz0 hz1 hz2 rfl (by decide) _ _ _ rfl (hrow5.alloc _) ⟨w5.heap.size, 0, none⟩ 1 1 gs.toList rfl (by rw [HLEN1.out]) (fun j u hj => cell_new24 w5 gs 91 j u hj) HONE1.out (by unfold maxLen; omega) (by omega) (by simp; omega) ?_; intro va w6 hva hga hoa; obtain ⟨hrb6, dab6⟩ := app_other hga hoa hrowN5 dj; have hm2 := (z5g.kp (kp_grown (kp_alloc (kp_refl (fun g => u15.ownBlock = some g) w5) _) hga (fun g e => .inl e)) (fun h => (by have h := HOA.out q2 h; have := HQ5.out; omega))).cell; have hz6 : w5.heap.size + 1 ≤ w6.heap.size := (by simpa using hga.size))
              | (at_builtin; rw [HFO2.out]; refine wpList_append_at _ rfl (.tmp 105) (.tmp 107) 34 rfl B0 91 i0 (.agg (#[.int .u64 0, .int .i64 0, .int .i64 0, .int .i64 0, .int .i64 0, .int .u64 0, .int .u64 0, .int .u64 0, .int .u64 0, .int .u64 0, .int .u64 0, .int .u64 0, .int .u64 0, .int .u64 0, .int .u64 0, .int .u64 0, .int .u64 0, .int .u64 0, .int .u64 0, .int .u64 0, .int .u64 0, .int .u64 0, .int .u64 0, .slice none 0 0] : Array Value)) 24 208 Tryz.underlying34 hi hz0 hz1 hz2 rfl (by decide) _ _ _ rfl (hrb6.alloc _) ⟨w6.heap.size, 0, none⟩ 1 1 gt.toList rfl (by rw [HLEN2.out]) (fun j u hj => cell_new24 w6 gt 91 j u hj) HONE2.out (by unfold maxLen; omega) (by omega) (by simp; omega) ?_; intro vb w7 hvb hgb hob))
            go_roundw
            case rel =>
              have K6 : Kp (fun g => B0 ≤ g) w5 w6 := kp_grown (kp_alloc (kp_refl _ w5) _) hga (fun g e => .inl (own_base hrow5 g e))
              have K7 : Kp (fun g => B0 ≤ g) w6 w7 := kp_grown (kp_alloc (kp_refl _ w6) _) hgb (fun g e => .inl (own_base hrb6 g e))
              have K := kp_trans K6 K7
              obtain ⟨hat6, hna6⟩ := app_at HPAT.out HPA.out hga hoa
              obtain ⟨hat7, hnb7⟩ := app_at hat6 HPB2.out hgb hob
              obtain ⟨hva7, dba⟩ := app_other hgb hob hva dab6.symm
              have hmem : ∀ S, S ∈ (M ++ [S0.mv A1 c1]) ++ (N ++ [T0.mv A2 c2]) → S ∈ (M ++ N) ++ [S0.mv A1 c1, T0.mv A2 c2] := fun S hS => by
                simp only [List.mem_append, List.mem_cons, List.not_mem_nil, or_false] at hS ⊢
                rcases hS with (h | h) | (h | h) <;> simp [h]
              have hqb := HQB.out
              have hszK := K.size
              refine ⟨n + 1, M ++ [S0.mv A1 c1], N ++ [T0.mv A2 c2], by omega, by go_num, by omega, by rw [HCS.out]; exact HMV.out.snoc S0 A1 c1, by rw [HCT.out]; exact HMVN.out.snoc T0 A2 c2, ?_, fun S hS => hat7 S (hmem S hS), fun S hS => hna6 S (hmem S hS), fun S hS => hnb7 S (hmem S hS), ?_, by rw [← HTS1.out]; exact hva7, by rw [← HTS2.out]; exact hvb, dba.symm, ?_, ?_, ?_, ?_, ?_⟩
              · intro S hS
                rcases List.mem_append.1 (hmem S hS) with h | h
                · exact HOKM.out S h
                · simp only [List.mem_cons, List.not_mem_nil, or_false] at h
                  rcases h with rfl | rfl
                  · exact SP.mv_ok HSO.out _ _
                  · exact SP.mv_ok HTO.out _ _
              · intro S hS ad e
                rcases List.mem_append.1 (hmem S hS) with h | h
                · exact HLW.out S h ad e
                · exact (HFRS.out S h ad e).imp id (fun h1 => Nat.le_trans HBW.out h1)
              · intro i hi hi4
                have h1 := HP.out i hi4
                exact (HKS5.out i hi hi4).kp K (by omega) (by omega)
              · exact HZK5.out.kp K (by omega)
              · intro i hi
                have h1 := cell_blk (HLD5.out i hi)
                have h2 := HLB.out
                rw [blk_add] at h1
                exact (World.cell?_of_block (by rw [blk_add]; exact K.block lad.block h1 (by omega))).trans (HLD5.out i hi)
              · exact (HRR5.out.kp K (Nat.le_refl _) (fun ad e h1 h => by have := HRB.out ad e; omega)).more K.size
              · exact below_kp HGG5.out K HGG5.out.size (fun i hi => by have := HWB.out; omega)
            case measure => have := HI4.out; simp [Go.RowKit.intOf] <;> omega

      · have e66 : ((n : Int) == (jb : Int)) = false := by simp; omega
        have HNJ := Lib.hid hnj
        clear hnj hpx hpy hxv hyv
        go_upto_region 15 with fail
        have hpe := HPNN.out HNJ.out
        have hqe := HQNN.out HNJ.out
        try rw [hpe]
        try rw [hqe]
        try rw [hjb]
        clear hpe hqe e66 hjb
        have HPI := Lib.hid (HP.out n HI4.out)
        have GZ := grew_trans HGG.out HGQ.out
        have hbz : B0 ≤ wz.heap.size := Nat.le_trans HBW.out HGQ.out.size
        have HBZwz := Lib.hid hbz
        have HSBwz : Hid (∀ g, (fun j => j = p n + 1) g → g < wz.heap.size) := Lib.hid (fun g h => by
          have h1 : g = p n + 1 := h
          have := HPI.out; have := HQB.out; omega)
        have HSYwz : Hid (∀ y, Kp (fun j => j = p n + 1) wz y → Std y) := Lib.hid (fun y k => HS.out.grew (below_kp GZ k GZ.size (fun i (hi : i = p n + 1) => by have := HPI.out; omega)))
        have hldz : wz.cell? (lad.add n) = some (.pointer (some ⟨p n + 1, 0, none⟩)) := (HGQ.out.cell (p := lad.add n) (cell_blk (HLD.out n HI4.out))).trans (HLD.out n HI4.out)
        have HLCwz : Hid (∀ y, Kp (fun j => j = p n + 1) wz y → y.cell? (lad.add n) = some (.pointer (some ⟨p n + 1, 0, none⟩))) := Lib.hid (fun y k => (World.cell?_of_block (by rw [blk_add]; exact k.block lad.block (by have := cell_blk hldz; rwa [blk_add] at this) (FL.out n HI4.out))).trans hldz)
        have HKYwz : Hid (∀ y, Grew wz y → KyAt y (p n + 1) (p n) (n : Int) (sdI seed n) (ksL seed 2 n) 0 (2 ^ 2)) := Lib.hid (fun y k => (HKS.out n (Nat.le_refl _) HI4.out).grew (grew_trans HGQ.out k))
        have CC0 := Lib.hid (fun W => c12_ok 0 W)
        have CC1 := Lib.hid (fun W => c12_ok 1 W)
        have cd0 := fun W h => digest_ok (cm12 0) (okC_in (ok12 0 (by omega))) W h
        have cd1 := fun W h => digest_ok (cm12 1) (okC_in (ok12 1 (by omega))) W h
        rw [HD.out, show (cm12 0).v = .agg (cm12 0).cells from rfl] at cd0
        rw [HE.out, show (cm12 1).v = .agg (cm12 1).cells from rfl] at cd1
        have CD0 := Lib.hid cd0
        have CD1 := Lib.hid cd1
        obtain ⟨S0, hS0⟩ : ∃ S, stpK seed 2 n 0 D (pf n) none 0 = S := ⟨_, rfl⟩
        obtain ⟨T0, hT0⟩ : ∃ S, stpK seed 2 n 1 E (qf n) none 0 = S := ⟨_, rfl⟩
        have CMwz : Hid (∀ W, Std W → KyAt W (p n + 1) (p n) (n : Int) (sdI seed n) (ksL seed 2 n) 0 (2 ^ 2) → Calls Tryz.prog 42 #[.pointer (some ⟨p n + 1, 0, none⟩), .int .i64 (n : Int), .int .u64 (D : Int), .int .i64 (pf n)] W fun e w' =>
            (∃ A c, e = .returned (.tuple #[.agg (S0.mv A c).C, .int .i64 0]) ∧ (S0.mv A c).at w' ∧ (∀ ad, A = some ad → W.heap.size ≤ ad.block)) ∧ Tn (p n + 1) W w' ∧ KyAt w' (p n + 1) (p n) (n : Int) (sdI seed n) (ksL seed 2 n) (0 + 1) (2 ^ 2)) := Lib.hid (fun W h1 h2 => by
          have hb := HPF.out n HI4.out
          have := stmakeK seed 2 n 0 (by omega) HI4.out (by decide) (p n) D HDL.out.1 (pf n) ⟨by omega, by omega⟩ (decide_eq_true (by omega)) W h1 h2
          rw [← hS0]
          exact this)
        have CMw4 : Hid (∀ W, Std W → KyAt W (p n + 1) (p n) (n : Int) (sdI seed n) (ksL seed 2 n) 1 (2 ^ 2) → Calls Tryz.prog 42 #[.pointer (some ⟨p n + 1, 0, none⟩), .int .i64 (n : Int), .int .u64 (E : Int), .int .i64 (qf n)] W fun e w' =>
            (∃ A c, e = .returned (.tuple #[.agg (T0.mv A c).C, .int .i64 0]) ∧ (T0.mv A c).at w' ∧ (∀ ad, A = some ad → W.heap.size ≤ ad.block)) ∧ Tn (p n + 1) W w' ∧ KyAt w' (p n + 1) (p n) (n : Int) (sdI seed n) (ksL seed 2 n) (1 + 1) (2 ^ 2)) := Lib.hid (fun W h1 h2 => by
          have hb := HQF.out n HI4.out
          have := stmakeK seed 2 n 1 (by omega) HI4.out (by decide) (p n) E HDL.out.2 (qf n) ⟨by omega, by omega⟩ (decide_eq_true (by omega)) W h1 h2
          rw [← hT0]
          exact this)
        have HCS : Hid (cS seed 0 D pf (n + 1) = cS seed 0 D pf n ++ [S0]) := Lib.hid (by rw [← hS0, cS_succ])
        have HCT : Hid (cS seed 1 E qf (n + 1) = cS seed 1 E qf n ++ [T0]) := Lib.hid (by rw [← hT0, cS_succ])
        have HSO : Hid S0.ok := Lib.hid (by have hb := HPF.out n HI4.out; rw [← hS0]; exact stpK_ok seed 2 n 0 D (pf n) none 0 (by omega) HI4.out (by decide) HDL.out.1 ⟨by omega, by omega⟩)
        have HTO : Hid T0.ok := Lib.hid (by have hb := HQF.out n HI4.out; rw [← hT0]; exact stpK_ok seed 2 n 1 E (qf n) none 0 (by omega) HI4.out (by decide) HDL.out.2 ⟨by omega, by omega⟩)
        clear cd0 cd1 hS0 hT0 hldz GZ hbz
        refine wp_region_lateapp2 13 14 8 (fun j => j = p n + 1) (fun ix9 => match ix9 with
            | 0 => fun v => v = .slice (some lad) 4 Lc
            | 1 => fun v => v = .int .i64 (n : Int)
            | 2 => fun v => v = .pointer (some (lad.add n))
            | 3 => fun v => v = .pointer (some ⟨p n + 1, 0, none⟩)
            | 4 => fun v => v = .int .i64 (n : Int)
            | 5 => fun v => v = .agg (cm12 0).cells
            | 6 => fun v => v = .int .u64 (D : Int)
            | 7 => fun v => v = .int .i64 (pf n)
            | 8 => fun _ => True
            | 9 => fun v => ∃ A c, v = .tuple #[.agg (S0.mv A c).C, .int .i64 0]
            | 10 => fun _ => True
            | 11 => fun v => v = .int .i64 0
            | 12 => fun _ => True
            | 13 => fun _ => True
            | _ => fun _ => True) (fun ix9 => match ix9 with
            | 8 => fun lo hi v w => MkY w wz.heap.size (p n + 1) (p n) (n : Int) (sdI seed n) (ksL seed 2 n) 1 (2 ^ 2) S0 lo hi v (fun A c => .tuple #[.agg (S0.mv A c).C, .int .i64 0])
            | 9 => fun lo hi v w => MkS w wz.heap.size S0 lo hi v (fun A c => .tuple #[.agg (S0.mv A c).C, .int .i64 0])
            | 10 => fun lo hi v w => MkS w wz.heap.size S0 lo hi v (fun A c => .agg (S0.mv A c).C)
            | 12 => fun lo hi v w => AgZ w wz.heap.size lo hi (#[.int .u64 0, .int .i64 0, .int .i64 0, .int .i64 0, .int .i64 0, .int .u64 0, .int .u64 0, .int .u64 0, .int .u64 0, .int .u64 0, .int .u64 0, .int .u64 0, .int .u64 0, .int .u64 0, .int .u64 0, .int .u64 0, .int .u64 0, .int .u64 0, .int .u64 0, .int .u64 0, .int .u64 0, .int .u64 0, .int .u64 0, .slice none 0 0] : Array Value).toList v
            | _ => fun _ _ _ _ => True) (fun ix9 => match ix9 with
            | 9 => 8
            | 10 => 9
            | ix8 => ix8) (fun ix9 => match ix9 with
            | 9 => 8
            | 10 => 8
            | ix8 => ix8) (fun ix9 => match ix9 with
            | 11 => true
            | _ => false) 12 (fun v W => StY (fun j => j = p n + 1) wz S0 (p n + 1) (p n) (n : Int) (sdI seed n) (ksL seed 2 n) 1 (2 ^ 2) v W) rfl (by kernel_rfl) (by kernel_rfl) (by kernel_rfl) (by kernel_rfl) rfl rfl (by decide) (fun _ => trivial) ?_ ?_ ?_ ?_ ?_ (fun o ho => by cases ho; rfl) (fun v x y h hg => StY.gr h hg) ?_
        · refine ⟨?_, ?_, ?_, ?_, ?_, ?_, ?_, ?_, ?_, ?_, ?_, ?_, ?_, trivial⟩
          · intro vs lo hi y hg hd hvia
            replace hg : Kp (fun j => j = p n + 1) wz y := hg
            clear hvia
            simp only [actOf, List.take_succ_cons, List.take_zero, List.drop_succ_cons, List.drop_zero, Act.put, List.setIfInBounds_toArray, List.set_cons_succ, List.set_cons_zero, Nat.reduceAdd]
            go_wp2_with fail
            first | exact ⟨rfl, _, rfl, grew_refl _, rfl⟩ | exact ⟨rfl, _, rfl, grew_refl _, rfl, trivial⟩
          · intro vs lo hi y hg hd hvia
            replace hg : Kp (fun j => j = p n + 1) wz y := hg
            clear hvia
            simp only [actOf, List.take_succ_cons, List.take_zero, List.drop_succ_cons, List.drop_zero, Act.put, List.setIfInBounds_toArray, List.set_cons_succ, List.set_cons_zero, Nat.reduceAdd]
            go_wp2_with fail
            first | exact ⟨rfl, _, rfl, grew_refl _, rfl⟩ | exact ⟨rfl, _, rfl, grew_refl _, rfl, trivial⟩
          · intro vs lo hi y hg hd hvia
            replace hg : Kp (fun j => j = p n + 1) wz y := hg
            obtain ⟨h0, h1, _⟩ := hd
            replace h0 := h0 rfl
            replace h1 := h1 rfl
            clear hvia
            simp only [actOf, List.take_succ_cons, List.take_zero, List.drop_succ_cons, List.drop_zero, Act.put, List.setIfInBounds_toArray, List.set_cons_succ, List.set_cons_zero, Nat.reduceAdd]
            rw [show vs 0 = _ from h0, show vs 1 = _ from h1]
            go_wp2_with fail
            first | exact ⟨rfl, _, rfl, grew_refl _, rfl⟩ | exact ⟨rfl, _, rfl, grew_refl _, rfl, trivial⟩
          · intro vs lo hi y hg hd hvia
            replace hg : Kp (fun j => j = p n + 1) wz y := hg
            obtain ⟨h2, _⟩ := hd
            replace h2 := h2 rfl
            clear hvia
            simp only [actOf, List.take_succ_cons, List.take_zero, List.drop_succ_cons, List.drop_zero, Act.put, List.setIfInBounds_toArray, List.set_cons_succ, List.set_cons_zero, Nat.reduceAdd]
            rw [show vs 2 = _ from h2]
            have hc := HLCwz.out y hg
            go_wp2_with fail
            first | exact ⟨rfl, _, rfl, grew_refl _, rfl⟩ | exact ⟨rfl, _, rfl, grew_refl _, rfl, trivial⟩
          · intro vs lo hi y hg hd hvia
            replace hg : Kp (fun j => j = p n + 1) wz y := hg
            clear hvia
            simp only [actOf, List.take_succ_cons, List.take_zero, List.drop_succ_cons, List.drop_zero, Act.put, List.setIfInBounds_toArray, List.set_cons_succ, List.set_cons_zero, Nat.reduceAdd]
            go_wp2_with fail
            first | exact ⟨rfl, _, rfl, grew_refl _, rfl⟩ | exact ⟨rfl, _, rfl, grew_refl _, rfl, trivial⟩
          · intro vs lo hi y hg hd hvia
            replace hg : Kp (fun j => j = p n + 1) wz y := hg
            clear hvia
            simp only [actOf, List.take_succ_cons, List.take_zero, List.drop_succ_cons, List.drop_zero, Act.put, List.setIfInBounds_toArray, List.set_cons_succ, List.set_cons_zero, Nat.reduceAdd]
            go_wp2_with (go_at_call 44; refine (CC0.out y).mono ?_; rintro e z ⟨rfl, gz⟩)
            exact ⟨rfl, _, rfl, gz, rfl, trivial⟩
          · intro vs lo hi y hg hd hvia
            replace hg : Kp (fun j => j = p n + 1) wz y := hg
            obtain ⟨h5, _⟩ := hd
            replace h5 := h5 rfl
            clear hvia
            simp only [actOf, List.take_succ_cons, List.take_zero, List.drop_succ_cons, List.drop_zero, Act.put, List.setIfInBounds_toArray, List.set_cons_succ, List.set_cons_zero, Nat.reduceAdd]
            rw [show vs 5 = _ from h5]
            have hgS := HSYwz.out y hg
            go_wp2_with (go_at_call 43; refine (CD0.out y hgS).mono ?_; rintro e z ⟨rfl, gz⟩)
            exact ⟨rfl, _, rfl, gz, rfl, trivial⟩
          · intro vs lo hi y hg hd hvia
            replace hg : Kp (fun j => j = p n + 1) wz y := hg
            clear hvia
            simp only [actOf, List.take_succ_cons, List.take_zero, List.drop_succ_cons, List.drop_zero, Act.put, List.setIfInBounds_toArray, List.set_cons_succ, List.set_cons_zero, Nat.reduceAdd]
            go_wp2_with fail
            first | exact ⟨rfl, _, rfl, grew_refl _, rfl⟩ | exact ⟨rfl, _, rfl, grew_refl _, rfl, trivial⟩
          · intro vs lo hi y hg hd hvia
            replace hg : Grew wz y := hg
            obtain ⟨h3, h4, h6, h7, _⟩ := hd
            replace h3 := h3 rfl
            replace h4 := h4 rfl
            replace h6 := h6 rfl
            replace h7 := h7 rfl
            clear hvia
            simp only [actOf, List.take_succ_cons, List.take_zero, List.drop_succ_cons, List.drop_zero, Act.put, List.setIfInBounds_toArray, List.set_cons_succ, List.set_cons_zero, Nat.reduceAdd]
            rw [show vs 3 = _ from h3, show vs 4 = _ from h4, show vs 6 = _ from h6, show vs 7 = _ from h7]
            have hgS := HSYwz.out y (kp_grew hg)
            have hKY := HKYwz.out y hg
            go_wp2_with (go_at_call 42; refine (CMwz.out y hgS hKY).mono ?_; rintro e z ⟨⟨A9, c9, rfl, hat9, hfr9⟩, ht9, hk9⟩)
            exact ⟨rfl, _, rfl, kp_tn ht9, trivial, ⟨⟨A9, c9, rfl, hat9, hg.size, fun ad h => (at_lt hat9 ad h).imp id (fun h2 => ⟨hfr9 ad h, h2⟩)⟩, hk9⟩⟩
          · intro vs lo hi y hg hd hvia
            replace hg : Kp (fun j => j = p n + 1) wz y := hg
            obtain ⟨h8, _⟩ := hd
            replace h8 := h8 rfl
            have hv9 : (fun lo hi v w => MkY w wz.heap.size (p n + 1) (p n) (n : Int) (sdI seed n) (ksL seed 2 n) 1 (2 ^ 2) S0 lo hi v (fun A c => .tuple #[.agg (S0.mv A c).C, .int .i64 0])) (lo 8) (hi 8) (vs 8) y := hvia rfl
            clear hvia
            simp only [actOf, List.take_succ_cons, List.take_zero, List.drop_succ_cons, List.drop_zero, Act.put, List.setIfInBounds_toArray, List.set_cons_succ, List.set_cons_zero, Nat.reduceAdd]
            obtain ⟨A9, c9, e9, hat9, hb9, hr9⟩ := MkS.out (MkY.sk hv9)
            rw [e9]
            go_wp2_with fail
            exact ⟨rfl, _, rfl, grew_refl _, ⟨A9, ⟨c9, rfl⟩⟩, ⟨A9, c9, rfl, hat9, hb9, hr9⟩⟩
          · intro vs lo hi y hg hd hvia
            replace hg : Kp (fun j => j = p n + 1) wz y := hg
            obtain ⟨h9, _⟩ := hd
            replace h9 := h9 rfl
            have hv9 : (fun lo hi v w => MkS w wz.heap.size S0 lo hi v (fun A c => .tuple #[.agg (S0.mv A c).C, .int .i64 0])) (lo 9) (hi 9) (vs 9) y := hvia rfl
            clear hvia
            simp only [actOf, List.take_succ_cons, List.take_zero, List.drop_succ_cons, List.drop_zero, Act.put, List.setIfInBounds_toArray, List.set_cons_succ, List.set_cons_zero, Nat.reduceAdd]
            obtain ⟨A9, c9, e9, hat9, hb9, hr9⟩ := MkS.out hv9
            rw [e9]
            go_wp2_with fail
            exact ⟨rfl, _, rfl, grew_refl _, ⟨A9, c9, rfl, hat9, hb9, hr9⟩⟩
          · intro vs lo hi y hg hd hvia
            replace hg : Kp (fun j => j = p n + 1) wz y := hg
            obtain ⟨h9, _⟩ := hd
            replace h9 := h9 rfl
            clear hvia
            simp only [actOf, List.take_succ_cons, List.take_zero, List.drop_succ_cons, List.drop_zero, Act.put, List.setIfInBounds_toArray, List.set_cons_succ, List.set_cons_zero, Nat.reduceAdd]
            obtain ⟨A9, c9, e9⟩ := h9
            rw [e9]
            go_wp2_with fail
            first | exact ⟨rfl, _, rfl, grew_refl _, rfl⟩ | exact ⟨rfl, _, rfl, grew_refl _, rfl, trivial⟩
          · intro vs lo hi y hg hd hvia
            replace hg : Kp (fun j => j = p n + 1) wz y := hg
            clear hvia
            simp only [actOf, List.take_succ_cons, List.take_zero, List.drop_succ_cons, List.drop_zero, Act.put, List.setIfInBounds_toArray, List.set_cons_succ, List.set_cons_zero, Nat.reduceAdd]
            go_wp2_with fail
            exact ⟨rfl, _, rfl, grew_alloc (grew_refl _) _, ⟨y.heap.size, rfl, Ag.new y 91 (#[.int .u64 0, .int .i64 0, .int .i64 0, .int .i64 0, .int .i64 0, .int .u64 0, .int .u64 0, .int .u64 0, .int .u64 0, .int .u64 0, .int .u64 0, .int .u64 0, .int .u64 0, .int .u64 0, .int .u64 0, .int .u64 0, .int .u64 0, .int .u64 0, .int .u64 0, .int .u64 0, .int .u64 0, .int .u64 0, .int .u64 0, .slice none 0 0] : Array Value), hg.size, Nat.le_refl _, by show y.heap.size < (y.alloc _).heap.size; simp⟩⟩
        · refine ⟨(fun h => absurd h (by decide)), (fun h => absurd h (by decide)), (fun h => absurd h (by decide)), (fun h => absurd h (by decide)), (fun h => absurd h (by decide)), (fun h => absurd h (by decide)), (fun h => absurd h (by decide)), (fun h => absurd h (by decide)), (fun h => absurd h (by decide)), (fun h => absurd h (by decide)), (fun h => absurd h (by decide)), ?_, (fun h => absurd h (by decide)), (fun h => absurd h (by decide)), trivial⟩
          · intro _ vs y hd
            obtain ⟨h9, _⟩ := hd
            replace h9 := h9 rfl
            simp only [actOf, List.take_succ_cons, List.take_zero, List.drop_succ_cons, List.drop_zero, Act.put, List.setIfInBounds_toArray, List.set_cons_succ, List.set_cons_zero, Nat.reduceAdd]
            obtain ⟨A9, c9, e9⟩ := h9
            rw [e9]
            go_wp2_with fail
            first | exact ⟨rfl, _, rfl, grew_refl _, rfl⟩ | exact ⟨rfl, _, rfl, grew_refl _, rfl, trivial⟩
        · intro lo hi v x y h hg
          exact MkY.gr h hg
        · intro i lo hi v x y hne hx h hg
          match i, h with
          | 8, h => exact absurd rfl hne
          | 9, h => exact MkS.kp h hg HSBwz.out
          | 10, h => exact MkS.kp h hg HSBwz.out
          | 12, h => exact AgZ.kp h hg HSBwz.out
          | 0, _ => trivial
          | 1, _ => trivial
          | 2, _ => trivial
          | 3, _ => trivial
          | 4, _ => trivial
          | 5, _ => trivial
          | 6, _ => trivial
          | 7, _ => trivial
          | 11, _ => trivial
          | m + 13, _ => trivial
        · intro vs lo hi y hg hJ hK hB hD
          replace hg : Kp (fun j => j = p n + 1) wz y := hg
          have k82 := hK 8 (by decide) rfl
          have b82 := hB 8 (by decide) rfl
          have k73 := hK 9 (by decide) rfl
          have b73 := hB 9 (by decide) rfl
          have k83 := hK 10 (by decide) rfl
          have b83 := hB 10 (by decide) rfl
          have k20 := hK 12 (by decide) rfl
          have b20 := hB 12 (by decide) rfl
          have d82_20 := hD 8 (by decide) rfl 12 (by decide) rfl (by decide)
          have d73_20 := hD 9 (by decide) rfl 12 (by decide) rfl (by decide)
          have d83_20 := hD 10 (by decide) rfl 12 (by decide) rfl (by decide)
          clear hK hB hD
          have j0 : vs 0 = .slice (some lad) 4 Lc := hJ 0 (by decide) rfl
          have j1 : vs 1 = .int .i64 (n : Int) := hJ 1 (by decide) rfl
          have j2 : vs 2 = .pointer (some (lad.add n)) := hJ 2 (by decide) rfl
          have j3 : vs 3 = .pointer (some ⟨p n + 1, 0, none⟩) := hJ 3 (by decide) rfl
          have j4 : vs 4 = .int .i64 (n : Int) := hJ 4 (by decide) rfl
          have j5 : vs 5 = .agg (cm12 0).cells := hJ 5 (by decide) rfl
          have j6 : vs 6 = .int .u64 (D : Int) := hJ 6 (by decide) rfl
          have j7 : vs 7 = .int .i64 (pf n) := hJ 7 (by decide) rfl
          clear hJ
          simp only [actOf, List.take_succ_cons, List.take_zero, List.drop_succ_cons, List.drop_zero, Act.put, List.setIfInBounds_toArray, List.set_cons_succ, List.set_cons_zero, Nat.reduceAdd]
          obtain ⟨A1, c1, e43, hat1, hb1, hr1⟩ := MkS.out k83
          obtain ⟨q, e5, zq, hBq, hql, hqh⟩ := AgZ.out k20
          rw [e43, e5]
          have hky := MkY.ky k82
          have hPI := HPI.out
          have hqb := HQB.out
          have hbz := HBZwz.out
          have HNQ : Hid (∀ ad, A1 = some ad → S0.l = [] ∨ ad.block ≠ q) := Lib.hid (fun ad h => by
            rcases hr1 ad h with h1 | h1
            · exact .inl h1
            · exact .inr (by rcases d83_20 with h2 | h2 <;> omega))
          have HLO1 : Hid (∀ ad, A1 = some ad → S0.l = [] ∨ wz.heap.size ≤ ad.block) := Lib.hid (fun ad h => (hr1 ad h).imp id (fun h1 => by omega))
          obtain ⟨gs, hgs⟩ : ∃ g, (S0.mv A1 c1).C = g := ⟨_, rfl⟩
          have hz24 : gs.size = 24 := by rw [← hgs]; rfl
          have HTH : Hid (y.there q 0 gs.size) := Lib.hid (zq.thereN gs.size (by rw [hz24]; rfl))
          have HSI : Hid ((Tryz.prog.info? 91).map (·.size) = some gs.size) := Lib.hid (by rw [hz24]; exact st_info)
          have HON : Hid (gs.all (·.oneCell') = true) := Lib.hid (by rw [← hgs]; exact (S0.mv A1 c1).one)
          have z4 := Ag.set (vs := gs.toList) zq (by rw [Array.length_toList, hz24]; rfl)
          have k4 := setCells_kp gs.toList q 0 y
          have HF : Hid (StY (fun j => j = p n + 1) wz S0 (p n + 1) (p n) (n : Int) (sdI seed n) (ksL seed 2 n) 1 (2 ^ 2) (.pointer (some ⟨q, 0, none⟩)) (y.setCells q 0 gs.toList)) := Lib.hid ⟨⟨A1, c1, q, rfl, by rw [hgs]; exact z4, at_kp hat1 k4 (fun ad h => HNQ.out ad h), by omega, HLO1.out, kp_new hg k4 (by omega)⟩, hky.kp k4 (fun h => by have h : p n + 1 = q := h; omega) (fun h => by have h : p n = q := h; omega)⟩
          rw [hgs]
          clear hgs hg z4 k4 zq hat1 hky
          generalize gs = gs' at *
          go_wp2_with (with_reducible refine wpList_store_mid rfl 91 (.tmp 20) (.tmp 83) rfl q 0 gs' rfl rfl HTH.out HSI.out HON.out ?_)
          exact HF.out
        · intro vs w4 hF hJ
          have j0 : vs 0 = .slice (some lad) 4 Lc := hJ 0 (by decide)
          have j1 : vs 1 = .int .i64 (n : Int) := hJ 1 (by decide)
          have j2 : vs 2 = .pointer (some (lad.add n)) := hJ 2 (by decide)
          have j3 : vs 3 = .pointer (some ⟨p n + 1, 0, none⟩) := hJ 3 (by decide)
          have j4 : vs 4 = .int .i64 (n : Int) := hJ 4 (by decide)
          have j5 : vs 5 = .agg (cm12 0).cells := hJ 5 (by decide)
          have j6 : vs 6 = .int .u64 (D : Int) := hJ 6 (by decide)
          have j7 : vs 7 = .int .i64 (pf n) := hJ 7 (by decide)
          have j11 : vs 11 = .int .i64 0 := hJ 11 (by decide)
          clear hJ
          simp only [actOf, List.take_succ_cons, List.take_zero, List.drop_succ_cons, List.drop_zero, Act.put, List.setIfInBounds_toArray, List.set_cons_succ, List.set_cons_zero, Nat.reduceAdd]
          obtain ⟨A1, c1, q1, e5, z4, hat4, hq4, hlo4, kk4⟩ := StF.out (StY.st hF)
          have hky4 := StY.ky hF
          rw [e5, show vs 11 = _ from j11]
          have hpi := HPI.out
          have hqb := HQB.out
          have hbz := HBZwz.out
          have HBZw4 : Hid (B0 ≤ w4.heap.size) := Lib.hid (Nat.le_trans hbz kk4.size)
          have HSBw4 : Hid (∀ g, (fun j => j = p n + 1) g → g < w4.heap.size) := Lib.hid (fun g h => by
            have h1 : g = p n + 1 := h
            have := HBZw4.out; omega)
          have HSYw4 : Hid (∀ y, Kp (fun j => j = p n + 1) w4 y → Std y) := Lib.hid (fun y k => HSYwz.out y (kp_trans kk4 k))
          have HLCw4 : Hid (∀ y, Kp (fun j => j = p n + 1) w4 y → y.cell? (lad.add n) = some (.pointer (some ⟨p n + 1, 0, none⟩))) := Lib.hid (fun y k => HLCwz.out y (kp_trans kk4 k))
          have HKYw4 : Hid (∀ y, Grew w4 y → KyAt y (p n + 1) (p n) (n : Int) (sdI seed n) (ksL seed 2 n) 1 (2 ^ 2)) := Lib.hid (fun y k => hky4.grew k)
          have HZ4 := Lib.hid z4
          have HAT4 := Lib.hid hat4
          have HLO4 := Lib.hid hlo4
          have HKK4 := Lib.hid kk4
          have HQ4 := Lib.hid hq4
          clear hF hky4 e5 z4 hat4 hlo4 kk4 hq4 hpi hqb hbz j0 j1 j2 j3 j4 j5 j6 j7 j11
          go_upto_region 16 with fail
          refine wp_region_lateapp2 13 14 8 (fun j => j = p n + 1) (fun ix9 => match ix9 with
              | 0 => fun v => v = .slice (some lad) 4 Lc
              | 1 => fun v => v = .int .i64 (n : Int)
              | 2 => fun v => v = .pointer (some (lad.add n))
              | 3 => fun v => v = .pointer (some ⟨p n + 1, 0, none⟩)
              | 4 => fun v => v = .int .i64 (n : Int)
              | 5 => fun v => v = .agg (cm12 1).cells
              | 6 => fun v => v = .int .u64 (E : Int)
              | 7 => fun v => v = .int .i64 (qf n)
              | 8 => fun _ => True
              | 9 => fun v => ∃ A c, v = .tuple #[.agg (T0.mv A c).C, .int .i64 0]
              | 10 => fun _ => True
              | 11 => fun v => v = .int .i64 0
              | 12 => fun _ => True
              | 13 => fun _ => True
              | _ => fun _ => True) (fun ix9 => match ix9 with
              | 8 => fun lo hi v w => MkY w w4.heap.size (p n + 1) (p n) (n : Int) (sdI seed n) (ksL seed 2 n) 2 (2 ^ 2) T0 lo hi v (fun A c => .tuple #[.agg (T0.mv A c).C, .int .i64 0])
              | 9 => fun lo hi v w => MkS w w4.heap.size T0 lo hi v (fun A c => .tuple #[.agg (T0.mv A c).C, .int .i64 0])
              | 10 => fun lo hi v w => MkS w w4.heap.size T0 lo hi v (fun A c => .agg (T0.mv A c).C)
              | 12 => fun lo hi v w => AgZ w w4.heap.size lo hi (#[.int .u64 0, .int .i64 0, .int .i64 0, .int .i64 0, .int .i64 0, .int .u64 0, .int .u64 0, .int .u64 0, .int .u64 0, .int .u64 0, .int .u64 0, .int .u64 0, .int .u64 0, .int .u64 0, .int .u64 0, .int .u64 0, .int .u64 0, .int .u64 0, .int .u64 0, .int .u64 0, .int .u64 0, .int .u64 0, .int .u64 0, .slice none 0 0] : Array Value).toList v
              | _ => fun _ _ _ _ => True) (fun ix9 => match ix9 with
              | 9 => 8
              | 10 => 9
              | ix8 => ix8) (fun ix9 => match ix9 with
              | 9 => 8
              | 10 => 8
              | ix8 => ix8) (fun ix9 => match ix9 with
              | 11 => true
              | _ => false) 12 (fun v W => StY (fun j => j = p n + 1) w4 T0 (p n + 1) (p n) (n : Int) (sdI seed n) (ksL seed 2 n) 2 (2 ^ 2) v W) rfl (by kernel_rfl) (by kernel_rfl) (by kernel_rfl) (by kernel_rfl) rfl rfl (by decide) (fun _ => trivial) ?_ ?_ ?_ ?_ ?_ (fun o ho => by cases ho; rfl) (fun v x y h hg => StY.gr h hg) ?_
          · refine ⟨?_, ?_, ?_, ?_, ?_, ?_, ?_, ?_, ?_, ?_, ?_, ?_, ?_, trivial⟩
            · intro vs lo hi y hg hd hvia
              replace hg : Kp (fun j => j = p n + 1) w4 y := hg
              clear hvia
              simp only [actOf, List.take_succ_cons, List.take_zero, List.drop_succ_cons, List.drop_zero, Act.put, List.setIfInBounds_toArray, List.set_cons_succ, List.set_cons_zero, Nat.reduceAdd]
              go_wp2_with fail
              first | exact ⟨rfl, _, rfl, grew_refl _, rfl⟩ | exact ⟨rfl, _, rfl, grew_refl _, rfl, trivial⟩
            · intro vs lo hi y hg hd hvia
              replace hg : Kp (fun j => j = p n + 1) w4 y := hg
              clear hvia
              simp only [actOf, List.take_succ_cons, List.take_zero, List.drop_succ_cons, List.drop_zero, Act.put, List.setIfInBounds_toArray, List.set_cons_succ, List.set_cons_zero, Nat.reduceAdd]
              go_wp2_with fail
              first | exact ⟨rfl, _, rfl, grew_refl _, rfl⟩ | exact ⟨rfl, _, rfl, grew_refl _, rfl, trivial⟩
            · intro vs lo hi y hg hd hvia
              replace hg : Kp (fun j => j = p n + 1) w4 y := hg
              obtain ⟨h0, h1, _⟩ := hd
              replace h0 := h0 rfl
              replace h1 := h1 rfl
              clear hvia
              simp only [actOf, List.take_succ_cons, List.take_zero, List.drop_succ_cons, List.drop_zero, Act.put, List.setIfInBounds_toArray, List.set_cons_succ, List.set_cons_zero, Nat.reduceAdd]
              rw [show vs 0 = _ from h0, show vs 1 = _ from h1]
              go_wp2_with fail
              first | exact ⟨rfl, _, rfl, grew_refl _, rfl⟩ | exact ⟨rfl, _, rfl, grew_refl _, rfl, trivial⟩
            · intro vs lo hi y hg hd hvia
              replace hg : Kp (fun j => j = p n + 1) w4 y := hg
              obtain ⟨h2, _⟩ := hd
              replace h2 := h2 rfl
              clear hvia
              simp only [actOf, List.take_succ_cons, List.take_zero, List.drop_succ_cons, List.drop_zero, Act.put, List.setIfInBounds_toArray, List.set_cons_succ, List.set_cons_zero, Nat.reduceAdd]
              rw [show vs 2 = _ from h2]
              have hc := HLCw4.out y hg
              go_wp2_with fail
              first | exact ⟨rfl, _, rfl, grew_refl _, rfl⟩ | exact ⟨rfl, _, rfl, grew_refl _, rfl, trivial⟩
            · intro vs lo hi y hg hd hvia
              replace hg : Kp (fun j => j = p n + 1) w4 y := hg
              clear hvia
              simp only [actOf, List.take_succ_cons, List.take_zero, List.drop_succ_cons, List.drop_zero, Act.put, List.setIfInBounds_toArray, List.set_cons_succ, List.set_cons_zero, Nat.reduceAdd]
              go_wp2_with fail
              first | exact ⟨rfl, _, rfl, grew_refl _, rfl⟩ | exact ⟨rfl, _, rfl, grew_refl _, rfl, trivial⟩
            · intro vs lo hi y hg hd hvia
              replace hg : Kp (fun j => j = p n + 1) w4 y := hg
              clear hvia
              simp only [actOf, List.take_succ_cons, List.take_zero, List.drop_succ_cons, List.drop_zero, Act.put, List.setIfInBounds_toArray, List.set_cons_succ, List.set_cons_zero, Nat.reduceAdd]
              go_wp2_with (go_at_call 44; refine (CC1.out y).mono ?_; rintro e z ⟨rfl, gz⟩)
              exact ⟨rfl, _, rfl, gz, rfl, trivial⟩
            · intro vs lo hi y hg hd hvia
              replace hg : Kp (fun j => j = p n + 1) w4 y := hg
              obtain ⟨h5, _⟩ := hd
              replace h5 := h5 rfl
              clear hvia
              simp only [actOf, List.take_succ_cons, List.take_zero, List.drop_succ_cons, List.drop_zero, Act.put, List.setIfInBounds_toArray, List.set_cons_succ, List.set_cons_zero, Nat.reduceAdd]
              rw [show vs 5 = _ from h5]
              have hgS := HSYw4.out y hg
              go_wp2_with (go_at_call 43; refine (CD1.out y hgS).mono ?_; rintro e z ⟨rfl, gz⟩)
              exact ⟨rfl, _, rfl, gz, rfl, trivial⟩
            · intro vs lo hi y hg hd hvia
              replace hg : Kp (fun j => j = p n + 1) w4 y := hg
              clear hvia
              simp only [actOf, List.take_succ_cons, List.take_zero, List.drop_succ_cons, List.drop_zero, Act.put, List.setIfInBounds_toArray, List.set_cons_succ, List.set_cons_zero, Nat.reduceAdd]
              go_wp2_with fail
              first | exact ⟨rfl, _, rfl, grew_refl _, rfl⟩ | exact ⟨rfl, _, rfl, grew_refl _, rfl, trivial⟩
            · intro vs lo hi y hg hd hvia
              replace hg : Grew w4 y := hg
              obtain ⟨h3, h4, h6, h7, _⟩ := hd
              replace h3 := h3 rfl
              replace h4 := h4 rfl
              replace h6 := h6 rfl
              replace h7 := h7 rfl
              clear hvia
              simp only [actOf, List.take_succ_cons, List.take_zero, List.drop_succ_cons, List.drop_zero, Act.put, List.setIfInBounds_toArray, List.set_cons_succ, List.set_cons_zero, Nat.reduceAdd]
              rw [show vs 3 = _ from h3, show vs 4 = _ from h4, show vs 6 = _ from h6, show vs 7 = _ from h7]
              have hgS := HSYw4.out y (kp_grew hg)
              have hKY := HKYw4.out y hg
              go_wp2_with (go_at_call 42; refine (CMw4.out y hgS hKY).mono ?_; rintro e z ⟨⟨A9, c9, rfl, hat9, hfr9⟩, ht9, hk9⟩)
              exact ⟨rfl, _, rfl, kp_tn ht9, trivial, ⟨⟨A9, c9, rfl, hat9, hg.size, fun ad h => (at_lt hat9 ad h).imp id (fun h2 => ⟨hfr9 ad h, h2⟩)⟩, hk9⟩⟩
            · intro vs lo hi y hg hd hvia
              replace hg : Kp (fun j => j = p n + 1) w4 y := hg
              obtain ⟨h8, _⟩ := hd
              replace h8 := h8 rfl
              have hv9 : (fun lo hi v w => MkY w w4.heap.size (p n + 1) (p n) (n : Int) (sdI seed n) (ksL seed 2 n) 2 (2 ^ 2) T0 lo hi v (fun A c => .tuple #[.agg (T0.mv A c).C, .int .i64 0])) (lo 8) (hi 8) (vs 8) y := hvia rfl
              clear hvia
              simp only [actOf, List.take_succ_cons, List.take_zero, List.drop_succ_cons, List.drop_zero, Act.put, List.setIfInBounds_toArray, List.set_cons_succ, List.set_cons_zero, Nat.reduceAdd]
              obtain ⟨A9, c9, e9, hat9, hb9, hr9⟩ := MkS.out (MkY.sk hv9)
              rw [e9]
              go_wp2_with fail
              exact ⟨rfl, _, rfl, grew_refl _, ⟨A9, ⟨c9, rfl⟩⟩, ⟨A9, c9, rfl, hat9, hb9, hr9⟩⟩
            · intro vs lo hi y hg hd hvia
              replace hg : Kp (fun j => j = p n + 1) w4 y := hg
              obtain ⟨h9, _⟩ := hd
              replace h9 := h9 rfl
              have hv9 : (fun lo hi v w => MkS w w4.heap.size T0 lo hi v (fun A c => .tuple #[.agg (T0.mv A c).C, .int .i64 0])) (lo 9) (hi 9) (vs 9) y := hvia rfl
              clear hvia
              simp only [actOf, List.take_succ_cons, List.take_zero, List.drop_succ_cons, List.drop_zero, Act.put, List.setIfInBounds_toArray, List.set_cons_succ, List.set_cons_zero, Nat.reduceAdd]
              obtain ⟨A9, c9, e9, hat9, hb9, hr9⟩ := MkS.out hv9
              rw [e9]
              go_wp2_with fail
              exact ⟨rfl, _, rfl, grew_refl _, ⟨A9, c9, rfl, hat9, hb9, hr9⟩⟩
            · intro vs lo hi y hg hd hvia
              replace hg : Kp (fun j => j = p n + 1) w4 y := hg
              obtain ⟨h9, _⟩ := hd
              replace h9 := h9 rfl
              clear hvia
              simp only [actOf, List.take_succ_cons, List.take_zero, List.drop_succ_cons, List.drop_zero, Act.put, List.setIfInBounds_toArray, List.set_cons_succ, List.set_cons_zero, Nat.reduceAdd]
              obtain ⟨A9, c9, e9⟩ := h9
              rw [e9]
              go_wp2_with fail
              first | exact ⟨rfl, _, rfl, grew_refl _, rfl⟩ | exact ⟨rfl, _, rfl, grew_refl _, rfl, trivial⟩
            · intro vs lo hi y hg hd hvia
              replace hg : Kp (fun j => j = p n + 1) w4 y := hg
              clear hvia
              simp only [actOf, List.take_succ_cons, List.take_zero, List.drop_succ_cons, List.drop_zero, Act.put, List.setIfInBounds_toArray, List.set_cons_succ, List.set_cons_zero, Nat.reduceAdd]
              go_wp2_with fail
              exact ⟨rfl, _, rfl, grew_alloc (grew_refl _) _, ⟨y.heap.size, rfl, Ag.new y 91 (#[.int .u64 0, .int .i64 0, .int .i64 0, .int .i64 0, .int .i64 0, .int .u64 0, .int .u64 0, .int .u64 0, .int .u64 0, .int .u64 0, .int .u64 0, .int .u64 0, .int .u64 0, .int .u64 0, .int .u64 0, .int .u64 0, .int .u64 0, .int .u64 0, .int .u64 0, .int .u64 0, .int .u64 0, .int .u64 0, .int .u64 0, .slice none 0 0] : Array Value), hg.size, Nat.le_refl _, by show y.heap.size < (y.alloc _).heap.size; simp⟩⟩
          · refine ⟨(fun h => absurd h (by decide)), (fun h => absurd h (by decide)), (fun h => absurd h (by decide)), (fun h => absurd h (by decide)), (fun h => absurd h (by decide)), (fun h => absurd h (by decide)), (fun h => absurd h (by decide)), (fun h => absurd h (by decide)), (fun h => absurd h (by decide)), (fun h => absurd h (by decide)), (fun h => absurd h (by decide)), ?_, (fun h => absurd h (by decide)), (fun h => absurd h (by decide)), trivial⟩
            · intro _ vs y hd
              obtain ⟨h9, _⟩ := hd
              replace h9 := h9 rfl
              simp only [actOf, List.take_succ_cons, List.take_zero, List.drop_succ_cons, List.drop_zero, Act.put, List.setIfInBounds_toArray, List.set_cons_succ, List.set_cons_zero, Nat.reduceAdd]
              obtain ⟨A9, c9, e9⟩ := h9
              rw [e9]
              go_wp2_with fail
              first | exact ⟨rfl, _, rfl, grew_refl _, rfl⟩ | exact ⟨rfl, _, rfl, grew_refl _, rfl, trivial⟩
          · intro lo hi v x y h hg
            exact MkY.gr h hg
          · intro i lo hi v x y hne hx h hg
            match i, h with
            | 8, h => exact absurd rfl hne
            | 9, h => exact MkS.kp h hg HSBw4.out
            | 10, h => exact MkS.kp h hg HSBw4.out
            | 12, h => exact AgZ.kp h hg HSBw4.out
            | 0, _ => trivial
            | 1, _ => trivial
            | 2, _ => trivial
            | 3, _ => trivial
            | 4, _ => trivial
            | 5, _ => trivial
            | 6, _ => trivial
            | 7, _ => trivial
            | 11, _ => trivial
            | m + 13, _ => trivial
          · intro vs lo hi y hg hJ hK hB hD
            replace hg : Kp (fun j => j = p n + 1) w4 y := hg
            have k94 := hK 8 (by decide) rfl
            have b94 := hB 8 (by decide) rfl
            have k85 := hK 9 (by decide) rfl
            have b85 := hB 9 (by decide) rfl
            have k95 := hK 10 (by decide) rfl
            have b95 := hB 10 (by decide) rfl
            have k22 := hK 12 (by decide) rfl
            have b22 := hB 12 (by decide) rfl
            have d94_22 := hD 8 (by decide) rfl 12 (by decide) rfl (by decide)
            have d85_22 := hD 9 (by decide) rfl 12 (by decide) rfl (by decide)
            have d95_22 := hD 10 (by decide) rfl 12 (by decide) rfl (by decide)
            clear hK hB hD
            have j0 : vs 0 = .slice (some lad) 4 Lc := hJ 0 (by decide) rfl
            have j1 : vs 1 = .int .i64 (n : Int) := hJ 1 (by decide) rfl
            have j2 : vs 2 = .pointer (some (lad.add n)) := hJ 2 (by decide) rfl
            have j3 : vs 3 = .pointer (some ⟨p n + 1, 0, none⟩) := hJ 3 (by decide) rfl
            have j4 : vs 4 = .int .i64 (n : Int) := hJ 4 (by decide) rfl
            have j5 : vs 5 = .agg (cm12 1).cells := hJ 5 (by decide) rfl
            have j6 : vs 6 = .int .u64 (E : Int) := hJ 6 (by decide) rfl
            have j7 : vs 7 = .int .i64 (qf n) := hJ 7 (by decide) rfl
            clear hJ
            simp only [actOf, List.take_succ_cons, List.take_zero, List.drop_succ_cons, List.drop_zero, Act.put, List.setIfInBounds_toArray, List.set_cons_succ, List.set_cons_zero, Nat.reduceAdd]
            obtain ⟨A1, c1, e43, hat1, hb1, hr1⟩ := MkS.out k95
            obtain ⟨q, e5, zq, hBq, hql, hqh⟩ := AgZ.out k22
            rw [e43, e5]
            have hky := MkY.ky k94
            have hPI := HPI.out
            have hqb := HQB.out
            have hbz := HBZw4.out
            have HNQ : Hid (∀ ad, A1 = some ad → T0.l = [] ∨ ad.block ≠ q) := Lib.hid (fun ad h => by
              rcases hr1 ad h with h1 | h1
              · exact .inl h1
              · exact .inr (by rcases d95_22 with h2 | h2 <;> omega))
            have HLO1 : Hid (∀ ad, A1 = some ad → T0.l = [] ∨ w4.heap.size ≤ ad.block) := Lib.hid (fun ad h => (hr1 ad h).imp id (fun h1 => by omega))
            obtain ⟨gs, hgs⟩ : ∃ g, (T0.mv A1 c1).C = g := ⟨_, rfl⟩
            have hz24 : gs.size = 24 := by rw [← hgs]; rfl
            have HTH : Hid (y.there q 0 gs.size) := Lib.hid (zq.thereN gs.size (by rw [hz24]; rfl))
            have HSI : Hid ((Tryz.prog.info? 91).map (·.size) = some gs.size) := Lib.hid (by rw [hz24]; exact st_info)
            have HON : Hid (gs.all (·.oneCell') = true) := Lib.hid (by rw [← hgs]; exact (T0.mv A1 c1).one)
            have z4 := Ag.set (vs := gs.toList) zq (by rw [Array.length_toList, hz24]; rfl)
            have k4 := setCells_kp gs.toList q 0 y
            have HF : Hid (StY (fun j => j = p n + 1) w4 T0 (p n + 1) (p n) (n : Int) (sdI seed n) (ksL seed 2 n) 2 (2 ^ 2) (.pointer (some ⟨q, 0, none⟩)) (y.setCells q 0 gs.toList)) := Lib.hid ⟨⟨A1, c1, q, rfl, by rw [hgs]; exact z4, at_kp hat1 k4 (fun ad h => HNQ.out ad h), by omega, HLO1.out, kp_new hg k4 (by omega)⟩, hky.kp k4 (fun h => by have h : p n + 1 = q := h; omega) (fun h => by have h : p n = q := h; omega)⟩
            rw [hgs]
            clear hgs hg z4 k4 zq hat1 hky
            generalize gs = gs' at *
            go_wp2_with (with_reducible refine wpList_store_mid rfl 91 (.tmp 22) (.tmp 95) rfl q 0 gs' rfl rfl HTH.out HSI.out HON.out ?_)
            exact HF.out
          · intro vs w5 hF hJ
            have j0 : vs 0 = .slice (some lad) 4 Lc := hJ 0 (by decide)
            have j1 : vs 1 = .int .i64 (n : Int) := hJ 1 (by decide)
            have j2 : vs 2 = .pointer (some (lad.add n)) := hJ 2 (by decide)
            have j3 : vs 3 = .pointer (some ⟨p n + 1, 0, none⟩) := hJ 3 (by decide)
            have j4 : vs 4 = .int .i64 (n : Int) := hJ 4 (by decide)
            have j5 : vs 5 = .agg (cm12 1).cells := hJ 5 (by decide)
            have j6 : vs 6 = .int .u64 (E : Int) := hJ 6 (by decide)
            have j7 : vs 7 = .int .i64 (qf n) := hJ 7 (by decide)
            have j11 : vs 11 = .int .i64 0 := hJ 11 (by decide)
            clear hJ
            simp only [actOf, List.take_succ_cons, List.take_zero, List.drop_succ_cons, List.drop_zero, Act.put, List.setIfInBounds_toArray, List.set_cons_succ, List.set_cons_zero, Nat.reduceAdd]
            obtain ⟨A2, c2, q2, e5, z5, hat5, hq5, hlo5, kk5⟩ := StF.out (StY.st hF)
            rw [e5, show vs 11 = _ from j11]
            have hpi := HPI.out
            have hqb := HQB.out
            have hbz := HBZwz.out
            have hbw := HBW.out
            have hq4 := HQ4.out
            have hgq := HGQ.out.size
            have h4z := HKK4.out.size
            have kk : Kp (fun j => j = p n + 1) wr w5 := kp_trans (kp_grew HGQ.out) (kp_trans HKK4.out kk5)
            have HZ5q := Lib.hid z5
            have HZ4q := Lib.hid (HZ4.out.kp kk5 (fun h => by have h : q1 = p n + 1 := h; omega))
            have HS1 : Hid ((S0.mv A1 c1).at w5) := Lib.hid (at_kp HAT4.out kk5 (fun ad h => (HLO4.out ad h).imp id (fun h1 h3 => by have h3 : ad.block = p n + 1 := h3; omega)))
            have HT1 := Lib.hid hat5
            have HAT5 : Hid (∀ S ∈ M ++ N, S.at w5) := Lib.hid (fun S hS => at_kp (HAT.out S hS) kk (fun ad h => (HLW.out S hS ad h).imp id (fun h1 h3 => by have h3 : ad.block = p n + 1 := h3; omega)))
            have HROW5 := Lib.hid (ownsRow_kp HROW.out kk (fun g h h3 => by
              have h1 := ownsRow_lt HROW.out g h
              have h3 : g = p n + 1 := h3
              omega))
            have HROWN5 := Lib.hid (ownsRow_kp HROWN.out kk (fun g h h3 => by
              have h1 := ownsRow_lt HROWN.out g h
              have h3 : g = p n + 1 := h3
              omega))
            have HKS5 : Hid (∀ i, n + 1 ≤ i → i < 4 → KyAt w5 (p i + 1) (p i) (i : Int) (sdI seed i) (ksL seed 2 i) 0 (2 ^ 2)) := Lib.hid (fun i hi hi4 => by
              have h1 := HP.out i hi4
              have h2 := HAP.out i n hi4 HI4.out (by omega)
              exact (HKS.out i (by omega) hi4).kp kk (fun h => by have h : p i + 1 = p n + 1 := h; omega) (fun h => by have h : p i = p n + 1 := h; omega))
            have HZK5 := Lib.hid (HZK.out.kp kk (fun h => by have h : qk = p n + 1 := h; omega))
            have HLD5 : Hid (∀ i, i < 4 → w5.cell? (lad.add i) = some (.pointer (some ⟨p i + 1, 0, none⟩))) := Lib.hid (fun i hi => by
              have h1 := cell_blk (HLD.out i hi)
              rw [blk_add] at h1
              exact (World.cell?_of_block (by rw [blk_add]; exact kk.block lad.block h1 (FL.out n HI4.out))).trans (HLD.out i hi))
            have HRR5 := Lib.hid ((HRR.out.kp kk (Nat.le_refl _) (fun ad e h1 h => FR.out n HI4.out ad e h)).more kk.size)
            have HGG5 := Lib.hid (below_kp HGG.out kk HGG.out.size (fun i (h : i = p n + 1) => by omega))
            have HBW5 : Hid (B0 ≤ w5.heap.size) := Lib.hid (Nat.le_trans hbw kk.size)
            have HOA := Lib.hid (ownsRow_lt HROW.out)
            have HOB := Lib.hid (ownsRow_lt HROWN.out)
            have HPAT : Hid (∀ S ∈ (M ++ N) ++ [S0.mv A1 c1, T0.mv A2 c2], S.at w5) := Lib.hid (fun S hS => by
              rcases List.mem_append.1 hS with h | h
              · exact HAT5.out S h
              · simp only [List.mem_cons, List.not_mem_nil, or_false] at h
                rcases h with rfl | rfl
                · exact HS1.out
                · exact HT1.out)
            have HFRS : Hid (∀ S ∈ [S0.mv A1 c1, T0.mv A2 c2], ∀ ad, S.A = some ad → S.l = [] ∨ wr.heap.size ≤ ad.block) := Lib.hid (fun S hS ad e => by
              simp only [List.mem_cons, List.not_mem_nil, or_false] at hS
              rcases hS with rfl | rfl
              · exact (HLO4.out ad e).imp id (fun h => by omega)
              · exact (hlo5 ad e).imp id (fun h => by omega))
            have HPA : Hid (∀ S ∈ (M ++ N) ++ [S0.mv A1 c1, T0.mv A2 c2], ∀ ad, S.A = some ad → ∀ g, u15.ownBlock = some g → S.l = [] ∨ ad.block ≠ g) := Lib.hid (fun S hS ad e g hg => by
              rcases List.mem_append.1 hS with h | h
              · exact HNEA.out S h ad e g hg
              · exact (HFRS.out S h ad e).imp id (fun h1 => by have := HOA.out g hg; omega))
            have HPB2 : Hid (∀ S ∈ (M ++ N) ++ [S0.mv A1 c1, T0.mv A2 c2], ∀ ad, S.A = some ad → ∀ g, u16.ownBlock = some g → S.l = [] ∨ ad.block ≠ g) := Lib.hid (fun S hS ad e g hg => by
              rcases List.mem_append.1 hS with h | h
              · exact HNEB.out S h ad e g hg
              · exact (HFRS.out S h ad e).imp id (fun h1 => by have := HOB.out g hg; omega))
            obtain ⟨gs, hgs⟩ : ∃ g, (S0.mv A1 c1).C = g := ⟨_, rfl⟩
            obtain ⟨gt, hgt⟩ : ∃ g, (T0.mv A2 c2).C = g := ⟨_, rfl⟩
            have HQ5 : Hid (wr.heap.size ≤ q1 ∧ wr.heap.size ≤ q2) := Lib.hid ⟨by omega, by omega⟩
            clear hF e5 z5 hat5 hq5 hlo5 kk5 kk hpi hqb hbz hbw hq4 hgq h4z j0 j1 j2 j3 j4 j5 j6 j7 j11
            have HGS := Lib.hid hgs
            have HGT := Lib.hid hgt
            have z4g : Ag w5 q1 gs.toList := by rw [← hgs]; exact HZ4q.out
            have z5g : Ag w5 q2 gt.toList := by rw [← hgt]; exact HZ5q.out
            have HSL1 : Hid ((Tryz.prog.info? 91).map (·.size) = some gs.toList.length) := Lib.hid (by rw [← hgs]; exact st_info)
            have HSL2 : Hid ((Tryz.prog.info? 91).map (·.size) = some gt.toList.length) := Lib.hid (by rw [← hgt]; exact st_info)
            have HFO1 : Hid (Array.foldl (fun (cs : Array Value) (x : Value × Nat) => cs.setIfInBounds x.snd x.fst) (#[.int .u64 0, .int .i64 0, .int .i64 0, .int .i64 0, .int .i64 0, .int .u64 0, .int .u64 0, .int .u64 0, .int .u64 0, .int .u64 0, .int .u64 0, .int .u64 0, .int .u64 0, .int .u64 0, .int .u64 0, .int .u64 0, .int .u64 0, .int .u64 0, .int .u64 0, .int .u64 0, .int .u64 0, .int .u64 0, .int .u64 0, .slice none 0 0] : Array Value) gs.zipIdx 0 24 = gs) := Lib.hid (by rw [← hgs]; exact sp_fold (S0.mv A1 c1))
            have HFO2 : Hid (Array.foldl (fun (cs : Array Value) (x : Value × Nat) => cs.setIfInBounds x.snd x.fst) (#[.int .u64 0, .int .i64 0, .int .i64 0, .int .i64 0, .int .i64 0, .int .u64 0, .int .u64 0, .int .u64 0, .int .u64 0, .int .u64 0, .int .u64 0, .int .u64 0, .int .u64 0, .int .u64 0, .int .u64 0, .int .u64 0, .int .u64 0, .int .u64 0, .int .u64 0, .int .u64 0, .int .u64 0, .int .u64 0, .int .u64 0, .slice none 0 0] : Array Value) gt.zipIdx 0 24 = gt) := Lib.hid (by rw [← hgt]; exact sp_fold (T0.mv A2 c2))
            have HONE1 : Hid (∀ u ∈ gs.toList, u.oneCell' = true) := Lib.hid (by rw [← hgs]; exact (S0.mv A1 c1).one')
            have HONE2 : Hid (∀ u ∈ gt.toList, u.oneCell' = true) := Lib.hid (by rw [← hgt]; exact (T0.mv A2 c2).one')
            have HLEN1 : Hid (gs.toList.length = 24) := Lib.hid (by rw [← hgs]; rfl)
            have HLEN2 : Hid (gt.toList.length = 24) := Lib.hid (by rw [← hgt]; rfl)
            have hgs24 : gs.size = 24 := by rw [← hgs]; rfl
            have hgt24 : gt.size = 24 := by rw [← hgt]; rfl
            have HTS1 : Hid ((spL M).flatten ++ gs.toList = (spL (M ++ [S0.mv A1 c1])).flatten) := Lib.hid (by rw [spL_snoc, ← hgs])
            have HTS2 : Hid ((spL N).flatten ++ gt.toList = (spL (N ++ [T0.mv A2 c2])).flatten) := Lib.hid (by rw [spL_snoc, ← hgt])
            have hrow5 := HROW5.out
            have hrowN5 := HROWN5.out
            have hm1 := z4g.cell
            have hb5 := HBW5.out
            have hn9 := HI4.out
            have dj := HDJ.out
            have e49 : IntKind.i64.wrap ((n : Int) + 1) = ((n + 1 : Nat) : Int) := by rw [IntWalk.i64_in _ (by omega)]; omega
            clear hgs hgt z4g
            go_wp2_with (first
              | (with_reducible refine wpList_load_mid rfl 91 (.tmp 20) rfl q1 0 rfl gs.toList _ hm1 hut rfl HSL1.out ?_; simp only [Array.toArray_toList])
              | (with_reducible refine wpList_load_mid rfl 91 (.tmp 22) rfl q2 0 rfl gt.toList _ hm2 hut rfl HSL2.out ?_; simp only [Array.toArray_toList])
              | (at_builtin; rw [HFO1.out]; refine wpList_append_at _ rfl (.tmp 101) (.tmp 103) 34 rfl B0 91 i0 (.agg (#[.int .u64 0, .int .i64 0, .int .i64 0, .int .i64 0, .int .i64 0, .int .u64 0, .int .u64 0, .int .u64 0, .int .u64 0, .int .u64 0, .int .u64 0, .int .u64 0, .int .u64 0, .int .u64 0, .int .u64 0, .int .u64 0, .int .u64 0, .int .u64 0, .int .u64 0, .int .u64 0, .int .u64 0, .int .u64 0, .int .u64 0, .slice none 0 0] : Array Value)) 24 208 Tryz.underlying34 hi hz0 hz1 hz2 rfl (by decide) _ _ _ rfl (hrow5.alloc _) ⟨w5.heap.size, 0, none⟩ 1 1 gs.toList rfl (by rw [HLEN1.out]) (fun j u hj => cell_new24 w5 gs 91 j u hj) HONE1.out (by unfold maxLen; omega) (by omega) (by simp; omega) ?_; intro va w6 hva hga hoa; obtain ⟨hrb6, dab6⟩ := app_other hga hoa hrowN5 dj; have hm2 := (z5g.kp (kp_grown (kp_alloc (kp_refl (fun g => u15.ownBlock = some g) w5) _) hga (fun g e => .inl e)) (fun h => (by have h := HOA.out q2 h; have := HQ5.out; omega))).cell; have hz6 : w5.heap.size + 1 ≤ w6.heap.size := (by simpa using hga.size))
              | (at_builtin; rw [HFO2.out]; refine wpList_append_at _ rfl (.tmp 105) (.tmp 107) 34 rfl B0 91 i0 (.agg (#[.int .u64 0, .int .i64 0, .int .i64 0, .int .i64 0, .int .i64 0, .int .u64 0, .int .u64 0, .int .u64 0, .int .u64 0, .int .u64 0, .int .u64 0, .int .u64 0, .int .u64 0, .int .u64 0, .int .u64 0, .int .u64 0, .int .u64 0, .int .u64 0, .int .u64 0, .int .u64 0, .int .u64 0, .int .u64 0, .int .u64 0, .slice none 0 0] : Array Value)) 24 208 Tryz.underlying34 hi hz0 hz1 hz2 rfl (by decide) _ _ _ rfl (hrb6.alloc _) ⟨w6.heap.size, 0, none⟩ 1 1 gt.toList rfl (by rw [HLEN2.out]) (fun j u hj => cell_new24 w6 gt 91 j u hj) HONE2.out (by unfold maxLen; omega) (by omega) (by simp; omega) ?_; intro vb w7 hvb hgb hob))
            go_roundw
            case rel =>
              have K6 : Kp (fun g => B0 ≤ g) w5 w6 := kp_grown (kp_alloc (kp_refl _ w5) _) hga (fun g e => .inl (own_base hrow5 g e))
              have K7 : Kp (fun g => B0 ≤ g) w6 w7 := kp_grown (kp_alloc (kp_refl _ w6) _) hgb (fun g e => .inl (own_base hrb6 g e))
              have K := kp_trans K6 K7
              obtain ⟨hat6, hna6⟩ := app_at HPAT.out HPA.out hga hoa
              obtain ⟨hat7, hnb7⟩ := app_at hat6 HPB2.out hgb hob
              obtain ⟨hva7, dba⟩ := app_other hgb hob hva dab6.symm
              have hmem : ∀ S, S ∈ (M ++ [S0.mv A1 c1]) ++ (N ++ [T0.mv A2 c2]) → S ∈ (M ++ N) ++ [S0.mv A1 c1, T0.mv A2 c2] := fun S hS => by
                simp only [List.mem_append, List.mem_cons, List.not_mem_nil, or_false] at hS ⊢
                rcases hS with (h | h) | (h | h) <;> simp [h]
              have hqb := HQB.out
              have hszK := K.size
              refine ⟨n + 1, M ++ [S0.mv A1 c1], N ++ [T0.mv A2 c2], by omega, by go_num, by omega, by rw [HCS.out]; exact HMV.out.snoc S0 A1 c1, by rw [HCT.out]; exact HMVN.out.snoc T0 A2 c2, ?_, fun S hS => hat7 S (hmem S hS), fun S hS => hna6 S (hmem S hS), fun S hS => hnb7 S (hmem S hS), ?_, by rw [← HTS1.out]; exact hva7, by rw [← HTS2.out]; exact hvb, dba.symm, ?_, ?_, ?_, ?_, ?_⟩
              · intro S hS
                rcases List.mem_append.1 (hmem S hS) with h | h
                · exact HOKM.out S h
                · simp only [List.mem_cons, List.not_mem_nil, or_false] at h
                  rcases h with rfl | rfl
                  · exact SP.mv_ok HSO.out _ _
                  · exact SP.mv_ok HTO.out _ _
              · intro S hS ad e
                rcases List.mem_append.1 (hmem S hS) with h | h
                · exact HLW.out S h ad e
                · exact (HFRS.out S h ad e).imp id (fun h1 => Nat.le_trans HBW.out h1)
              · intro i hi hi4
                have h1 := HP.out i hi4
                exact (HKS5.out i hi hi4).kp K (by omega) (by omega)
              · exact HZK5.out.kp K (by omega)
              · intro i hi
                have h1 := cell_blk (HLD5.out i hi)
                have h2 := HLB.out
                rw [blk_add] at h1
                exact (World.cell?_of_block (by rw [blk_add]; exact K.block lad.block h1 (by omega))).trans (HLD5.out i hi)
              · exact (HRR5.out.kp K (Nat.le_refl _) (fun ad e h1 h => by have := HRB.out ad e; omega)).more K.size
              · exact below_kp HGG5.out K HGG5.out.size (fun i hi => by have := HWB.out; omega)
            case measure => have := HI4.out; simp [Go.RowKit.intOf] <;> omega

    · obtain rfl : n = 4 := by omega
      obtain ⟨B, cap, rfl, hB, hcB1, hcB2, hbB⟩ := own_spL hrow (by rw [hmv.len]; simp [cS])
      obtain ⟨C, capN, rfl, hC, hcC1, hcC2, hbC⟩ := own_spL hrowN (by rw [hmvN.len]; simp [cS])
      have hspM : Sps wr B M := ⟨hB, fun S h => hok S (List.mem_append_left _ h), fun S h => hat S (List.mem_append_left _ h)⟩
      have hspN : Sps wr C N := ⟨hC, fun S h => hok S (List.mem_append_right _ h), fun S h => hat S (List.mem_append_right _ h)⟩
      obtain ⟨A0, A1, A2, A3, c0, c1, c2, c3, hM⟩ := cS_mv hmv
      obtain ⟨F0, F1, F2, F3, d0, d1, d2, d3, hN⟩ := cS_mv hmvN
      obtain ⟨X, hX⟩ : ∃ E, [stpK seed 2 0 0 D (pf 0) A0 c0, stpK seed 2 1 0 D (pf 1) A1 c1, stpK seed 2 2 0 D (pf 2) A2 c2] = E := ⟨_, rfl⟩
      obtain ⟨Y, hY⟩ : ∃ G, [stpK seed 2 0 1 E (qf 0) F0 d0, stpK seed 2 1 1 E (qf 1) F1 d1, stpK seed 2 2 1 E (qf 2) F2 d2] = G := ⟨_, rfl⟩
      have HX := Lib.hid hX
      have HY := Lib.hid hY
      have HX3 : Hid (X.length = 3) := Lib.hid (by rw [← hX]; rfl)
      have HY3 : Hid (Y.length = 3) := Lib.hid (by rw [← hY]; rfl)
      have HM := Lib.hid hM
      have HN := Lib.hid hN
      have HTMp : Hid (∀ i, i < 4 → tmB (pf i) = true) := Lib.hid (fun i hi => decide_eq_true (by have := HPF.out i hi; omega))
      have HTMq : Hid (∀ i, i < 4 → tmB (qf i) = true) := Lib.hid (fun i hi => decide_eq_true (by have := HQF.out i hi; omega))
      have HKM : Hid (∀ y, Grew wr y → y.rangeAt qk 0 kc.toList) := Lib.hid (fun y g => (zk.grew g).cell)
      have HKP : Hid (∀ y, Grew wr y → (kpS seed RA Rc).at y) := Lib.hid (fun y g => rRr.gr g)
      have HSP : Hid (∀ y, Grew wr y → Sps y B M) := Lib.hid (fun y g => hspM.gr g)
      have HSPN : Hid (∀ y, Grew wr y → Sps y C N) := Lib.hid (fun y g => hspN.gr g)
      have HSY : Hid (∀ y, Grew wr y → Std y) := Lib.hid (fun y g => HS.out.grew (grew_trans hg g))
      have HGWR := Lib.hid hg
      have CC0 := Lib.hid (fun W => c12_ok 0 W)
      have CC1 := Lib.hid (fun W => c12_ok 1 W)
      have CM0 : Hid (∀ W, Std W → (kpS seed RA Rc).at W → Sps W B M → Calls Tryz.prog 34 #[.agg kc, .agg (cm12 0).cells, .slice B 4 cap] W fun e w' => ∃ B k M', e = .returned (.tuple #[.agg (ctC (cm12 0) B 3 k), .int .i64 0]) ∧ MvL X M' ∧ Sps w' B M' ∧ (∀ ad, B = some ad → W.heap.size ≤ ad.block) ∧ (∀ S ∈ M', ∀ ad, S.A = some ad → S.l = [] ∨ W.heap.size ≤ ad.block) ∧ Grew W w') := Lib.hid (fun W h1 h2 h3 => by
        have hen : enoughB (kpS seed RA Rc) (dgC (cm12 0)) M = true := by rw [HD.out, HM.out]; exact enoughC seed RA Rc 0 D pf (by omega) HTMp.out _ _ _ _ _ _ _ _
        have hch : chosen (kpS seed RA Rc) (dgC (cm12 0)) M = X := by rw [HD.out, HM.out, chosenC seed RA Rc 0 D pf (by omega) HTMp.out]; exact HX.out
        have := mdmake_ok (cm12 0) (kpS_ok seed RA Rc) B cap M (by rw [HM.out]; simp) (ok12 0 (by omega)) W h1 h2 h3 hen
        rw [hch, HKC.out, HX3.out, show (M).length = 4 from by rw [HM.out]; rfl] at this
        exact this)
      have CM1 : Hid (∀ W, Std W → (kpS seed RA Rc).at W → Sps W C N → Calls Tryz.prog 34 #[.agg kc, .agg (cm12 1).cells, .slice C 4 capN] W fun e w' => ∃ B k M', e = .returned (.tuple #[.agg (ctC (cm12 1) B 3 k), .int .i64 0]) ∧ MvL Y M' ∧ Sps w' B M' ∧ (∀ ad, B = some ad → W.heap.size ≤ ad.block) ∧ (∀ S ∈ M', ∀ ad, S.A = some ad → S.l = [] ∨ W.heap.size ≤ ad.block) ∧ Grew W w') := Lib.hid (fun W h1 h2 h3 => by
        have hen : enoughB (kpS seed RA Rc) (dgC (cm12 1)) N = true := by rw [HE.out, HN.out]; exact enoughC seed RA Rc 1 E qf (by omega) HTMq.out _ _ _ _ _ _ _ _
        have hch : chosen (kpS seed RA Rc) (dgC (cm12 1)) N = Y := by rw [HE.out, HN.out, chosenC seed RA Rc 1 E qf (by omega) HTMq.out]; exact HY.out
        have := mdmake_ok (cm12 1) (kpS_ok seed RA Rc) C capN N (by rw [HN.out]; simp) (ok12 1 (by omega)) W h1 h2 h3 hen
        rw [hch, HKC.out, HY3.out, show (N).length = 4 from by rw [HN.out]; rfl] at this
        exact this)
      clear hrow hrowN hmv hmvN hok hat hnea hneb hlow hdj hks zk hld rRr hspM hspN hM hN hX hY hB hC hcB1 hcB2 hbB hcC1 hcC2 hbC hg hB0 hlt hn hi hz0 hz1 hz2
      go_upto_region 21 with fail
      refine wp_region_latev 8 9 (fun ix9 => match ix9 with
          | 0 => fun v => v = .agg kc
          | 1 => fun v => v = .agg (cm12 0).cells
          | 2 => fun v => v = .slice B 4 cap
          | 3 => fun _ => True
          | 4 => fun v => ∃ A c, v = .tuple #[.agg (ctC (cm12 0) A 3 c), .int .i64 0]
          | 5 => fun _ => True
          | 6 => fun v => v = .int .i64 0
          | 7 => fun _ => True
          | 8 => fun _ => True
          | _ => fun _ => True) (fun ix9 => match ix9 with
          | 3 => fun lo hi v w => CtS w wr.heap.size X lo hi v (fun A c => .tuple #[.agg (ctC (cm12 0) A 3 c), .int .i64 0])
          | 4 => fun lo hi v w => CtS w wr.heap.size X lo hi v (fun A c => .tuple #[.agg (ctC (cm12 0) A 3 c), .int .i64 0])
          | 5 => fun lo hi v w => CtS w wr.heap.size X lo hi v (fun A c => .agg (ctC (cm12 0) A 3 c))
          | 7 => fun lo hi v w => AgZ w wr.heap.size lo hi (#[.int .i64 0, .int .i64 0, .int .i64 0, .int .i64 0, .int .i64 0, .slice none 0 0] : Array Value).toList v
          | _ => fun _ _ _ _ => True) (fun ix9 => match ix9 with
          | 4 => 3
          | 5 => 4
          | ix8 => ix8) (fun ix9 => match ix9 with
          | 4 => 3
          | 5 => 3
          | ix8 => ix8) (fun ix9 => match ix9 with
          | 6 => true
          | _ => false) 7 (fun v W => CtF wr (cm12 0) X v W) rfl (by kernel_rfl) (by kernel_rfl) (by kernel_rfl) (by kernel_rfl) rfl rfl (by decide) (fun _ => trivial) ?_ ?_ ?_ ?_ (fun o ho => by cases ho; rfl) (fun v x y h hg => CtF.gr h hg) ?_
      · refine ⟨?_, ?_, ?_, ?_, ?_, ?_, ?_, ?_, trivial⟩
        · intro vs lo hi y hg hd hvia
          replace hg : Grew wr y := hg
          clear hvia
          simp only [actOf, List.take_succ_cons, List.take_zero, List.drop_succ_cons, List.drop_zero, Act.put, List.setIfInBounds_toArray, List.set_cons_succ, List.set_cons_zero, Nat.reduceAdd]
          have hm := HKM.out y hg
          go_wp2_with (with_reducible refine wpList_load_mid rfl 50 (.tmp 14) rfl qk 0 rfl kc.toList _ hm hkt rfl HSKL.out ?_; simp only [Array.toArray_toList])
          first | exact ⟨rfl, _, rfl, grew_refl _, rfl⟩ | exact ⟨rfl, _, rfl, grew_refl _, rfl, trivial⟩
        · intro vs lo hi y hg hd hvia
          replace hg : Grew wr y := hg
          clear hvia
          simp only [actOf, List.take_succ_cons, List.take_zero, List.drop_succ_cons, List.drop_zero, Act.put, List.setIfInBounds_toArray, List.set_cons_succ, List.set_cons_zero, Nat.reduceAdd]
          go_wp2_with (go_at_call 44; refine (CC0.out y).mono ?_; rintro e z ⟨rfl, gz⟩)
          exact ⟨rfl, _, rfl, gz, rfl, trivial⟩
        · intro vs lo hi y hg hd hvia
          replace hg : Grew wr y := hg
          clear hvia
          simp only [actOf, List.take_succ_cons, List.take_zero, List.drop_succ_cons, List.drop_zero, Act.put, List.setIfInBounds_toArray, List.set_cons_succ, List.set_cons_zero, Nat.reduceAdd]
          go_wp2_with fail
          first | exact ⟨rfl, _, rfl, grew_refl _, rfl⟩ | exact ⟨rfl, _, rfl, grew_refl _, rfl, trivial⟩
        · intro vs lo hi y hg hd hvia
          replace hg : Grew wr y := hg
          obtain ⟨h0, h1, h2, _⟩ := hd
          replace h0 := h0 rfl
          replace h1 := h1 rfl
          replace h2 := h2 rfl
          clear hvia
          simp only [actOf, List.take_succ_cons, List.take_zero, List.drop_succ_cons, List.drop_zero, Act.put, List.setIfInBounds_toArray, List.set_cons_succ, List.set_cons_zero, Nat.reduceAdd]
          rw [show vs 0 = _ from h0, show vs 1 = _ from h1, show vs 2 = _ from h2]
          have hgS := HSY.out y hg
          have hks := HKP.out y hg
          have hsp := HSP.out y hg
          go_wp2_with (go_at_call 34; refine (CM0.out y hgS hks hsp).mono ?_; rintro e z ⟨B9, k9, M9, rfl, hmv9, hsp9, hf1, hf2, gz⟩)
          exact ⟨rfl, _, rfl, gz, trivial, ⟨B9, k9, M9, rfl, hmv9, hsp9, hg.size, fun ad h => ⟨hf1 ad h, by
            obtain ⟨q9, e9, hq9, -⟩ := hsp9.get 0 (by rw [hmv9.len, HX3.out]; omega)
            rw [h] at e9; cases e9; exact hq9⟩, fun S hS ad h => by
            rcases hf2 S hS ad h with h1 | h1
            · exact .inl h1
            · exact (at_lt (hsp9.at_ S hS) ad h).imp id (fun h2 => ⟨h1, h2⟩)⟩⟩
        · intro vs lo hi y hg hd hvia
          replace hg : Grew wr y := hg
          obtain ⟨h3, _⟩ := hd
          replace h3 := h3 rfl
          have hv9 : (fun lo hi v w => CtS w wr.heap.size X lo hi v (fun A c => .tuple #[.agg (ctC (cm12 0) A 3 c), .int .i64 0])) (lo 3) (hi 3) (vs 3) y := hvia rfl
          clear hvia
          simp only [actOf, List.take_succ_cons, List.take_zero, List.drop_succ_cons, List.drop_zero, Act.put, List.setIfInBounds_toArray, List.set_cons_succ, List.set_cons_zero, Nat.reduceAdd]
          obtain ⟨A9, c9, M9, e9, hr9⟩ := CtS.out hv9
          rw [e9]
          go_wp2_with fail
          exact ⟨rfl, _, rfl, grew_refl _, ⟨A9, ⟨c9, rfl⟩⟩, ⟨A9, c9, M9, rfl, hr9⟩⟩
        · intro vs lo hi y hg hd hvia
          replace hg : Grew wr y := hg
          obtain ⟨h4, _⟩ := hd
          replace h4 := h4 rfl
          have hv9 : (fun lo hi v w => CtS w wr.heap.size X lo hi v (fun A c => .tuple #[.agg (ctC (cm12 0) A 3 c), .int .i64 0])) (lo 4) (hi 4) (vs 4) y := hvia rfl
          clear hvia
          simp only [actOf, List.take_succ_cons, List.take_zero, List.drop_succ_cons, List.drop_zero, Act.put, List.setIfInBounds_toArray, List.set_cons_succ, List.set_cons_zero, Nat.reduceAdd]
          obtain ⟨A9, c9, M9, e9, hr9⟩ := CtS.out hv9
          rw [e9]
          go_wp2_with fail
          exact ⟨rfl, _, rfl, grew_refl _, ⟨A9, c9, M9, rfl, hr9⟩⟩
        · intro vs lo hi y hg hd hvia
          replace hg : Grew wr y := hg
          obtain ⟨h4, _⟩ := hd
          replace h4 := h4 rfl
          clear hvia
          simp only [actOf, List.take_succ_cons, List.take_zero, List.drop_succ_cons, List.drop_zero, Act.put, List.setIfInBounds_toArray, List.set_cons_succ, List.set_cons_zero, Nat.reduceAdd]
          obtain ⟨A9, c9, e9⟩ := h4
          rw [e9]
          go_wp2_with fail
          first | exact ⟨rfl, _, rfl, grew_refl _, rfl⟩ | exact ⟨rfl, _, rfl, grew_refl _, rfl, trivial⟩
        · intro vs lo hi y hg hd hvia
          replace hg : Grew wr y := hg
          clear hvia
          simp only [actOf, List.take_succ_cons, List.take_zero, List.drop_succ_cons, List.drop_zero, Act.put, List.setIfInBounds_toArray, List.set_cons_succ, List.set_cons_zero, Nat.reduceAdd]
          go_wp2_with fail
          exact ⟨rfl, _, rfl, grew_alloc (grew_refl _) _, ⟨y.heap.size, rfl, Ag.new y 36 (#[.int .i64 0, .int .i64 0, .int .i64 0, .int .i64 0, .int .i64 0, .slice none 0 0] : Array Value), hg.size, Nat.le_refl _, by show y.heap.size < (y.alloc _).heap.size; simp⟩⟩
      · refine ⟨(fun h => absurd h (by decide)), (fun h => absurd h (by decide)), (fun h => absurd h (by decide)), (fun h => absurd h (by decide)), (fun h => absurd h (by decide)), (fun h => absurd h (by decide)), ?_, (fun h => absurd h (by decide)), (fun h => absurd h (by decide)), trivial⟩
        · intro _ vs y hd
          obtain ⟨h4, _⟩ := hd
          replace h4 := h4 rfl
          simp only [actOf, List.take_succ_cons, List.take_zero, List.drop_succ_cons, List.drop_zero, Act.put, List.setIfInBounds_toArray, List.set_cons_succ, List.set_cons_zero, Nat.reduceAdd]
          obtain ⟨A9, c9, e9⟩ := h4
          rw [e9]
          go_wp2_with fail
          first | exact ⟨rfl, _, rfl, grew_refl _, rfl⟩ | exact ⟨rfl, _, rfl, grew_refl _, rfl, trivial⟩
      · intro i lo hi v x y h hg
        match i, h with
        | 3, h => exact CtS.gr h hg
        | 4, h => exact CtS.gr h hg
        | 5, h => exact CtS.gr h hg
        | 7, h => exact AgZ.gr h hg
        | 0, _ => trivial
        | 1, _ => trivial
        | 2, _ => trivial
        | 6, _ => trivial
        | m + 8, _ => trivial
      · intro vs lo hi y hg hJ hK hB hD
        replace hg : Grew wr y := hg
        have k113 := hK 3 (by decide) rfl
        have b113 := hB 3 (by decide) rfl
        have k109 := hK 4 (by decide) rfl
        have b109 := hB 4 (by decide) rfl
        have k114 := hK 5 (by decide) rfl
        have b114 := hB 5 (by decide) rfl
        have k24 := hK 7 (by decide) rfl
        have b24 := hB 7 (by decide) rfl
        have d113_24 := hD 3 (by decide) rfl 7 (by decide) rfl (by decide)
        have d109_24 := hD 4 (by decide) rfl 7 (by decide) rfl (by decide)
        have d114_24 := hD 5 (by decide) rfl 7 (by decide) rfl (by decide)
        clear hK hB hD
        have j0 : vs 0 = .agg kc := hJ 0 (by decide) rfl
        have j1 : vs 1 = .agg (cm12 0).cells := hJ 1 (by decide) rfl
        have j2 : vs 2 = .slice B 4 cap := hJ 2 (by decide) rfl
        clear hJ
        simp only [actOf, List.take_succ_cons, List.take_zero, List.drop_succ_cons, List.drop_zero, Act.put, List.setIfInBounds_toArray, List.set_cons_succ, List.set_cons_zero, Nat.reduceAdd]
        obtain ⟨A7, k7c, M7, e56, hmv7, hsp7, hb7, hr7, hs7⟩ := CtS.out k114
        obtain ⟨q, e7, zq, hBq, hql, hqh⟩ := AgZ.out k24
        rw [e56, e7]
        have HTH : Hid (y.there q 0 (ctC (cm12 0) A7 3 k7c).size) := Lib.hid (zq.thereN 6 rfl)
        have HSI : Hid ((Tryz.prog.info? 36).map (·.size) = some (ctC (cm12 0) A7 3 k7c).size) := Lib.hid ct_info
        have HON := Lib.hid (ctC_one (cm12 0) A7 3 k7c)
        have z4 := Ag.set (vs := (ctC (cm12 0) A7 3 k7c).toList) zq rfl
        have k4 := setCells_kp (ctC (cm12 0) A7 3 k7c).toList q 0 y
        have hsp8 := hsp7.kpx k4 (fun ad h e => by have := hr7 ad h; rcases d114_24 with h2 | h2 <;> omega) (fun S hS ad h => (hs7 S hS ad h).imp id (fun h1 e => by rcases d114_24 with h2 | h2 <;> omega))
        have HF : Hid (CtF wr (cm12 0) X (.pointer (some ⟨q, 0, none⟩)) (y.setCells q 0 (ctC (cm12 0) A7 3 k7c).toList)) := Lib.hid ⟨A7, k7c, M7, q, rfl, by rw [HX3.out]; exact z4, hmv7, hsp8, by omega, fun ad h => by have := hr7 ad h; omega, fun S hS ad h => (hs7 S hS ad h).imp id (fun h1 => by omega), setCells_grew (o := 0) (b := q) _ hg (by omega)⟩
        clear hg z4 k4 zq hsp7 hsp8 hmv7
        generalize ctC (cm12 0) A7 3 k7c = gs' at *
        go_wp2_with (with_reducible refine wpList_store_mid rfl 36 (.tmp 24) (.tmp 114) rfl q 0 gs' rfl rfl HTH.out HSI.out HON.out ?_)
        exact HF.out
      · intro vs w5 hF hJ
        have j0 : vs 0 = .agg kc := hJ 0 (by decide)
        have j1 : vs 1 = .agg (cm12 0).cells := hJ 1 (by decide)
        have j2 : vs 2 = .slice B 4 cap := hJ 2 (by decide)
        have j6 : vs 6 = .int .i64 0 := hJ 6 (by decide)
        clear hJ
        simp only [actOf, List.take_succ_cons, List.take_zero, List.drop_succ_cons, List.drop_zero, Act.put, List.setIfInBounds_toArray, List.set_cons_succ, List.set_cons_zero, Nat.reduceAdd]
        obtain ⟨A7, k7, M7, q7, e7, z7, hmv7, hsp7, hq7, hlo7, hls7, g5⟩ := CtF.out hF
        rw [e7, show vs 6 = _ from j6]
        have HGW5 := Lib.hid g5
        have HZ7 := Lib.hid z7
        have HMV7 := Lib.hid hmv7
        have HSP7 := Lib.hid hsp7
        clear hF e7 z7 hmv7 hsp7 hq7 hlo7 hls7 g5 j0 j1 j2 j6
        go_upto_region 22 with fail
        refine wp_region_latev 8 9 (fun ix9 => match ix9 with
            | 0 => fun v => v = .agg kc
            | 1 => fun v => v = .agg (cm12 1).cells
            | 2 => fun v => v = .slice C 4 capN
            | 3 => fun _ => True
            | 4 => fun v => ∃ A c, v = .tuple #[.agg (ctC (cm12 1) A 3 c), .int .i64 0]
            | 5 => fun _ => True
            | 6 => fun v => v = .int .i64 0
            | 7 => fun _ => True
            | 8 => fun _ => True
            | _ => fun _ => True) (fun ix9 => match ix9 with
            | 3 => fun lo hi v w => CtS w w5.heap.size Y lo hi v (fun A c => .tuple #[.agg (ctC (cm12 1) A 3 c), .int .i64 0])
            | 4 => fun lo hi v w => CtS w w5.heap.size Y lo hi v (fun A c => .tuple #[.agg (ctC (cm12 1) A 3 c), .int .i64 0])
            | 5 => fun lo hi v w => CtS w w5.heap.size Y lo hi v (fun A c => .agg (ctC (cm12 1) A 3 c))
            | 7 => fun lo hi v w => AgZ w w5.heap.size lo hi (#[.int .i64 0, .int .i64 0, .int .i64 0, .int .i64 0, .int .i64 0, .slice none 0 0] : Array Value).toList v
            | _ => fun _ _ _ _ => True) (fun ix9 => match ix9 with
            | 4 => 3
            | 5 => 4
            | ix8 => ix8) (fun ix9 => match ix9 with
            | 4 => 3
            | 5 => 3
            | ix8 => ix8) (fun ix9 => match ix9 with
            | 6 => true
            | _ => false) 7 (fun v W => CtF w5 (cm12 1) Y v W) rfl (by kernel_rfl) (by kernel_rfl) (by kernel_rfl) (by kernel_rfl) rfl rfl (by decide) (fun _ => trivial) ?_ ?_ ?_ ?_ (fun o ho => by cases ho; rfl) (fun v x y h hg => CtF.gr h hg) ?_
        · refine ⟨?_, ?_, ?_, ?_, ?_, ?_, ?_, ?_, trivial⟩
          · intro vs lo hi y hg hd hvia
            replace hg : Grew w5 y := hg
            clear hvia
            simp only [actOf, List.take_succ_cons, List.take_zero, List.drop_succ_cons, List.drop_zero, Act.put, List.setIfInBounds_toArray, List.set_cons_succ, List.set_cons_zero, Nat.reduceAdd]
            have hg0 := hg
            replace hg := grew_trans HGW5.out hg0
            have hm := HKM.out y hg
            go_wp2_with (with_reducible refine wpList_load_mid rfl 50 (.tmp 14) rfl qk 0 rfl kc.toList _ hm hkt rfl HSKL.out ?_; simp only [Array.toArray_toList])
            first | exact ⟨rfl, _, rfl, grew_refl _, rfl⟩ | exact ⟨rfl, _, rfl, grew_refl _, rfl, trivial⟩
          · intro vs lo hi y hg hd hvia
            replace hg : Grew w5 y := hg
            clear hvia
            simp only [actOf, List.take_succ_cons, List.take_zero, List.drop_succ_cons, List.drop_zero, Act.put, List.setIfInBounds_toArray, List.set_cons_succ, List.set_cons_zero, Nat.reduceAdd]
            go_wp2_with (go_at_call 44; refine (CC1.out y).mono ?_; rintro e z ⟨rfl, gz⟩)
            exact ⟨rfl, _, rfl, gz, rfl, trivial⟩
          · intro vs lo hi y hg hd hvia
            replace hg : Grew w5 y := hg
            clear hvia
            simp only [actOf, List.take_succ_cons, List.take_zero, List.drop_succ_cons, List.drop_zero, Act.put, List.setIfInBounds_toArray, List.set_cons_succ, List.set_cons_zero, Nat.reduceAdd]
            go_wp2_with fail
            first | exact ⟨rfl, _, rfl, grew_refl _, rfl⟩ | exact ⟨rfl, _, rfl, grew_refl _, rfl, trivial⟩
          · intro vs lo hi y hg hd hvia
            replace hg : Grew w5 y := hg
            obtain ⟨h0, h1, h2, _⟩ := hd
            replace h0 := h0 rfl
            replace h1 := h1 rfl
            replace h2 := h2 rfl
            clear hvia
            simp only [actOf, List.take_succ_cons, List.take_zero, List.drop_succ_cons, List.drop_zero, Act.put, List.setIfInBounds_toArray, List.set_cons_succ, List.set_cons_zero, Nat.reduceAdd]
            rw [show vs 0 = _ from h0, show vs 1 = _ from h1, show vs 2 = _ from h2]
            have hg0 := hg
            replace hg := grew_trans HGW5.out hg0
            have hgS := HSY.out y hg
            have hks := HKP.out y hg
            have hsp := HSPN.out y hg
            go_wp2_with (go_at_call 34; refine (CM1.out y hgS hks hsp).mono ?_; rintro e z ⟨B9, k9, M9, rfl, hmv9, hsp9, hf1, hf2, gz⟩)
            exact ⟨rfl, _, rfl, gz, trivial, ⟨B9, k9, M9, rfl, hmv9, hsp9, hg0.size, fun ad h => ⟨hf1 ad h, by
              obtain ⟨q9, e9, hq9, -⟩ := hsp9.get 0 (by rw [hmv9.len, HY3.out]; omega)
              rw [h] at e9; cases e9; exact hq9⟩, fun S hS ad h => by
              rcases hf2 S hS ad h with h1 | h1
              · exact .inl h1
              · exact (at_lt (hsp9.at_ S hS) ad h).imp id (fun h2 => ⟨h1, h2⟩)⟩⟩
          · intro vs lo hi y hg hd hvia
            replace hg : Grew w5 y := hg
            obtain ⟨h3, _⟩ := hd
            replace h3 := h3 rfl
            have hv9 : (fun lo hi v w => CtS w w5.heap.size Y lo hi v (fun A c => .tuple #[.agg (ctC (cm12 1) A 3 c), .int .i64 0])) (lo 3) (hi 3) (vs 3) y := hvia rfl
            clear hvia
            simp only [actOf, List.take_succ_cons, List.take_zero, List.drop_succ_cons, List.drop_zero, Act.put, List.setIfInBounds_toArray, List.set_cons_succ, List.set_cons_zero, Nat.reduceAdd]
            obtain ⟨A9, c9, M9, e9, hr9⟩ := CtS.out hv9
            rw [e9]
            go_wp2_with fail
            exact ⟨rfl, _, rfl, grew_refl _, ⟨A9, ⟨c9, rfl⟩⟩, ⟨A9, c9, M9, rfl, hr9⟩⟩
          · intro vs lo hi y hg hd hvia
            replace hg : Grew w5 y := hg
            obtain ⟨h4, _⟩ := hd
            replace h4 := h4 rfl
            have hv9 : (fun lo hi v w => CtS w w5.heap.size Y lo hi v (fun A c => .tuple #[.agg (ctC (cm12 1) A 3 c), .int .i64 0])) (lo 4) (hi 4) (vs 4) y := hvia rfl
            clear hvia
            simp only [actOf, List.take_succ_cons, List.take_zero, List.drop_succ_cons, List.drop_zero, Act.put, List.setIfInBounds_toArray, List.set_cons_succ, List.set_cons_zero, Nat.reduceAdd]
            obtain ⟨A9, c9, M9, e9, hr9⟩ := CtS.out hv9
            rw [e9]
            go_wp2_with fail
            exact ⟨rfl, _, rfl, grew_refl _, ⟨A9, c9, M9, rfl, hr9⟩⟩
          · intro vs lo hi y hg hd hvia
            replace hg : Grew w5 y := hg
            obtain ⟨h4, _⟩ := hd
            replace h4 := h4 rfl
            clear hvia
            simp only [actOf, List.take_succ_cons, List.take_zero, List.drop_succ_cons, List.drop_zero, Act.put, List.setIfInBounds_toArray, List.set_cons_succ, List.set_cons_zero, Nat.reduceAdd]
            obtain ⟨A9, c9, e9⟩ := h4
            rw [e9]
            go_wp2_with fail
            first | exact ⟨rfl, _, rfl, grew_refl _, rfl⟩ | exact ⟨rfl, _, rfl, grew_refl _, rfl, trivial⟩
          · intro vs lo hi y hg hd hvia
            replace hg : Grew w5 y := hg
            clear hvia
            simp only [actOf, List.take_succ_cons, List.take_zero, List.drop_succ_cons, List.drop_zero, Act.put, List.setIfInBounds_toArray, List.set_cons_succ, List.set_cons_zero, Nat.reduceAdd]
            go_wp2_with fail
            exact ⟨rfl, _, rfl, grew_alloc (grew_refl _) _, ⟨y.heap.size, rfl, Ag.new y 36 (#[.int .i64 0, .int .i64 0, .int .i64 0, .int .i64 0, .int .i64 0, .slice none 0 0] : Array Value), hg.size, Nat.le_refl _, by show y.heap.size < (y.alloc _).heap.size; simp⟩⟩
        · refine ⟨(fun h => absurd h (by decide)), (fun h => absurd h (by decide)), (fun h => absurd h (by decide)), (fun h => absurd h (by decide)), (fun h => absurd h (by decide)), (fun h => absurd h (by decide)), ?_, (fun h => absurd h (by decide)), (fun h => absurd h (by decide)), trivial⟩
          · intro _ vs y hd
            obtain ⟨h4, _⟩ := hd
            replace h4 := h4 rfl
            simp only [actOf, List.take_succ_cons, List.take_zero, List.drop_succ_cons, List.drop_zero, Act.put, List.setIfInBounds_toArray, List.set_cons_succ, List.set_cons_zero, Nat.reduceAdd]
            obtain ⟨A9, c9, e9⟩ := h4
            rw [e9]
            go_wp2_with fail
            first | exact ⟨rfl, _, rfl, grew_refl _, rfl⟩ | exact ⟨rfl, _, rfl, grew_refl _, rfl, trivial⟩
        · intro i lo hi v x y h hg
          match i, h with
          | 3, h => exact CtS.gr h hg
          | 4, h => exact CtS.gr h hg
          | 5, h => exact CtS.gr h hg
          | 7, h => exact AgZ.gr h hg
          | 0, _ => trivial
          | 1, _ => trivial
          | 2, _ => trivial
          | 6, _ => trivial
          | m + 8, _ => trivial
        · intro vs lo hi y hg hJ hK hB hD
          replace hg : Grew w5 y := hg
          have k120 := hK 3 (by decide) rfl
          have b120 := hB 3 (by decide) rfl
          have k116 := hK 4 (by decide) rfl
          have b116 := hB 4 (by decide) rfl
          have k121 := hK 5 (by decide) rfl
          have b121 := hB 5 (by decide) rfl
          have k26 := hK 7 (by decide) rfl
          have b26 := hB 7 (by decide) rfl
          have d120_26 := hD 3 (by decide) rfl 7 (by decide) rfl (by decide)
          have d116_26 := hD 4 (by decide) rfl 7 (by decide) rfl (by decide)
          have d121_26 := hD 5 (by decide) rfl 7 (by decide) rfl (by decide)
          clear hK hB hD
          have j0 : vs 0 = .agg kc := hJ 0 (by decide) rfl
          have j1 : vs 1 = .agg (cm12 1).cells := hJ 1 (by decide) rfl
          have j2 : vs 2 = .slice C 4 capN := hJ 2 (by decide) rfl
          clear hJ
          simp only [actOf, List.take_succ_cons, List.take_zero, List.drop_succ_cons, List.drop_zero, Act.put, List.setIfInBounds_toArray, List.set_cons_succ, List.set_cons_zero, Nat.reduceAdd]
          obtain ⟨A7, k7c, M7, e56, hmv7, hsp7, hb7, hr7, hs7⟩ := CtS.out k121
          obtain ⟨q, e7, zq, hBq, hql, hqh⟩ := AgZ.out k26
          rw [e56, e7]
          have HTH : Hid (y.there q 0 (ctC (cm12 1) A7 3 k7c).size) := Lib.hid (zq.thereN 6 rfl)
          have HSI : Hid ((Tryz.prog.info? 36).map (·.size) = some (ctC (cm12 1) A7 3 k7c).size) := Lib.hid ct_info
          have HON := Lib.hid (ctC_one (cm12 1) A7 3 k7c)
          have z4 := Ag.set (vs := (ctC (cm12 1) A7 3 k7c).toList) zq rfl
          have k4 := setCells_kp (ctC (cm12 1) A7 3 k7c).toList q 0 y
          have hsp8 := hsp7.kpx k4 (fun ad h e => by have := hr7 ad h; rcases d121_26 with h2 | h2 <;> omega) (fun S hS ad h => (hs7 S hS ad h).imp id (fun h1 e => by rcases d121_26 with h2 | h2 <;> omega))
          have HF : Hid (CtF w5 (cm12 1) Y (.pointer (some ⟨q, 0, none⟩)) (y.setCells q 0 (ctC (cm12 1) A7 3 k7c).toList)) := Lib.hid ⟨A7, k7c, M7, q, rfl, by rw [HY3.out]; exact z4, hmv7, hsp8, by omega, fun ad h => by have := hr7 ad h; omega, fun S hS ad h => (hs7 S hS ad h).imp id (fun h1 => by omega), setCells_grew (o := 0) (b := q) _ hg (by omega)⟩
          clear hg z4 k4 zq hsp7 hsp8 hmv7
          generalize ctC (cm12 1) A7 3 k7c = gs' at *
          go_wp2_with (with_reducible refine wpList_store_mid rfl 36 (.tmp 26) (.tmp 121) rfl q 0 gs' rfl rfl HTH.out HSI.out HON.out ?_)
          exact HF.out
        · intro vs w6 hF hJ
          have j0 : vs 0 = .agg kc := hJ 0 (by decide)
          have j1 : vs 1 = .agg (cm12 1).cells := hJ 1 (by decide)
          have j2 : vs 2 = .slice C 4 capN := hJ 2 (by decide)
          have j6 : vs 6 = .int .i64 0 := hJ 6 (by decide)
          clear hJ
          simp only [actOf, List.take_succ_cons, List.take_zero, List.drop_succ_cons, List.drop_zero, Act.put, List.setIfInBounds_toArray, List.set_cons_succ, List.set_cons_zero, Nat.reduceAdd]
          obtain ⟨A8, k8, M8, q8, e8, z8, hmv8, hsp8, hq8, hlo8, hls8, g6⟩ := CtF.out hF
          rw [e8, show vs 6 = _ from j6]
          have GX := grew_trans HGW5.out g6
          obtain ⟨cc, hcc⟩ : ∃ c, ctC (cm12 0) A7 3 k7 = c := ⟨_, rfl⟩
          obtain ⟨cd, hcd⟩ : ∃ c, ctC (cm12 1) A8 3 k8 = c := ⟨_, rfl⟩
          have hz7 := HZ7.out.grew g6
          rw [HX3.out, hcc] at hz7
          rw [HY3.out, hcd] at z8
          have Y7 : Hid (∀ y : Gr w6, y.val.rangeAt q7 0 cc.toList) := Lib.hid (fun y => (hz7.grew y.ok).cell)
          have Y8 : Hid (∀ y : Gr w6, y.val.rangeAt q8 0 cd.toList) := Lib.hid (fun y => (z8.grew y.ok).cell)
          have YK : Hid (∀ y : Gr w6, y.val.rangeAt qk 0 kc.toList) := Lib.hid (fun y => HKM.out y.val (grew_trans GX y.ok))
          have h73 : M7.length = 3 := by rw [HMV7.out.len, HX3.out]
          have h83 : M8.length = 3 := by rw [hmv8.len, HY3.out]
          obtain ⟨a0, a1, a2, b0, b1, b2, hM7⟩ := c3_mv (HX.out ▸ HMV7.out)
          obtain ⟨f0, f1, f2, g0, g1, g2, hM8⟩ := c3_mv (HY.out ▸ hmv8)
          have HS7 : Hid (∀ y : Gr w6, Sps y.val A7 M7) := Lib.hid (fun y => HSP7.out.gr (grew_trans g6 y.ok))
          have HS8 : Hid (∀ y : Gr w6, Sps y.val A8 M8) := Lib.hid (fun y => hsp8.gr y.ok)
          obtain ⟨mc, hmc⟩ : ∃ x, midZ [pf 0, pf 1, pf 2] 1 = x := ⟨_, rfl⟩
          obtain ⟨md, hmd⟩ : ∃ x, midZ [qf 0, qf 1, qf 2] 1 = x := ⟨_, rfl⟩
          have hlt9 := HORD.out
          rw [hmc, hmd] at hlt9
          have XAC : Hid (∀ y : Gr w6, Calls Tryz.prog 26 #[.agg cc] y.val fun e w' => e = .returned (.int .i64 mc) ∧ Grew y.val w') := Lib.hid (fun y => by
            have := mdat_ok (cm12 0) A7 k7 M7 (by omega) y.val (HS7.out y)
            rw [h73, hcc, show atV M7 = mc from by rw [hM7, atC]; exact hmc] at this
            exact this)
          have XAD : Hid (∀ y : Gr w6, Calls Tryz.prog 26 #[.agg cd] y.val fun e w' => e = .returned (.int .i64 md) ∧ Grew y.val w') := Lib.hid (fun y => by
            have := mdat_ok (cm12 1) A8 k8 M8 (by omega) y.val (HS8.out y)
            rw [h83, hcd, show atV M8 = md from by rw [hM8, atC]; exact hmd] at this
            exact this)
          have XVC : Hid (∀ y : Gr w6, Calls Tryz.prog 23 #[.agg kc, .agg cc] y.val fun e w' => e = .returned (.int .i64 0) ∧ Grew y.val w') := Lib.hid (fun y => by
            have := mdvalid_ok (cm12 0) (kpS_ok seed RA Rc) A7 k7 M7 (by omega) y.val (HSY.out _ (grew_trans GX y.ok)) (HKP.out _ (grew_trans GX y.ok)) (HS7.out y)
            rw [h73, hcc, HKC.out, show mvE (kpS seed RA Rc) (cm12 0) M7 = 0 from by rw [hM7]; exact mvC seed RA Rc 0 D pf (by omega) HTMp.out _ _ _ _ _ _ 0 (by omega) HD.out] at this
            exact this)
          have XVD : Hid (∀ y : Gr w6, Calls Tryz.prog 23 #[.agg kc, .agg cd] y.val fun e w' => e = .returned (.int .i64 0) ∧ Grew y.val w') := Lib.hid (fun y => by
            have := mdvalid_ok (cm12 1) (kpS_ok seed RA Rc) A8 k8 M8 (by omega) y.val (HSY.out _ (grew_trans GX y.ok)) (HKP.out _ (grew_trans GX y.ok)) (HS8.out y)
            rw [h83, hcd, HKC.out, show mvE (kpS seed RA Rc) (cm12 1) M8 = 0 from by rw [hM8]; exact mvC seed RA Rc 1 E qf (by omega) HTMq.out _ _ _ _ _ _ 1 (by omega) HE.out] at this
            exact this)
          have HSC : Hid ((Tryz.prog.info? 36).map (·.size) = some cc.toList.length) := Lib.hid (by rw [← hcc]; exact ct_info)
          have HSD : Hid ((Tryz.prog.info? 36).map (·.size) = some cd.toList.length) := Lib.hid (by rw [← hcd]; exact ct_info)
          have e132 : decide (mc < md) = true := decide_eq_true hlt9
          have G9 := grew_trans HGWR.out GX
          clear hF e8 z8 hz7 hmv8 hsp8 hq8 hlo8 hls8 g6 GX hcc hcd h73 h83 hM7 hM8 hmc hmd hlt9 j0 j1 j2 j6 HZ7 HMV7 HSP7 HORD
          go_upto_region 23 with fail
          refine wp_region_grew (grew_refl w6) (by kernel_rfl) (by kernel_rfl) ?_
          repeat (first
            | (go_big_quiet_want; refine quiet_load_mid 36 (.tmp 24) rfl q7 0 rfl cc.toList _ Y7.out hct rfl HSC.out ?_; simp only [Act.put, List.setIfInBounds_toArray, List.set_cons_succ, List.set_cons_zero, Array.toArray_toList]; go_big_quiet_on)
            | (go_big_quiet_want; refine quiet_load_mid 36 (.tmp 26) rfl q8 0 rfl cd.toList _ Y8.out hct rfl HSD.out ?_; simp only [Act.put, List.setIfInBounds_toArray, List.set_cons_succ, List.set_cons_zero, Array.toArray_toList]; go_big_quiet_on)
            | (go_big_quiet_want; refine quiet_load_mid 50 (.tmp 14) rfl qk 0 rfl kc.toList _ YK.out hkt rfl HSKL.out ?_; simp only [Act.put, List.setIfInBounds_toArray, List.set_cons_succ, List.set_cons_zero, Array.toArray_toList]; go_big_quiet_on)
            | (go_big_quiet_step (first
              | (go_at_call_of 26 (Value.agg cd); exact callG (XAD.out _))
              | (go_at_call 26; exact callG (XAC.out _))
              | (go_at_call_of 23 (Value.agg cd); exact callG (XVD.out _))
              | (go_at_call 23; exact callG (XVC.out _)))))
          refine wpQuiet_nil ?_
          rintro wG ⟨⟨wG', gG⟩, rfl⟩
          go_wp2_with fail
          go_ret
          exact ⟨rfl, grew_trans G9 gG⟩
end Go.Proofs.YtpppegnojmnicaaGreatDoor
