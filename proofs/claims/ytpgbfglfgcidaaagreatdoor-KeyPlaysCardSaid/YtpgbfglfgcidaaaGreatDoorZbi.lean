/- KeyHolds. -/
import Derived.Test.YtpgbfglfgcidaaaGreatDoorZbh
import Derived.Test.YtpgbfglfgcidaaaGreatDoorZat
import Derived.Test.YtpgbfglfgcidaaaGreatDoorZaj
namespace Go.Proofs.YtpgbfglfgcidaaaGreatDoor
set_option linter.unusedSimpArgs false
set_option linter.unusedVariables false
open Go.RowKit
set_option linter.unusedVariables false
set_option linter.unusedSimpArgs false
theorem Ag.set1 {w : World} {b : Nat} {cs : List Value} (h : Ag w b cs) (j : Nat) (v : Value) (hj : j < cs.length) : Ag (w.setCell ⟨b, j, none⟩ v) b (cs.set j v) := by
  have ht : w.there b j [v].length := fun i hi => by
    have : i = 0 := by simpa using hi
    subst this
    simpa using h.there j hj
  have hs := World.rangeAt_setCells_same w b j [v] ht
  have e : w.setCells b j [v] = w.setCell ⟨b, j, none⟩ v := rfl
  refine ⟨fun i x hx => ?_, fun i hi => ⟨?_, ?_⟩, Nat.lt_of_lt_of_le h.lt (by rw [← e]; exact (setCells_kp [v] b j w).size)⟩
  · by_cases hij : i = j
    · subst hij
      rw [List.getElem?_set_self hj] at hx
      cases hx
      rw [← e]
      simpa using hs 0 v rfl
    · rw [List.getElem?_set_ne (Ne.symm hij)] at hx
      rw [show (w.setCell ⟨b, j, none⟩ v).cell? ⟨b, 0 + i, none⟩ = w.cell? ⟨b, 0 + i, none⟩ from World.cell?_setCell_other w _ _ v (fun e => by injection e; omega)]
      exact h.cell i x hx
  · rw [← e]
    exact World.isSome_setCells b [v] j w _ (h.there i (by simpa using hi)).1
  · rw [← e, World.frozen?_setCells]
    exact (h.there i (by simpa using hi)).2
theorem sgC_leaf (who leaf leaf' : Int) (s : Nat → Nat) (pv : Value) : (sgC who leaf s pv).toList.set 1 (.int .i64 leaf') = (sgC who leaf' s pv).toList := rfl
theorem ver_pow (sd : Int) (h : Nat) (hh : h ≤ 8) (m : Nat) (d : Int) (hd : 0 ≤ d) (hm : m < 2 ^ h) : vrS (rootN (pubsL sd (2 ^ h))) (m : Int) (signF (secN sd (m : Int)) d.toNat) (pathN (pubsL sd (2 ^ h)) m) d (h : Int) = true := by
  have hl : (pubsL sd (2 ^ h)).length = 2 ^ h := pubsL_length sd _
  obtain ⟨h1, h2⟩ := path_pow h hh (pubsL sd (2 ^ h)) m hl (by rw [hl]; omega)
  have h3 : (pubsL sd (2 ^ h)).getD m 0 = pubN (secN sd (m : Int)) := by simp [pubsL, List.getD, hm]
  rw [h3] at h2
  have hp : ((2 ^ h : Nat) : Int) = (2 : Int) ^ h := by simp
  unfold vrS
  rw [rec_sign, verN_yes (by rw [h1]; exact ⟨hh, by omega, by rw [← hp]; omega⟩), Int.toNat_natCast, h2, h1]
  simp
theorem path_len (sd : Int) (h : Nat) (hh : h ≤ 8) (m : Nat) (hm : m < 2 ^ h) : (pathN (pubsL sd (2 ^ h)) m).length = h := by
  have hl : (pubsL sd (2 ^ h)).length = 2 ^ h := pubsL_length sd _
  exact (path_pow h hh (pubsL sd (2 ^ h)) m hl (by rw [hl]; omega)).1
set_option maxRecDepth 100000 in
set_option maxHeartbeats 4000000 in
theorem keyHolds_law (seed : Int) (hsd : U64 seed) (y : Int) (hy : 0 ≤ y ∧ y ≤ 255) (A : Option Addr) (c : Nat) (l : List Int) (hz : ∀ z ∈ l, U64 z) (w : World) (hS : Std w) (hr : Rd w w.heap.size A (l.map (Value.int .u64))) (hlm : l.length ≤ 9223372036854775807) :
    Calls Tryz.prog 4 #[.int .u64 seed, .int .u8 y, .slice A l.length c] w fun e w' => e = .returned (.bool true) ∧ Grew w w' := by
  have CK := Lib.hid (kknown_ok w hS)
  clear hS
  by_cases hbig : 40 < l.length
  · have hbi : (40 : Int) < (l.length : Int) := by omega
    go_enter Tryz.func4, Tryz.ntmps4
    go_wp2_with (go_at_call 9; refine (CK.out).mono ?_; rintro e w1 ⟨rfl, hg1⟩)
    go_ret
    exact ⟨rfl, hg1⟩
  · have hbi : ¬ (40 : Int) < (l.length : Int) := by omega
    have HR := Lib.hid hr
    have HU := Lib.hid hz
    have hl40 : l.length ≤ 40 := by omega
    have hus := Tryz.underlying39
    have HZI : Hid ((Tryz.prog.info? 39).map (·.size) = some (#[.int .i64 0, .int .i64 0, .int .u64 0, .int .u64 0, .int .u64 0, .int .u64 0, .int .u64 0, .int .u64 0, .int .u64 0, .int .u64 0, .int .u64 0, .int .u64 0, .int .u64 0, .int .u64 0, .int .u64 0, .int .u64 0, .int .u64 0, .int .u64 0, .int .u64 0, .int .u64 0, .slice none 0 0] : Array Value).size) := Lib.hid sg_info
    have HZO : Hid ((#[.int .i64 0, .int .i64 0, .int .u64 0, .int .u64 0, .int .u64 0, .int .u64 0, .int .u64 0, .int .u64 0, .int .u64 0, .int .u64 0, .int .u64 0, .int .u64 0, .int .u64 0, .int .u64 0, .int .u64 0, .int .u64 0, .int .u64 0, .int .u64 0, .int .u64 0, .int .u64 0, .slice none 0 0] : Array Value).all (·.oneCell') = true) := Lib.hid (by simp [Value.oneCell'])
    obtain ⟨h, hh, hh6⟩ : ∃ h : Nat, y % 6 = (h : Int) ∧ h < 6 := ⟨(y % 6).toNat, by omega, by omega⟩
    have CN := Lib.hid (fun W => knew_ok 1 seed h (by decide) (by omega) hsd W)
    have hn1 : 1 ≤ 2 ^ h := Nat.one_le_two_pow
    have hn : 2 ^ h ≤ 256 := by
      have : 2 ^ h ≤ 2 ^ 8 := Nat.pow_le_pow_right (by decide) (by omega)
      simpa using this
    have hlv0 : leavesOk (2 ^ h) = true := leaves_pow ⟨h, by omega⟩
    obtain ⟨P, hP⟩ : ∃ P, P = pubsL seed (2 ^ h) := ⟨_, rfl⟩
    rw [← hP] at CN
    have HV : Hid (∀ m : Nat, m < 2 ^ h → ∀ d : Int, 0 ≤ d → vrS (rootN P) (m : Int) (signF (secN seed (m : Int)) d.toNat) (pathN P m) d (h : Int) = true) := Lib.hid (by rw [hP]; exact fun m hm d hd => ver_pow seed h (by omega) m d hd hm)
    have H4 : Hid (∀ m : Nat, m < 2 ^ h → (pathN P m).length = h) := Lib.hid (by rw [hP]; exact fun m hm => path_len seed h (by omega) m hm)
    have hl2 : P.length = 2 ^ h := by rw [hP]; exact pubsL_length _ _
    have hlv : leavesOk P.length = true := by rw [hl2]; exact hlv0
    have hlt : ∀ x ∈ P, x < 18446744073709551616 := by rw [hP]; exact pubsL_lt seed _
    have HLV := Lib.hid hlv
    have HLT := Lib.hid hlt
    have HSD := Lib.hid hsd
    have e2 : wrap64 ((2 : Int) ^ h) = ((2 ^ h : Nat) : Int) := by
      have : ((2 : Int) ^ h) = ((2 ^ h : Nat) : Int) := by simp
      rw [this]
      generalize 2 ^ h = n at *
      unfold wrap64; omega
    have h0 : (0 : Int) ≤ (h : Int) := by omega
    have h5 : (h : Int) ≤ 5 := by omega
    clear hP hlv hlv0 hlt hsd hr hbig hlm hz
    generalize 2 ^ h = n at *
    go_enter Tryz.func4, Tryz.ntmps4
    go_wp2_with fail
    refine CK.out.mono ?_
    rintro e w1 ⟨rfl, G1⟩
    clear CK
    go_wp2_with fail
    refine (CN.out w1).mono ?_
    rintro e w2 ⟨rfl, gg, K2⟩
    have G2 := grew_trans G1 gg
    have hw1 := G1.size
    obtain ⟨b, hb⟩ : ∃ b, w1.heap.size + 1 = b := ⟨_, rfl⟩
    obtain ⟨p, hp⟩ : ∃ p, w1.heap.size = p := ⟨_, rfl⟩
    rw [hb] at K2 ⊢
    rw [hp] at K2
    have hwb : w.heap.size ≤ b := by omega
    clear hb hp gg G1 CN hw1
    go_wp2_with fail
    rw [e2]
    refine (reserve_ok b p 1 seed P 0 0 (by omega) (by omega) (by omega) n (by omega) (by omega) w2 K2).mono ?_
    rintro e w3 ⟨rfl, tt, K3⟩
    have G3 := grew_tn G2 tt hwb
    rw [Nat.zero_add] at *
    clear K2 G2 tt
    go_wp2_with fail
    go_loopw [11, 12] (fun lv iv wr => ∃ k nx : Nat, k ≤ l.length ∧ nx = min k n ∧ lv = .int .i64 ((nx : Int) - 1) ∧ iv = .int .i64 k ∧ KyAt wr b p 1 seed P nx n ∧ Grew w wr) (fun _ iv _ => l.length - (intOf iv).toNat)
    case atStart => exact ⟨0, 0, Nat.zero_le _, by omega, rfl, rfl, K3, G3⟩
    case round =>
      clear K3 G3
      obtain ⟨k, nx, hk, hnx, rfl, rfl, K, G⟩ := hrel
      have hk0 : (0 : Int) ≤ (k : Int) := by omega
      by_cases hlt : k < l.length
      · have hk1 : (k : Int) < (l.length : Int) := by omega
        have e1 : IntKind.i64.wrap ((k : Int) + 1) = ((k + 1 : Nat) : Int) := by rw [IntWalk.i64_in _ (by omega)]; omega
        have hzu := HU.out (l[k]'hlt) (List.getElem_mem hlt)
        have HC : Hid (∃ ad, A = some ad ∧ ∀ W, Grew w W → W.cell? (ad.add k) = some (.int .u64 (l[k]'hlt))) := Lib.hid (by
          obtain ⟨ad, hA, hbl, hc0⟩ := HR.out k (by simpa using hlt)
          refine ⟨ad, hA, fun W g => ?_⟩
          obtain ⟨ad', hA', _, hc⟩ := (HR.out.grew g) k (by simpa using hlt)
          rw [hA] at hA'
          cases hA'
          simpa using hc)
        obtain ⟨ad, hA, hcell⟩ := HC.out
        subst hA
        clear HC
        generalize l[k]'hlt = z at *
        have HCL := Lib.hid hcell
        clear hcell
        have hc0 := HCL.out wr G
        go_wp2_with fail
        by_cases hkn : n ≤ k
        · obtain rfl : n = nx := by omega
          clear hnx
          have d1 : (n : Int) ≤ (k : Int) := by omega
          refine (sign_spent b p 1 seed P n n (by omega) (by omega) (by omega) z (by omega) wr K).mono ?_
          rintro e w3 ⟨rfl, gg⟩
          have K3 := K.grew gg
          have G3 := grew_trans G gg
          have zt := alloc_sig w3
          have HTH : Hid ((w3.alloc (.cells (#[.int .i64 0, .int .i64 0, .int .u64 0, .int .u64 0, .int .u64 0, .int .u64 0, .int .u64 0, .int .u64 0, .int .u64 0, .int .u64 0, .int .u64 0, .int .u64 0, .int .u64 0, .int .u64 0, .int .u64 0, .int .u64 0, .int .u64 0, .int .u64 0, .int .u64 0, .int .u64 0, .slice none 0 0]) 39)).there w3.heap.size 0 (#[.int .i64 0, .int .i64 0, .int .u64 0, .int .u64 0, .int .u64 0, .int .u64 0, .int .u64 0, .int .u64 0, .int .u64 0, .int .u64 0, .int .u64 0, .int .u64 0, .int .u64 0, .int .u64 0, .int .u64 0, .int .u64 0, .int .u64 0, .int .u64 0, .int .u64 0, .int .u64 0, .slice none 0 0] : Array Value).size) := Lib.hid (zt.thereN 21 rfl)
          have g5 : Grew w3 ((w3.alloc (.cells (#[.int .i64 0, .int .i64 0, .int .u64 0, .int .u64 0, .int .u64 0, .int .u64 0, .int .u64 0, .int .u64 0, .int .u64 0, .int .u64 0, .int .u64 0, .int .u64 0, .int .u64 0, .int .u64 0, .int .u64 0, .int .u64 0, .int .u64 0, .int .u64 0, .int .u64 0, .int .u64 0, .slice none 0 0]) 39)).setCells w3.heap.size 0 (#[.int .i64 0, .int .i64 0, .int .u64 0, .int .u64 0, .int .u64 0, .int .u64 0, .int .u64 0, .int .u64 0, .int .u64 0, .int .u64 0, .int .u64 0, .int .u64 0, .int .u64 0, .int .u64 0, .int .u64 0, .int .u64 0, .int .u64 0, .int .u64 0, .int .u64 0, .int .u64 0, .slice none 0 0] : Array Value).toList) := setCells_grew (o := 0) (b := w3.heap.size) (#[.int .i64 0, .int .i64 0, .int .u64 0, .int .u64 0, .int .u64 0, .int .u64 0, .int .u64 0, .int .u64 0, .int .u64 0, .int .u64 0, .int .u64 0, .int .u64 0, .int .u64 0, .int .u64 0, .int .u64 0, .int .u64 0, .int .u64 0, .int .u64 0, .int .u64 0, .int .u64 0, .slice none 0 0] : Array Value).toList (grew_alloc (grew_refl w3) _) (Nat.le_refl _)
          have K4 := K3.grew g5
          have G4 := grew_trans G3 g5
          clear zt g5 K G gg K3 G3 hc0
          obtain ⟨w4, hw4⟩ : ∃ w4, (w3.alloc (.cells (#[.int .i64 0, .int .i64 0, .int .u64 0, .int .u64 0, .int .u64 0, .int .u64 0, .int .u64 0, .int .u64 0, .int .u64 0, .int .u64 0, .int .u64 0, .int .u64 0, .int .u64 0, .int .u64 0, .int .u64 0, .int .u64 0, .int .u64 0, .int .u64 0, .int .u64 0, .int .u64 0, .slice none 0 0]) 39)).setCells w3.heap.size 0 (#[.int .i64 0, .int .i64 0, .int .u64 0, .int .u64 0, .int .u64 0, .int .u64 0, .int .u64 0, .int .u64 0, .int .u64 0, .int .u64 0, .int .u64 0, .int .u64 0, .int .u64 0, .int .u64 0, .int .u64 0, .int .u64 0, .int .u64 0, .int .u64 0, .int .u64 0, .int .u64 0, .slice none 0 0] : Array Value).toList = w4 := ⟨_, rfl⟩
          rw [hw4] at K4 G4
          have HW4 := Lib.hid hw4
          clear hw4
          go_wp2_with (with_reducible refine wpList_store_mid rfl 39 (.tmp 13) (.tmp 55) rfl w3.heap.size 0 (#[.int .i64 0, .int .i64 0, .int .u64 0, .int .u64 0, .int .u64 0, .int .u64 0, .int .u64 0, .int .u64 0, .int .u64 0, .int .u64 0, .int .u64 0, .int .u64 0, .int .u64 0, .int .u64 0, .int .u64 0, .int .u64 0, .int .u64 0, .int .u64 0, .int .u64 0, .int .u64 0, .slice none 0 0]) rfl rfl HTH.out HZI.out HZO.out ?_; rw [HW4.out])
          go_roundw
          case rel => exact ⟨k + 1, n, by omega, by omega, rfl, by go_num, K4, G4⟩
          case measure => simp [intOf]; omega
        · obtain rfl : k = nx := by omega
          clear hnx
          have d1 : ¬ (n : Int) ≤ (k : Int) := by omega
          have hpx := pathN_lt P k HLT.out
          have HPX := Lib.hid hpx
          have hpl := H4.out k (by omega)
          clear hpx
          refine (sign_ok b p 1 seed P k n (by omega) (by omega) (by omega) z (by omega) (by omega) HLV.out HLT.out HSD.out hzu wr K).mono ?_
          rintro e v4 ⟨⟨A1, c1, rfl, r1, hA1⟩, tt, K4⟩
          have G4 := grew_tn G tt hwb
          clear K G tt hA1 hc0
          obtain ⟨s, hs⟩ : ∃ s, signF (secN seed (k : Int)) z.toNat = s := ⟨_, rfl⟩
          have HST : Hid (∀ j, j < 18 → s j < 18446744073709551616) := Lib.hid (by rw [← hs]; exact fun j hj => signF_lt _ _ _ (secN_lt _ _ _))
          have hv := HV.out k (by omega) z hzu.1
          rw [hs] at hv ⊢
          clear hs
          obtain ⟨pl, hq⟩ : ∃ pl, pathN P k = pl := ⟨_, rfl⟩
          rw [hq] at r1 hpl HPX hv ⊢
          clear hq
          obtain ⟨g1, hg1⟩ : ∃ g, sgC 1 (k : Int) s (.slice A1 pl.length c1) = g := ⟨_, rfl⟩
          have HON1 := Lib.hid (sgC_one 1 (k : Int) s A1 pl.length c1)
          have HSI1 : Hid ((Tryz.prog.info? 39).map (·.size) = some (sgC 1 (k : Int) s (.slice A1 pl.length c1)).size) := Lib.hid sg_info
          have HSL1 : Hid ((Tryz.prog.info? 39).map (·.size) = some (sgC 1 (k : Int) s (.slice A1 pl.length c1)).toList.length) := Lib.hid sg_info
          have HSA1 : Hid ((sgC 1 (k : Int) s (.slice A1 pl.length c1)).toList[0]? = some (.int .i64 1)) := Lib.hid rfl
          have HSB1 : Hid ((sgC 1 (k : Int) s (.slice A1 pl.length c1)).toList[1]? = some (.int .i64 (k : Int))) := Lib.hid rfl
          have HSz1 : Hid ((sgC 1 (k : Int) s (.slice A1 pl.length c1)).size = 21) := Lib.hid rfl
          have CV := Lib.hid (fun W h1 => kverify_ok (rootN P) 1 (k : Int) s A1 c1 pl z h (by omega) ⟨by omega, by omega⟩ HST.out HPX.out hzu W h1)
          have CV2 := Lib.hid (fun (lf : Nat) (hlf : lf < 256) W h1 => kverify_ok (rootN P) 1 (lf : Int) s A1 c1 pl z h (by omega) ⟨by omega, by omega⟩ HST.out HPX.out hzu W h1)
          have CO2 := Lib.hid (fun (lf : Nat) W h1 => kof_ok 1 (lf : Int) s A1 c1 pl (by omega) W h1)
          have CR2 := Lib.hid (fun (lf : Nat) (hlf : lf < 256) A' c' W h1 => refvsig_ok (rootN P) 1 (lf : Int) s A' c' pl z h (by omega) ⟨by omega, by omega⟩ HST.out HPX.out hzu W h1)
          rw [hv] at CV
          clear hpl
          have HG1 := Lib.hid hg1
          rw [hg1] at HON1 HSI1 HSL1 HSA1 HSB1 HSz1 CV ⊢
          clear hg1 hv
          have zt := alloc_sig v4
          have HTH : Hid ((v4.alloc (.cells (#[.int .i64 0, .int .i64 0, .int .u64 0, .int .u64 0, .int .u64 0, .int .u64 0, .int .u64 0, .int .u64 0, .int .u64 0, .int .u64 0, .int .u64 0, .int .u64 0, .int .u64 0, .int .u64 0, .int .u64 0, .int .u64 0, .int .u64 0, .int .u64 0, .int .u64 0, .int .u64 0, .slice none 0 0]) 39)).there v4.heap.size 0 g1.size) := Lib.hid (by rw [HSz1.out]; exact zt.thereN 21 rfl)
          have z5 := Ag.set (vs := g1.toList) zt (by rw [Array.length_toList, HSz1.out]; rfl)
          have g5 : Grew v4 ((v4.alloc (.cells (#[.int .i64 0, .int .i64 0, .int .u64 0, .int .u64 0, .int .u64 0, .int .u64 0, .int .u64 0, .int .u64 0, .int .u64 0, .int .u64 0, .int .u64 0, .int .u64 0, .int .u64 0, .int .u64 0, .int .u64 0, .int .u64 0, .int .u64 0, .int .u64 0, .int .u64 0, .int .u64 0, .slice none 0 0]) 39)).setCells v4.heap.size 0 g1.toList) := setCells_grew (o := 0) (b := v4.heap.size) g1.toList (grew_alloc (grew_refl v4) _) (Nat.le_refl _)
          have K5 := K4.grew g5
          have G5 := grew_trans G4 g5
          have r5 := r1.gr g5
          clear zt g5 K4 G4 r1
          obtain ⟨v5, hv5⟩ : ∃ v5, (v4.alloc (.cells (#[.int .i64 0, .int .i64 0, .int .u64 0, .int .u64 0, .int .u64 0, .int .u64 0, .int .u64 0, .int .u64 0, .int .u64 0, .int .u64 0, .int .u64 0, .int .u64 0, .int .u64 0, .int .u64 0, .int .u64 0, .int .u64 0, .int .u64 0, .int .u64 0, .int .u64 0, .int .u64 0, .slice none 0 0]) 39)).setCells v4.heap.size 0 g1.toList = v5 := ⟨_, rfl⟩
          rw [hv5] at K5 G5 r5 z5
          have HW5 := Lib.hid hv5
          clear hv5
          have d2 : ¬ (k : Int) ≤ (k : Int) - 1 := by omega
          have d3 : decide ((k : Int) ≤ (k : Int) - 1) = false := decide_eq_false d2
          go_wp2_with (with_reducible refine wpList_store_mid rfl 39 (.tmp 13) (.tmp 55) rfl v4.heap.size 0 g1 rfl rfl HTH.out HSI1.out HON1.out ?_; rw [HW5.out]; clear HW5 HTH; generalize v4.heap.size = q1 at *)
          have m0 : ∀ y : Gr v5, y.val.cell? ⟨q1, 0, none⟩ = some (.int .i64 1) := fun y => by simpa using (z5.gr y).cell 0 _ HSA1.out
          have m1 : ∀ y : Gr v5, y.val.cell? ⟨q1, 1, none⟩ = some (.int .i64 (k : Int)) := fun y => by simpa using (z5.gr y).cell 1 _ HSB1.out
          have mc : ∀ y : Gr v5, y.val.cell? (ad.add k) = some (.int .u64 z) := fun y => HCL.out y.val (grew_trans G5 y.ok)
          have mm : Hid (∀ y : Gr v5, y.val.rangeAt q1 0 g1.toList) := Lib.hid (fun y => (z5.gr y).cell)
          have CRT := Lib.hid (fun (y : Gr v5) => keyroot_ok b p 1 seed P (k + 1) n (by omega) HLV.out HLT.out y.val (K5.grew y.ok))
          have CVV := Lib.hid (fun (y : Gr v5) => CV.out y.val (r5.gr y.ok))
          clear CV
          generalize hrt : rootN P = rt at *
          have HRT := Lib.hid hrt
          clear hrt
          refine wp_region_grew (grew_refl v5) (by kernel_rfl) (by kernel_rfl) ?_
          repeat (first
            | (go_big_quiet_want; refine quiet_load_mid 39 (.tmp 13) rfl q1 0 rfl g1.toList _ mm.out hus rfl HSL1.out ?_; simp only [Act.put, List.setIfInBounds_toArray, List.set_cons_succ, List.set_cons_zero, Array.toArray_toList]; go_big_quiet_on)
            | (go_big_quiet_step (first
              | (go_at_call 23; exact callG (CRT.out _))
              | (go_at_call 25; exact callG (CVV.out _)))))
          refine wpQuiet_nil ?_
          rintro w8 ⟨⟨w8', g8⟩, rfl⟩
          have K8 := K5.grew g8
          have G8 := grew_trans G5 g8
          have z8 := z5.grew g8
          have r8 := r5.gr g8
          clear m0 m1 mc mm CRT CVV K5 G5 z5 r5 d2 d3
          have hc0 : w8.cell? ⟨q1, 1, none⟩ = some (.int .i64 (k : Int)) := by simpa using z8.cell 1 _ HSB1.out
          have hm0 := z8.cell

          have zt := alloc_sig w8
          have HTH : Hid ((w8.alloc (.cells (#[.int .i64 0, .int .i64 0, .int .u64 0, .int .u64 0, .int .u64 0, .int .u64 0, .int .u64 0, .int .u64 0, .int .u64 0, .int .u64 0, .int .u64 0, .int .u64 0, .int .u64 0, .int .u64 0, .int .u64 0, .int .u64 0, .int .u64 0, .int .u64 0, .int .u64 0, .int .u64 0, .slice none 0 0]) 39)).there w8.heap.size 0 g1.size) := Lib.hid (by rw [HSz1.out]; exact zt.thereN 21 rfl)
          have z9 := Ag.set (vs := g1.toList) zt (by rw [Array.length_toList, HSz1.out]; rfl)
          have g9 : Grew w8 ((w8.alloc (.cells (#[.int .i64 0, .int .i64 0, .int .u64 0, .int .u64 0, .int .u64 0, .int .u64 0, .int .u64 0, .int .u64 0, .int .u64 0, .int .u64 0, .int .u64 0, .int .u64 0, .int .u64 0, .int .u64 0, .int .u64 0, .int .u64 0, .int .u64 0, .int .u64 0, .int .u64 0, .int .u64 0, .slice none 0 0]) 39)).setCells w8.heap.size 0 g1.toList) := setCells_grew (o := 0) (b := w8.heap.size) g1.toList (grew_alloc (grew_refl w8) _) (Nat.le_refl _)
          have K9 := K8.grew g9
          have G9 := grew_trans G8 g9
          have r9 := r8.gr g9
          have hw8 : w.heap.size ≤ w8.heap.size := G8.size
          have hA8 : ∀ ad, A1 = some ad → ad.block < w8.heap.size ∨ pl.length = 0 := fun ad h => by
            by_cases h0 : pl.length = 0
            · exact .inr h0
            · obtain ⟨ad', e, hb, _⟩ := r8 0 (by simp [u64L]; omega)
              rw [h] at e
              cases e
              exact .inl hb
          have HA8 := Lib.hid hA8
          have hbq : b ≠ w8.heap.size ∧ p ≠ w8.heap.size := ⟨by have := K8.key.lt; omega, by have := K8.pub.lt; omega⟩
          have z1c := z8.grew g9
          clear zt g9 K8 G8 r8 z8 hA8
          obtain ⟨w9, hw9⟩ : ∃ w9, (w8.alloc (.cells (#[.int .i64 0, .int .i64 0, .int .u64 0, .int .u64 0, .int .u64 0, .int .u64 0, .int .u64 0, .int .u64 0, .int .u64 0, .int .u64 0, .int .u64 0, .int .u64 0, .int .u64 0, .int .u64 0, .int .u64 0, .int .u64 0, .int .u64 0, .int .u64 0, .int .u64 0, .int .u64 0, .slice none 0 0]) 39)).setCells w8.heap.size 0 g1.toList = w9 := ⟨_, rfl⟩
          rw [hw9] at K9 G9 r9 z9 z1c
          have HW9 := Lib.hid hw9
          clear hw9
          have hc1 : w9.cell? ⟨q1, 1, none⟩ = some (.int .i64 (k : Int)) := by simpa using z1c.cell 1 _ HSB1.out
          have hcq : w9.cell? ⟨w8.heap.size, 1, none⟩ = some (.int .i64 (k : Int)) := by simpa using z9.cell 1 _ HSB1.out
          have hfq : w9.frozen? ⟨w8.heap.size, 1, none⟩ = false := by simpa using (z9.there 1 (by rw [Array.length_toList, HSz1.out]; omega)).2
          have HSB1' := HSB1
          clear z1c
          go_wp2_with (first
            | (with_reducible refine wpList_load_mid rfl 39 (.tmp 13) rfl q1 0 rfl g1.toList _ hm0 hus rfl HSL1.out ?_; simp only [Array.toArray_toList])
            | (with_reducible refine wpList_store_mid rfl 39 (.tmp 15) (.tmp 89) rfl w8.heap.size 0 g1 rfl rfl HTH.out HSI1.out HON1.out ?_; rw [HW9.out]; clear HW9 HTH)
            | fail)
          obtain ⟨lf, hlf⟩ : ∃ lf : Nat, ((k : Int) + 1) % (n : Int) = (lf : Int) := ⟨(k + 1) % n, by simp⟩
          have hlf2 : lf < 256 := by
            have h1 : ((k : Int) + 1) % (n : Int) < (n : Int) := Int.emod_lt_of_pos _ (by omega)
            omega
          rw [hlf]
          clear hlf hc1 hcq hfq HSB1'
          have z10 := Ag.set1 z9 1 (.int .i64 (lf : Int)) (by rw [Array.length_toList, HSz1.out]; omega)
          rw [← HG1.out, sgC_leaf] at z10
          have tt : Tn w8.heap.size w9 (w9.setCell ⟨w8.heap.size, 1, none⟩ (.int .i64 (lf : Int))) := tn_set (tn_refl _ _) (.inl rfl) _
          have K10 := K9.tn tt hbq.1 hbq.2
          have G10 := grew_tn G9 tt hw8
          have r10 : Rd (w9.setCell ⟨w8.heap.size, 1, none⟩ (.int .i64 (lf : Int))) (w9.setCell ⟨w8.heap.size, 1, none⟩ (.int .i64 (lf : Int))).heap.size A1 (u64L pl) := by
            by_cases h0 : pl.length = 0
            · exact fun j hj => absurd hj (by simp [u64L]; omega)
            · exact (r9.kp (kp_tn tt) (Nat.le_refl _) (fun ad h1 h2 h3 => by
                rcases HA8.out ad h1 with h | h
                · omega
                · exact h0 h)).more tt.size
          clear K9 G9 r9 z9 HA8 hbq tt hw8
          generalize w9.setCell ⟨w8.heap.size, 1, none⟩ (.int .i64 (lf : Int)) = v9 at *
          generalize w8.heap.size = q2 at *
          have CV3 := Lib.hid (fun W h1 => CV2.out lf hlf2 W h1)
          have CO3 := Lib.hid (fun W h1 => CO2.out lf W h1)
          have CR3 := Lib.hid (fun A' c' W h1 => CR2.out lf hlf2 A' c' W h1)
          have HSL2 : Hid ((Tryz.prog.info? 39).map (·.size) = some (sgC 1 (lf : Int) s (.slice A1 pl.length c1)).toList.length) := Lib.hid sg_info
          obtain ⟨g2, hg2⟩ : ∃ g, sgC 1 (lf : Int) s (.slice A1 pl.length c1) = g := ⟨_, rfl⟩
          rw [hg2] at z10 CV3 CO3 HSL2
          clear hg2 CV2 CO2 CR2
          obtain ⟨vb, hvb⟩ : ∃ vb, vrS rt (lf : Int) s pl z (h : Int) = vb := ⟨_, rfl⟩
          rw [hvb] at CV3 CR3
          clear hvb
          have mc : ∀ y : Gr v9, y.val.cell? (ad.add k) = some (.int .u64 z) := fun y => HCL.out y.val (grew_trans G10 y.ok)
          have mm : Hid (∀ y : Gr v9, y.val.rangeAt q2 0 g2.toList) := Lib.hid (fun y => (z10.gr y).cell)
          have crt := fun (y : Gr v9) => keyroot_ok b p 1 seed P (k + 1) n (by omega) HLV.out HLT.out y.val (K10.grew y.ok)
          simp only [HRT.out] at crt
          have CRT := Lib.hid crt
          have CVV := Lib.hid (fun (y : Gr v9) => CV3.out y.val (r10.gr y.ok))
          clear crt CV3
          have hkk : Hid (k + 1 ≤ l.length ∧ k + 1 = min (k + 1) n) := Lib.hid ⟨by omega, by omega⟩
          by_cases h1n : 1 < n
          · have d5 : (1 : Int) < (n : Int) := by omega
            refine wp_region_grew (grew_refl v9) (by kernel_rfl) (by kernel_rfl) ?_
            repeat (first
              | (go_big_quiet_want; refine quiet_load_mid 39 (.tmp 15) rfl q2 0 rfl g2.toList _ mm.out hus rfl HSL2.out ?_; simp only [Act.put, List.setIfInBounds_toArray, List.set_cons_succ, List.set_cons_zero, Array.toArray_toList]; go_big_quiet_on)
              | (go_big_quiet_step (first
                | (go_at_call 23; exact callG (CRT.out _))
                | (go_at_call 25; exact callG (CVV.out _)))))
            refine wpQuiet_nil ?_
            rintro w11 ⟨⟨w11', g11⟩, rfl⟩
            have K11 := K10.grew g11
            have G11 := grew_trans G10 g11
            have z11 := z10.grew g11
            have r11 := r10.gr g11
            clear mc mm CRT CVV K10 G10 z10 r10
            cases vb
            · go_wp2_with fail
              go_roundw
              case rel => exact ⟨k + 1, k + 1, hkk.out.1, hkk.out.2, by go_num, by go_num, K11, G11⟩
              case measure => have := hkk.out.1; simp [intOf]; omega
            · go_wp2_with fail
              have HCY := Lib.hid (fun y (g : Grew w11 y) => HCL.out y (grew_trans G11 g))
              have HMY : Hid (∀ y, Grew w11 y → y.rangeAt q2 0 g2.toList) := Lib.hid (fun y g => (z11.grew g).cell)
              have HRY := Lib.hid (fun y (g : Grew w11 y) => r11.gr g)
              have kr := fun y (g : Grew w11 y) => keyroot_ok b p 1 seed P (k + 1) n (by omega) HLV.out HLT.out y (K11.grew g)
              simp only [HRT.out] at kr
              have HKR := Lib.hid kr
              clear kr
              refine wp_region_rel 10 (fun i => match i with
                  | 0 => fun v _ => v = .pointer (some ⟨b, 0, none⟩)
                  | 1 => fun v _ => v = .int .u64 (rt : Nat)
                  | 2 => fun v _ => v = .agg g2
                  | 3 => fun v w => AgS w 0 1 lf s pl v
                  | 4 => fun v _ => v = .slice (some ad) l.length c
                  | 5 => fun v _ => v = .int .i64 (k : Int)
                  | 6 => fun v _ => v = .pointer (some (ad.add k))
                  | 7 => fun v _ => v = .int .u64 z
                  | 8 => fun v _ => v = .int .i64 (h : Int)
                  | 9 => fun v _ => v = .bool true
                  | _ => fun _ _ => True) (by kernel_rfl) (by kernel_rfl) ?_ ?_ ?_
              · intro i v x y h hg
                match i, h with
                | 0, h | 1, h | 2, h | 4, h | 5, h | 6, h | 7, h | 8, h | 9, h => exact h
                | 3, h => exact AgS.gr h hg
                | m + 10, _ => trivial
              · refine ⟨?_, ?_, ?_, ?_, ?_, ?_, ?_, ?_, ?_, ?_, trivial⟩
                · intro vs y hg hd
                  simp only [actOf, List.take_succ_cons, List.take_zero, List.drop_succ_cons, List.drop_zero, Act.put, List.setIfInBounds_toArray, List.set_cons_succ, List.set_cons_zero, Nat.reduceAdd]
                  go_wp2_with fail
                  exact ⟨rfl, _, rfl, grew_refl _, rfl⟩
                · intro vs y hg hd
                  obtain ⟨h0, _⟩ := hd
                  replace h0 := h0 rfl
                  simp only [actOf, List.take_succ_cons, List.take_zero, List.drop_succ_cons, List.drop_zero, Act.put, List.setIfInBounds_toArray, List.set_cons_succ, List.set_cons_zero, Nat.reduceAdd]
                  rw [show vs 0 = _ from h0]
                  go_wp2_with (go_at_call 23; refine (HKR.out y hg).mono ?_; rintro e z ⟨rfl, gz⟩)
                  exact ⟨rfl, _, rfl, gz, rfl⟩
                · intro vs y hg hd
                  simp only [actOf, List.take_succ_cons, List.take_zero, List.drop_succ_cons, List.drop_zero, Act.put, List.setIfInBounds_toArray, List.set_cons_succ, List.set_cons_zero, Nat.reduceAdd]
                  have hm := HMY.out y hg
                  go_wp2_with (with_reducible refine wpList_load_mid rfl 39 (.tmp 15) rfl q2 0 rfl g2.toList _ hm hus rfl HSL2.out ?_; simp only [Array.toArray_toList])
                  exact ⟨rfl, _, rfl, grew_refl _, rfl⟩
                · intro vs y hg hd
                  obtain ⟨h2, _⟩ := hd
                  replace h2 := h2 rfl
                  simp only [actOf, List.take_succ_cons, List.take_zero, List.drop_succ_cons, List.drop_zero, Act.put, List.setIfInBounds_toArray, List.set_cons_succ, List.set_cons_zero, Nat.reduceAdd]
                  rw [show vs 2 = _ from h2]
                  go_wp2_with (go_at_call 15; refine (CO3.out y (HRY.out y hg)).mono ?_; rintro e z ⟨A2, c2, rfl, hr9, gz⟩)
                  exact ⟨rfl, _, rfl, gz, ⟨A2, c2, rfl, hr9, fun ad h => Nat.zero_le _⟩⟩
                · intro vs y hg hd
                  simp only [actOf, List.take_succ_cons, List.take_zero, List.drop_succ_cons, List.drop_zero, Act.put, List.setIfInBounds_toArray, List.set_cons_succ, List.set_cons_zero, Nat.reduceAdd]
                  go_wp2_with fail
                  exact ⟨rfl, _, rfl, grew_refl _, rfl⟩
                · intro vs y hg hd
                  simp only [actOf, List.take_succ_cons, List.take_zero, List.drop_succ_cons, List.drop_zero, Act.put, List.setIfInBounds_toArray, List.set_cons_succ, List.set_cons_zero, Nat.reduceAdd]
                  go_wp2_with fail
                  exact ⟨rfl, _, rfl, grew_refl _, rfl⟩
                · intro vs y hg hd
                  obtain ⟨h4, h5, _⟩ := hd
                  replace h4 := h4 rfl
                  replace h5 := h5 rfl
                  simp only [actOf, List.take_succ_cons, List.take_zero, List.drop_succ_cons, List.drop_zero, Act.put, List.setIfInBounds_toArray, List.set_cons_succ, List.set_cons_zero, Nat.reduceAdd]
                  rw [show vs 4 = _ from h4, show vs 5 = _ from h5]
                  have q0 : (k : Int) < (l.length : Int) := by have := hkk.out.1; omega
                  have q1 : (0 : Int) ≤ (k : Int) := by omega
                  go_wp2_with fail
                  exact ⟨rfl, _, rfl, grew_refl _, rfl⟩
                · intro vs y hg hd
                  obtain ⟨h6, _⟩ := hd
                  replace h6 := h6 rfl
                  simp only [actOf, List.take_succ_cons, List.take_zero, List.drop_succ_cons, List.drop_zero, Act.put, List.setIfInBounds_toArray, List.set_cons_succ, List.set_cons_zero, Nat.reduceAdd]
                  rw [show vs 6 = _ from h6]
                  have hc := HCY.out y hg
                  go_wp2_with fail
                  exact ⟨rfl, _, rfl, grew_refl _, rfl⟩
                · intro vs y hg hd
                  simp only [actOf, List.take_succ_cons, List.take_zero, List.drop_succ_cons, List.drop_zero, Act.put, List.setIfInBounds_toArray, List.set_cons_succ, List.set_cons_zero, Nat.reduceAdd]
                  go_wp2_with fail
                  exact ⟨rfl, _, rfl, grew_refl _, rfl⟩
                · intro vs y hg hd
                  obtain ⟨h1, h3, h7, h8, _⟩ := hd
                  replace h1 := h1 rfl
                  replace h3 := h3 rfl
                  replace h7 := h7 rfl
                  replace h8 := h8 rfl
                  simp only [actOf, List.take_succ_cons, List.take_zero, List.drop_succ_cons, List.drop_zero, Act.put, List.setIfInBounds_toArray, List.set_cons_succ, List.set_cons_zero, Nat.reduceAdd]
                  rw [show vs 1 = _ from h1, show vs 7 = _ from h7, show vs 8 = _ from h8]
                  obtain ⟨A2, c2, hv, hr9, hb9⟩ := AgS.out h3
                  rw [hv]
                  go_wp2_with (go_at_call 26; refine (CR3.out A2 c2 y hr9).mono ?_; rintro e z ⟨rfl, gz⟩)
                  exact ⟨rfl, _, rfl, gz, rfl⟩
              · intro vs y hg hJ
                have j0 : vs 0 = .pointer (some ⟨b, 0, none⟩) := hJ 0 (by decide)
                have j1 : vs 1 = .int .u64 (rt : Nat) := hJ 1 (by decide)
                have j2 : vs 2 = .agg g2 := hJ 2 (by decide)
                have j4 : vs 4 = .slice (some ad) l.length c := hJ 4 (by decide)
                have j5 : vs 5 = .int .i64 (k : Int) := hJ 5 (by decide)
                have j6 : vs 6 = .pointer (some (ad.add k)) := hJ 6 (by decide)
                have j7 : vs 7 = .int .u64 z := hJ 7 (by decide)
                have j8 : vs 8 = .int .i64 (h : Int) := hJ 8 (by decide)
                have j9 : vs 9 = .bool true := hJ 9 (by decide)
                simp only [actOf, List.take_succ_cons, List.take_zero, List.drop_succ_cons, List.drop_zero, Act.put, List.setIfInBounds_toArray, List.set_cons_succ, List.set_cons_zero, Nat.reduceAdd]
                obtain ⟨A2, c2, j3, r3, hb3⟩ := AgS.out (show AgS y 0 1 lf s pl (vs 3) from hJ 3 (by decide))
                clear hJ j0 j1 j2 j4 j5 j6 j7 j8 hb3
                simp only [j9]
                go_wp2_with fail
                go_ret
                exact ⟨by simp, grew_trans G11 hg⟩
          · have d5 : ¬ (1 : Int) < (n : Int) := by omega
            refine wp_region_grew (grew_refl v9) (by kernel_rfl) (by kernel_rfl) ?_
            repeat (go_big_quiet_step (fail))
            refine wpQuiet_nil ?_
            rintro w11 ⟨⟨w11', g11⟩, rfl⟩
            have K11 := K10.grew g11
            have G11 := grew_trans G10 g11
            clear mc mm CRT CVV K10 G10 z10 r10
            go_wp2_with fail
            go_roundw
            case rel => exact ⟨k + 1, k + 1, hkk.out.1, hkk.out.2, by go_num, by go_num, K11, G11⟩
            case measure => have := hkk.out.1; simp [intOf]; omega
      · obtain rfl : k = l.length := by omega
        have CL := left_ok b p 1 seed P nx n (by omega) (by omega) wr K
        rw [hl2] at CL
        go_wp2_with fail
        refine CL.mono ?_
        rintro e w5 ⟨rfl, gg⟩
        have hnn : ((n : Int) - (nx : Int) == max 0 ((n : Int) - (l.length : Int))) = true := by rw [beq_iff_eq]; omega
        have hnl : nx ≤ P.length := by omega
        clear hnx
        have e9 : IntKind.i64.wrap ((n : Int) - (l.length : Int)) = (n : Int) - (l.length : Int) := IntWalk.i64_in _ (by omega)
        go_wp2_with fail
        go_ret
        exact ⟨by simp, grew_trans G gg⟩
end Go.Proofs.YtpgbfglfgcidaaaGreatDoor

namespace Go.Proofs.YtpgbfglfgcidaaaGreatDoor
set_option linter.unusedSimpArgs false
set_option linter.unusedVariables false
open Go.RowKit
set_option linter.unusedVariables false
set_option linter.unusedSimpArgs false
structure OwnU (w : World) (B : Nat) (l : List Nat) (v : Value) : Prop where
  out : w.ownsRow B 22 1 v l.length (u64L l)
theorem OwnU.gr {w w' : World} {B : Nat} {l : List Nat} {v : Value} (h : OwnU w B l v) (g : Grew w w') : OwnU w' B l v := ⟨ownsRow_gr h.out g⟩
theorem PV.kp {S : Nat → Prop} {w w' : World} {B : Nat} {l : List Nat} {v : Value} (h : PV w B l v) (k : Kp S w w') (hs : ∀ i, S i → i < B) : PV w' B l v := by
  obtain ⟨A, c, h1, h2, h3⟩ := h.out
  exact ⟨A, c, h1, (h2.kp k (Nat.le_refl _) (fun ad e _ hS => by have h4 := h3 ad e; have h5 := hs _ hS; omega)).more k.size, h3⟩
theorem pv_one (y : World) (t : TypeId) (q : Nat) {B : Nat} (h : B ≤ y.heap.size) : PV (y.alloc (.cells #[.int .u64 (q : Nat)] t)) B [q] (.slice (some ⟨y.heap.size, 0, none⟩) 1 1) :=
  ⟨some ⟨y.heap.size, 0, none⟩, 1, rfl, rd_made y t #[.int .u64 (q : Nat)], fun ad e => by cases e; exact h⟩
def rkC (who sd h : Int) (v : Value) (nx rs : Nat) : List Value := [.int .i64 who, .int .u64 sd, .int .i64 h, v, .int .i64 (nx : Int), .int .i64 (rs : Int)]
/-- the reference's key in block b; its leaves in no block of N -/
structure RkAt (w : World) (b : Nat) (N : Nat → Prop) (who sd h : Int) (l : List Nat) (nx rs : Nat) : Prop where
  out : ∃ A c, Ag w b (rkC who sd h (.slice A l.length c) nx rs) ∧ RdN w N A (u64L l)
theorem RkAt.lt {w : World} {b : Nat} {N : Nat → Prop} {who sd h : Int} {l : List Nat} {nx rs : Nat} (k : RkAt w b N who sd h l nx rs) : b < w.heap.size := by
  obtain ⟨A, c, z, _⟩ := k.out
  exact z.lt
theorem RkAt.kp {S : Nat → Prop} {w w' : World} {b : Nat} {N : Nat → Prop} {who sd h : Int} {l : List Nat} {nx rs : Nat} (k : RkAt w b N who sd h l nx rs) (t : Kp S w w') (hb : ¬ S b) (hs : ∀ i, S i → N i) : RkAt w' b N who sd h l nx rs := by
  obtain ⟨A, c, z, r⟩ := k.out
  exact ⟨A, c, z.kp t hb, r.kp t hs⟩
theorem RkAt.grew {w w' : World} {b : Nat} {N : Nat → Prop} {who sd h : Int} {l : List Nat} {nx rs : Nat} (k : RkAt w b N who sd h l nx rs) (t : Grew w w') : RkAt w' b N who sd h l nx rs := k.kp (S := fun _ => False) (kp_grew t) (fun h => h) (fun _ h => h.elim)
theorem RkAt.chg {w : World} {b : Nat} {N N' : Nat → Prop} {who sd h : Int} {l : List Nat} {nx rs : Nat} (k : RkAt w b N who sd h l nx rs) (hn : ∀ i, i < w.heap.size → N' i → N i) : RkAt w b N' who sd h l nx rs := by
  obtain ⟨A, c, z, r⟩ := k.out
  exact ⟨A, c, z, r.chg hn⟩
set_option maxRecDepth 100000 in
theorem rnew_no (who sd h : Int) (hi : who < 0 ∨ 15 < who ∨ h < 0 ∨ 8 < h) (w : World) :
    Calls Tryz.prog 11 #[.int .i64 who, .int .u64 sd, .int .i64 h] w fun e w' => e = .returned (.tuple #[.pointer none, .int .i64 1]) ∧ w = w' := by
  by_cases h1 : who < 0
  · go_enter Tryz.func11, Tryz.ntmps11
    go_wp2_with fail
    go_ret2
    exact ⟨rfl, rfl⟩
  by_cases h2 : 15 < who
  · go_enter Tryz.func11, Tryz.ntmps11
    go_wp2_with fail
    go_ret2
    exact ⟨rfl, rfl⟩
  by_cases h3 : h < 0
  · go_enter Tryz.func11, Tryz.ntmps11
    go_wp2_with fail
    go_ret2
    exact ⟨rfl, rfl⟩
  have h4 : 8 < h := by omega
  clear hi
  go_enter Tryz.func11, Tryz.ntmps11
  go_wp2_with fail
  go_ret2
  exact ⟨rfl, rfl⟩
set_option maxRecDepth 100000 in
set_option maxHeartbeats 2000000 in
theorem rnew_ok (who sd : Int) (h : Nat) (hw : 0 ≤ who ∧ who ≤ 15) (hh : h ≤ 8) (hsd : U64 sd) (w : World) :
    Calls Tryz.prog 11 #[.int .i64 who, .int .u64 sd, .int .i64 (h : Int)] w fun e w' => ∃ A c, e = .returned (.tuple #[.pointer (some ⟨w.heap.size, 0, none⟩), .int .i64 0]) ∧ Grew w w' ∧ Ag w' w.heap.size (rkC who sd h (.slice A (pubsL sd (2 ^ h)).length c) 0 0) ∧ Rd w' w'.heap.size A (u64L (pubsL sd (2 ^ h))) ∧ ∀ ad, A = some ad → w.heap.size < ad.block := by
  have hn : 2 ^ h ≤ 256 := by
    have : 2 ^ h ≤ 2 ^ 8 := Nat.pow_le_pow_right (by decide) hh
    simpa using this
  have e2 : wrap64 ((2 : Int) ^ h) = ((2 ^ h : Nat) : Int) := by
    have : ((2 : Int) ^ h) = ((2 ^ h : Nat) : Int) := by simp
    rw [this]
    generalize 2 ^ h = n at *
    unfold wrap64; omega
  have h0 : (0 : Int) ≤ (h : Int) := by omega
  have h5 : (h : Int) ≤ 8 := by omega
  have q1 : ¬ who < 0 := by omega
  have q2 : ¬ 15 < who := by omega
  have q3 : ¬ (h : Int) < 0 := by omega
  have q4 : ¬ 8 < (h : Int) := by omega
  generalize 2 ^ h = n at *
  have HSD := Lib.hid hsd
  have HSN := Lib.hid (fun k => pubsL_snoc sd k)
  have CS := Lib.hid (fun (k : Nat) (hk : k < 256) W => rsecrets_any sd k hsd ⟨by omega, by omega⟩ W)
  have CP := Lib.hid (fun (k : Nat) W => rpub_any (secN sd k) W (fun j _ => secN_lt _ _ _))
  obtain ⟨i0, hi, hz0, hz1, hz2⟩ := info_parts infoU
  clear hsd hw hh
  go_enter Tryz.func11, Tryz.ntmps11
  go_wp2_with fail
  have z1 := Ag.new w 59 #[.int .i64 who, .int .u64 sd, .int .i64 (h : Int), .slice none 0 0, .int .i64 0, .int .i64 0]
  have G1 := grew_alloc (grew_refl w) (.cells #[.int .i64 who, .int .u64 sd, .int .i64 (h : Int), .slice none 0 0, .int .i64 0, .int .i64 0] 59)
  have hs1 : (w.alloc (.cells #[.int .i64 who, .int .u64 sd, .int .i64 (h : Int), .slice none 0 0, .int .i64 0, .int .i64 0] 59)).heap.size = w.heap.size + 1 := by simp
  obtain ⟨w0, hw0⟩ : ∃ n, w.heap.size = n := ⟨_, rfl⟩
  rw [hw0] at z1 hs1 ⊢
  have HW := Lib.hid hw0
  clear hw0
  generalize w.alloc (.cells #[.int .i64 who, .int .u64 sd, .int .i64 (h : Int), .slice none 0 0, .int .i64 0, .int .i64 0] 59) = w1 at *
  have HS1 := Lib.hid hs1
  clear hs1
  go_loopw [9] (fun iv wr => ∃ (k : Nat) (pv : Value), k ≤ n ∧ iv = .int .i64 k ∧ Ag wr w0 (rkC who sd h pv 0 0) ∧ wr.ownsRow (w0 + 1) 22 1 pv k (u64L (pubsL sd k)) ∧ Grew w wr ∧ w0 + 1 ≤ wr.heap.size) (fun iv _ => n - (intOf iv).toNat)
  case atStart => exact ⟨0, .slice none 0 0, Nat.zero_le _, rfl, z1, World.ownsRow_nil _ _ _ _, G1, by rw [HS1.out]; omega⟩
  case round =>
    clear z1 G1
    obtain ⟨k, pv, hk, rfl, z, hown, G, hs⟩ := hrel
    by_cases hlt : k < n
    · have hk0 : (0 : Int) ≤ (k : Int) := by omega
      have hk1 : (k : Int) < (n : Int) := by omega
      have e1 : IntKind.i64.wrap ((k : Int) + 1) = ((k + 1 : Nat) : Int) := by rw [IntWalk.i64_in _ (by omega)]; omega
      have cs := CS.out k (by omega)
      have cp := CP.out k
      have HT := HSN.out k
      have ht : u64L (pubsL sd (k + 1)) = u64L (pubsL sd k) ++ [Value.int .u64 (pubN (secN sd (k : Int)) : Nat)] := by rw [HT]; simp [u64L]
      have hl1 : (pubsL sd (k + 1)).length = k + 1 := pubsL_length sd _
      have HK := Lib.hid hlt
      clear HT hlt
      obtain ⟨q, hq⟩ : ∃ q, pubN (secN sd (k : Int)) = q := ⟨_, rfl⟩
      rw [hq] at cp ht
      clear hq
      have CS' := Lib.hid cs
      have CP' := Lib.hid cp
      clear cs cp CS CP
      have CS := CS'
      have CP := CP'
      clear CS' CP'
      have hnb : ¬ (some w0 = pv.ownBlock) := fun e => by have := own_base hown _ e.symm; omega
      have HOL := Lib.hid (show ∀ i, some i = pv.ownBlock → i < wr.heap.size from fun i e => (ownsRow_lt hown i e.symm).2)
      have HSW := HOL
      have HC : Hid (∀ y, Kp (fun i => some i = pv.ownBlock) wr y → y.cell? ⟨w0, 3, none⟩ = some pv) := Lib.hid (fun y g => by simpa using (z.kp g hnb).cell 3 _ rfl)
      have HZ : Hid (∀ y, Kp (fun i => some i = pv.ownBlock) wr y → Ag y w0 (rkC who sd h pv 0 0)) := Lib.hid (fun y g => z.kp g hnb)
      have HO := Lib.hid hown
      have HT : Hid ((pubsL sd (k + 1)).length = k + 1 ∧ u64L (pubsL sd (k + 1)) = u64L (pubsL sd k) ++ [Value.int .u64 (q : Nat)]) := Lib.hid ⟨hl1, ht⟩
      have HW0 := Lib.hid hs
      have HG := Lib.hid G
      have HB : Hid (∀ g, pv.ownBlock = some g → w0 + 1 ≤ g) := Lib.hid (own_base hown)
      clear z hown ht hl1 hs G hnb
      go_wp2_with fail
      rw [e2]
      clear e2
      refine wp_region_app 11 10 (fun i => some i = pv.ownBlock) (fun i => match i with
          | 0 => fun v _ => v = .pointer (some ⟨w0, 0, none⟩)
          | 1 => fun v _ => v = .pointer (some ⟨w0, 0, none⟩)
          | 2 => fun v _ => v = .pointer (some ⟨w0, 0, none⟩)
          | 3 => fun v _ => v = .pointer (some ⟨w0, 3, none⟩)
          | 4 => fun v _ => v = pv
          | 5 => fun v _ => v = .int .u64 sd
          | 6 => fun v _ => v = .int .i64 (k : Int)
          | 7 => fun v _ => v = .agg (arrU (secN sd (k : Int)))
          | 8 => fun v _ => v = .int .u64 (q : Nat)
          | 9 => fun v w => PV w wr.heap.size [q] v
          | 10 => fun v2 w => OwnU w (w0 + 1) (pubsL sd (k + 1)) v2
          | _ => fun _ _ => True) (by kernel_rfl) (by kernel_rfl) ?_ ?_ ?_ ?_
      · intro i v x y h hg
        match i, h with
        | 0, h | 1, h | 2, h | 3, h | 4, h | 5, h | 6, h | 7, h | 8, h => exact h
        | 9, h => exact PV.gr h hg
        | 10, h => exact OwnU.gr h hg
        | m + 11, _ => trivial
      · intro i v x y hne hx h hg
        match i, h with
        | 0, h | 1, h | 2, h | 3, h | 4, h | 5, h | 6, h | 7, h | 8, h => exact h
        | 9, h => exact PV.kp h hg HSW.out
        | 10, h => exact absurd rfl hne
        | m + 11, _ => trivial
      · refine ⟨?_, ?_, ?_, ?_, ?_, ?_, ?_, ?_, ?_, ?_, ?_, trivial⟩
        · intro vs y hg hd
          replace hg : Kp (fun i => some i = pv.ownBlock) wr y := hg
          simp only [actOf, List.take_succ_cons, List.take_zero, List.drop_succ_cons, List.drop_zero, Act.put, List.setIfInBounds_toArray, List.set_cons_succ, List.set_cons_zero, Nat.reduceAdd]
          go_wp2_with fail
          exact ⟨rfl, _, rfl, grew_refl _, rfl⟩
        · intro vs y hg hd
          replace hg : Kp (fun i => some i = pv.ownBlock) wr y := hg
          simp only [actOf, List.take_succ_cons, List.take_zero, List.drop_succ_cons, List.drop_zero, Act.put, List.setIfInBounds_toArray, List.set_cons_succ, List.set_cons_zero, Nat.reduceAdd]
          go_wp2_with fail
          exact ⟨rfl, _, rfl, grew_refl _, rfl⟩
        · intro vs y hg hd
          replace hg : Kp (fun i => some i = pv.ownBlock) wr y := hg
          obtain ⟨h1, _⟩ := hd
          replace h1 := h1 rfl
          simp only [actOf, List.take_succ_cons, List.take_zero, List.drop_succ_cons, List.drop_zero, Act.put, List.setIfInBounds_toArray, List.set_cons_succ, List.set_cons_zero, Nat.reduceAdd]
          rw [show vs 1 = _ from h1]
          go_wp2_with fail
          exact ⟨rfl, _, rfl, grew_refl _, rfl⟩
        · intro vs y hg hd
          replace hg : Kp (fun i => some i = pv.ownBlock) wr y := hg
          obtain ⟨h2, _⟩ := hd
          replace h2 := h2 rfl
          simp only [actOf, List.take_succ_cons, List.take_zero, List.drop_succ_cons, List.drop_zero, Act.put, List.setIfInBounds_toArray, List.set_cons_succ, List.set_cons_zero, Nat.reduceAdd]
          rw [show vs 2 = _ from h2]
          go_wp2_with fail
          exact ⟨rfl, _, rfl, grew_refl _, rfl⟩
        · intro vs y hg hd
          replace hg : Kp (fun i => some i = pv.ownBlock) wr y := hg
          obtain ⟨h3, _⟩ := hd
          replace h3 := h3 rfl
          simp only [actOf, List.take_succ_cons, List.take_zero, List.drop_succ_cons, List.drop_zero, Act.put, List.setIfInBounds_toArray, List.set_cons_succ, List.set_cons_zero, Nat.reduceAdd]
          rw [show vs 3 = _ from h3]
          have hc := HC.out y hg
          go_wp2_with fail
          exact ⟨rfl, _, rfl, grew_refl _, rfl⟩
        · intro vs y hg hd
          replace hg : Kp (fun i => some i = pv.ownBlock) wr y := hg
          simp only [actOf, List.take_succ_cons, List.take_zero, List.drop_succ_cons, List.drop_zero, Act.put, List.setIfInBounds_toArray, List.set_cons_succ, List.set_cons_zero, Nat.reduceAdd]
          go_wp2_with fail
          exact ⟨rfl, _, rfl, grew_refl _, rfl⟩
        · intro vs y hg hd
          replace hg : Kp (fun i => some i = pv.ownBlock) wr y := hg
          simp only [actOf, List.take_succ_cons, List.take_zero, List.drop_succ_cons, List.drop_zero, Act.put, List.setIfInBounds_toArray, List.set_cons_succ, List.set_cons_zero, Nat.reduceAdd]
          go_wp2_with fail
          exact ⟨rfl, _, rfl, grew_refl _, rfl⟩
        · intro vs y hg hd
          replace hg : Kp (fun i => some i = pv.ownBlock) wr y := hg
          obtain ⟨h5, h6, _⟩ := hd
          replace h5 := h5 rfl
          replace h6 := h6 rfl
          simp only [actOf, List.take_succ_cons, List.take_zero, List.drop_succ_cons, List.drop_zero, Act.put, List.setIfInBounds_toArray, List.set_cons_succ, List.set_cons_zero, Nat.reduceAdd]
          rw [show vs 5 = _ from h5, show vs 6 = _ from h6]
          go_wp2_with (go_at_call 37; refine (CS.out y).mono ?_; rintro e z ⟨rfl, gz⟩)
          exact ⟨rfl, _, rfl, gz, rfl⟩
        · intro vs y hg hd
          replace hg : Kp (fun i => some i = pv.ownBlock) wr y := hg
          obtain ⟨h7, _⟩ := hd
          replace h7 := h7 rfl
          simp only [actOf, List.take_succ_cons, List.take_zero, List.drop_succ_cons, List.drop_zero, Act.put, List.setIfInBounds_toArray, List.set_cons_succ, List.set_cons_zero, Nat.reduceAdd]
          rw [show vs 7 = _ from h7]
          go_wp2_with (go_at_call 36; refine (CP.out y).mono ?_; rintro e z ⟨rfl, gz⟩)
          exact ⟨rfl, _, rfl, gz, rfl⟩
        · intro vs y hg hd
          replace hg : Kp (fun i => some i = pv.ownBlock) wr y := hg
          obtain ⟨h8, _⟩ := hd
          replace h8 := h8 rfl
          simp only [actOf, List.take_succ_cons, List.take_zero, List.drop_succ_cons, List.drop_zero, Act.put, List.setIfInBounds_toArray, List.set_cons_succ, List.set_cons_zero, Nat.reduceAdd]
          rw [show vs 8 = _ from h8]
          go_wp2_with fail
          exact ⟨rfl, _, rfl, grew_alloc (grew_refl _) _, pv_one y _ q hg.size⟩
        · intro vs y hg hd
          replace hg : Grew wr y := hg
          obtain ⟨h4, h9, _⟩ := hd
          replace h4 := h4 rfl
          replace h9 := h9 rfl
          simp only [actOf, List.take_succ_cons, List.take_zero, List.drop_succ_cons, List.drop_zero, Act.put, List.setIfInBounds_toArray, List.set_cons_succ, List.set_cons_zero, Nat.reduceAdd]
          rw [show vs 4 = _ from h4]
          obtain ⟨A2, c2, hv2, hr2, _⟩ := PV.out h9
          rw [hv2]
          have hb2 := hg.size
          go_wp2_with (refine wpList_append_rd rfl (.tmp 40) (.tmp 45) 43 rfl (w0 + 1) 22 i0 (.int .u64 0) 8 Tryz.underlying43 hi hz0 hz1 hz2 rfl pv k _ rfl (ownsRow_gr HO.out hg) y.heap.size A2 1 c2 [Value.int .u64 (q : Nat)] rfl rfl hr2 (one_cell rfl) (by unfold maxLen; omega) (by omega) (by have := HW0.out; omega) ?_; intro v6 w6 hown6 hgrow6 _)
          exact ⟨rfl, _, rfl, kp_grown (kp_refl _ _) hgrow6 (fun g h => .inl h.symm), ⟨by rw [HT.out.1, HT.out.2]; exact hown6⟩⟩
      · intro vs y hg hJ
        have j0 : vs 0 = .pointer (some ⟨w0, 0, none⟩) := hJ 0 (by decide)
        have j1 : vs 1 = .pointer (some ⟨w0, 0, none⟩) := hJ 1 (by decide)
        have j2 : vs 2 = .pointer (some ⟨w0, 0, none⟩) := hJ 2 (by decide)
        have j3 : vs 3 = .pointer (some ⟨w0, 3, none⟩) := hJ 3 (by decide)
        have j4 : vs 4 = pv := hJ 4 (by decide)
        have j5 : vs 5 = .int .u64 sd := hJ 5 (by decide)
        have j6 : vs 6 = .int .i64 (k : Int) := hJ 6 (by decide)
        have j7 : vs 7 = .agg (arrU (secN sd (k : Int))) := hJ 7 (by decide)
        have j8 : vs 8 = .int .u64 (q : Nat) := hJ 8 (by decide)
        have s45 := hJ 9 (by decide)
        have s46 := hJ 10 (by decide)
        clear hJ
        simp only [actOf, List.take_succ_cons, List.take_zero, List.drop_succ_cons, List.drop_zero, Act.put, List.setIfInBounds_toArray, List.set_cons_succ, List.set_cons_zero, Nat.reduceAdd]
        obtain ⟨hown6⟩ := (show OwnU y (w0 + 1) (pubsL sd (k + 1)) (vs 10) from s46)
        rw [HT.out.1] at hown6
        obtain ⟨A6, c6, e6, -, -, -⟩ := own_rd hown6
        rw [e6] at hown6 ⊢
        have z6 := HZ.out y hg
        have hw6 := hg.size
        have G6 : Grew w y := below_kp HG.out hg (by have := HW0.out; have := HW.out; omega) (fun i e => by have := HB.out i e.symm; have := HW.out; omega)
        have f3 : y.frozen? ⟨w0, 3, none⟩ = false := by simpa using (z6.there 3 (by simp [rkC])).2
        have c3 : y.cell? ⟨w0, 3, none⟩ = some pv := by simpa using z6.cell 3 _ rfl
        have zz := Ag.set1 z6 3 (.slice A6 (k + 1) c6) (by simp [rkC])
        have ho7 := ownsRow_kp hown6 (kp_tn (tn_set (g := w0) (tn_refl _ y) (p := ⟨w0, 3, none⟩) (.inl rfl) (.slice A6 (k + 1) c6))) (fun g hg h => by have := own_base hown6 g hg; omega)
        have G7 := grew_tn G6 (tn_set (g := w0) (tn_refl _ _) (p := ⟨w0, 3, none⟩) (.inl rfl) (.slice A6 (k + 1) c6)) (by have := HW.out; omega)
        have hs7 : w0 + 1 ≤ (y.setCell ⟨w0, 3, none⟩ (.slice A6 (k + 1) c6)).heap.size := by have := HW0.out; simp [World.setCell]; omega
        clear s45 s46 e6 hown6 z6 G6 hg hw6
        go_wp2_with fail
        go_roundw
        case rel => exact ⟨k + 1, .slice A6 (k + 1) c6, by have := HK.out; omega, by go_num, zz, ho7, G7, hs7⟩
        case measure => have := HK.out; simp [intOf]; omega
    · obtain rfl : k = n := by omega
      obtain ⟨A, c, rfl, -, hll, hrd⟩ := own_rd hown
      have hb : Hid (∀ ad, A = some ad → w0 < ad.block) := Lib.hid (fun ad e => by subst e; exact own_base hown _ rfl)
      have HZ := Lib.hid z
      have HR := Lib.hid hrd
      have hl2 := pubsL_length sd k
      clear z hrd hown hll
      go_wp2_with fail
      go_ret2
      exact ⟨A, c, by rw [HW.out]; rfl, G, by rw [HW.out, hl2]; exact HZ.out, HR.out, by rw [HW.out]; exact hb.out⟩
end Go.Proofs.YtpgbfglfgcidaaaGreatDoor

namespace Go.Proofs.YtpgbfglfgcidaaaGreatDoor
set_option linter.unusedSimpArgs false
set_option linter.unusedVariables false
open Go.RowKit
set_option linter.unusedVariables false
set_option linter.unusedSimpArgs false
theorem RkAt.set4 {w : World} {b : Nat} {N : Nat → Prop} {who sd h : Int} {l : List Nat} {nx rs : Nat} (k : RkAt w b N who sd h l nx rs) (hN : N b) (m : Nat) : RkAt (w.setCell ⟨b, 4, none⟩ (.int .i64 (m : Int))) b N who sd h l m rs := by
  obtain ⟨A, c, z, r⟩ := k.out
  exact ⟨A, c, Ag.set1 z 4 (.int .i64 (m : Int)) (by simp [rkC]), r.kp (kp_tn (tn_set (g := b) (tn_refl _ w) (p := ⟨b, 4, none⟩) (.inl rfl) _)) (fun i e => e ▸ hN)⟩
theorem RkAt.set5 {w : World} {b : Nat} {N : Nat → Prop} {who sd h : Int} {l : List Nat} {nx rs : Nat} (k : RkAt w b N who sd h l nx rs) (hN : N b) (m : Nat) : RkAt (w.setCell ⟨b, 5, none⟩ (.int .i64 (m : Int))) b N who sd h l nx m := by
  obtain ⟨A, c, z, r⟩ := k.out
  exact ⟨A, c, Ag.set1 z 5 (.int .i64 (m : Int)) (by simp [rkC]), r.kp (kp_tn (tn_set (g := b) (tn_refl _ w) (p := ⟨b, 5, none⟩) (.inl rfl) _)) (fun i e => e ▸ hN)⟩
theorem RkAt.drewN {w : World} {b : Nat} {N : Nat → Prop} {who sd h : Int} {l : List Nat} {nx rs : Nat} (k : RkAt w b N who sd h l nx rs) (n : Nat) : RkAt (w.drewN n) b N who sd h l nx rs := k.grew (grew_drewN (grew_refl w) n)
set_option maxRecDepth 100000 in
theorem rreserve_no (b : Nat) (N : Nat → Prop) (hN : N b) (who sd h : Int) (l : List Nat) (nx rs : Nat) (hl : l.length ≤ 256) (hn : nx ≤ l.length) (hr : rs ≤ l.length) (n : Int) (hi : n < 1) (w : World) (k : RkAt w b N who sd h l nx rs) :
    Calls Tryz.prog 17 #[.pointer (some ⟨b, 0, none⟩), .int .i64 n] w fun e w' => e = .returned (.tuple #[.int .i64 0, .int .i64 1]) ∧ Tn b w w' ∧ RkAt w' b N who sd h l nx rs := by
  obtain ⟨A, c, z, r⟩ := k.out
  have c3 : w.cell? ⟨b, 3, none⟩ = some (.slice A l.length c) := by simpa using z.cell 3 _ rfl
  have c4 : w.cell? ⟨b, 4, none⟩ = some (.int .i64 (nx : Int)) := by simpa using z.cell 4 _ rfl
  have c5 : w.cell? ⟨b, 5, none⟩ = some (.int .i64 (rs : Int)) := by simpa using z.cell 5 _ rfl
  have f4 : w.frozen? ⟨b, 4, none⟩ = false := by simpa using (z.there 4 (by simp [rkC])).2
  have f5 : w.frozen? ⟨b, 5, none⟩ = false := by simpa using (z.there 5 (by simp [rkC])).2
  have H := Lib.hid k
  clear k z r
  go_enter Tryz.func17, Tryz.ntmps17
  go_wp2_with fail
  go_ret2
  exact ⟨rfl, tn_refl _ _, H.out⟩
set_option maxRecDepth 100000 in
theorem rreserve_spent (b : Nat) (N : Nat → Prop) (hN : N b) (who sd h : Int) (l : List Nat) (nx rs : Nat) (hl : l.length ≤ 256) (hn : nx ≤ l.length) (hr : rs ≤ l.length) (n : Int) (hi : 1 ≤ n) (hj : (l.length : Int) - rs < n) (w : World) (k : RkAt w b N who sd h l nx rs) :
    Calls Tryz.prog 17 #[.pointer (some ⟨b, 0, none⟩), .int .i64 n] w fun e w' => e = .returned (.tuple #[.int .i64 0, .int .i64 14]) ∧ Tn b w w' ∧ RkAt w' b N who sd h l nx rs := by
  obtain ⟨A, c, z, r⟩ := k.out
  have c3 : w.cell? ⟨b, 3, none⟩ = some (.slice A l.length c) := by simpa using z.cell 3 _ rfl
  have c4 : w.cell? ⟨b, 4, none⟩ = some (.int .i64 (nx : Int)) := by simpa using z.cell 4 _ rfl
  have c5 : w.cell? ⟨b, 5, none⟩ = some (.int .i64 (rs : Int)) := by simpa using z.cell 5 _ rfl
  have f4 : w.frozen? ⟨b, 4, none⟩ = false := by simpa using (z.there 4 (by simp [rkC])).2
  have f5 : w.frozen? ⟨b, 5, none⟩ = false := by simpa using (z.there 5 (by simp [rkC])).2
  have H := Lib.hid k
  clear k z r
  have q1 : ¬ n < 1 := by omega
  have e1 : IntKind.i64.wrap ((l.length : Int) - (rs : Int)) = (l.length : Int) - (rs : Int) := IntWalk.i64_in _ (by omega)
  go_enter Tryz.func17, Tryz.ntmps17
  go_wp2_with fail
  go_quiet (fail)
  go_wp2_with fail
  go_ret2
  exact ⟨rfl, tn_drewN (tn_refl _ _) _, H.out.drewN _⟩
set_option maxRecDepth 100000 in
theorem rreserve_ok (b : Nat) (N : Nat → Prop) (hN : N b) (who sd h : Int) (l : List Nat) (nx rs : Nat) (hl : l.length ≤ 256) (hn : nx ≤ l.length) (hr : rs ≤ l.length) (n : Nat) (hi : 1 ≤ n) (hj : rs + n ≤ l.length) (w : World) (k : RkAt w b N who sd h l nx rs) :
    Calls Tryz.prog 17 #[.pointer (some ⟨b, 0, none⟩), .int .i64 (n : Int)] w fun e w' => e = .returned (.tuple #[.int .i64 ((rs + n : Nat) : Int), .int .i64 0]) ∧ Tn b w w' ∧ RkAt w' b N who sd h l nx (rs + n) := by
  obtain ⟨A, c, z, r⟩ := k.out
  have c3 : w.cell? ⟨b, 3, none⟩ = some (.slice A l.length c) := by simpa using z.cell 3 _ rfl
  have c4 : w.cell? ⟨b, 4, none⟩ = some (.int .i64 (nx : Int)) := by simpa using z.cell 4 _ rfl
  have c5 : w.cell? ⟨b, 5, none⟩ = some (.int .i64 (rs : Int)) := by simpa using z.cell 5 _ rfl
  have f4 : w.frozen? ⟨b, 4, none⟩ = false := by simpa using (z.there 4 (by simp [rkC])).2
  have f5 : w.frozen? ⟨b, 5, none⟩ = false := by simpa using (z.there 5 (by simp [rkC])).2
  have H := Lib.hid k
  clear k z r
  have q1 : ¬ (n : Int) < 1 := by omega
  have q2 : ¬ (l.length : Int) - (rs : Int) < (n : Int) := by omega
  have e1 : IntKind.i64.wrap ((l.length : Int) - (rs : Int)) = (l.length : Int) - (rs : Int) := IntWalk.i64_in _ (by omega)
  have e2 : IntKind.i64.wrap ((rs : Int) + (n : Int)) = ((rs + n : Nat) : Int) := by rw [IntWalk.i64_in _ (by omega)]; omega
  go_enter Tryz.func17, Tryz.ntmps17
  go_wp2_with fail
  go_quiet (fail)
  go_wp2_with fail
  go_ret2
  exact ⟨by simp, tn_set (tn_drewN (tn_refl _ _) _) (.inl rfl) _, (H.out.drewN _).set5 hN _⟩
set_option maxRecDepth 100000 in
theorem rskip_lo (b : Nat) (N : Nat → Prop) (hN : N b) (who sd h : Int) (l : List Nat) (nx rs : Nat) (hl : l.length ≤ 256) (hn : nx ≤ l.length) (hr : rs ≤ l.length) (n : Int) (hi : n < nx) (w : World) (k : RkAt w b N who sd h l nx rs) :
    Calls Tryz.prog 19 #[.pointer (some ⟨b, 0, none⟩), .int .i64 n] w fun e w' => e = .returned (.int .i64 1) ∧ Tn b w w' ∧ RkAt w' b N who sd h l nx rs := by
  obtain ⟨A, c, z, r⟩ := k.out
  have c3 : w.cell? ⟨b, 3, none⟩ = some (.slice A l.length c) := by simpa using z.cell 3 _ rfl
  have c4 : w.cell? ⟨b, 4, none⟩ = some (.int .i64 (nx : Int)) := by simpa using z.cell 4 _ rfl
  have c5 : w.cell? ⟨b, 5, none⟩ = some (.int .i64 (rs : Int)) := by simpa using z.cell 5 _ rfl
  have f4 : w.frozen? ⟨b, 4, none⟩ = false := by simpa using (z.there 4 (by simp [rkC])).2
  have f5 : w.frozen? ⟨b, 5, none⟩ = false := by simpa using (z.there 5 (by simp [rkC])).2
  have H := Lib.hid k
  clear k z r
  go_enter Tryz.func19, Tryz.ntmps19
  go_wp2_with fail
  go_ret
  exact ⟨rfl, tn_refl _ _, H.out⟩
set_option maxRecDepth 100000 in
theorem rskip_hi (b : Nat) (N : Nat → Prop) (hN : N b) (who sd h : Int) (l : List Nat) (nx rs : Nat) (hl : l.length ≤ 256) (hn : nx ≤ l.length) (hr : rs ≤ l.length) (n : Int) (hi : (nx : Int) ≤ n) (hj : (l.length : Int) < n) (w : World) (k : RkAt w b N who sd h l nx rs) :
    Calls Tryz.prog 19 #[.pointer (some ⟨b, 0, none⟩), .int .i64 n] w fun e w' => e = .returned (.int .i64 1) ∧ Tn b w w' ∧ RkAt w' b N who sd h l nx rs := by
  obtain ⟨A, c, z, r⟩ := k.out
  have c3 : w.cell? ⟨b, 3, none⟩ = some (.slice A l.length c) := by simpa using z.cell 3 _ rfl
  have c4 : w.cell? ⟨b, 4, none⟩ = some (.int .i64 (nx : Int)) := by simpa using z.cell 4 _ rfl
  have c5 : w.cell? ⟨b, 5, none⟩ = some (.int .i64 (rs : Int)) := by simpa using z.cell 5 _ rfl
  have f4 : w.frozen? ⟨b, 4, none⟩ = false := by simpa using (z.there 4 (by simp [rkC])).2
  have f5 : w.frozen? ⟨b, 5, none⟩ = false := by simpa using (z.there 5 (by simp [rkC])).2
  have H := Lib.hid k
  clear k z r
  have q1 : ¬ n < (nx : Int) := by omega
  go_enter Tryz.func19, Tryz.ntmps19
  go_wp2_with fail
  go_ret
  exact ⟨rfl, tn_refl _ _, H.out⟩
set_option maxRecDepth 100000 in
theorem rskip_up (b : Nat) (N : Nat → Prop) (hN : N b) (who sd h : Int) (l : List Nat) (nx rs : Nat) (hl : l.length ≤ 256) (hn : nx ≤ l.length) (hr : rs ≤ l.length) (n : Nat) (hi : nx ≤ n) (hj : n ≤ l.length) (hk : rs < n) (w : World) (k : RkAt w b N who sd h l nx rs) :
    Calls Tryz.prog 19 #[.pointer (some ⟨b, 0, none⟩), .int .i64 (n : Int)] w fun e w' => e = .returned (.int .i64 0) ∧ Tn b w w' ∧ RkAt w' b N who sd h l n n := by
  obtain ⟨A, c, z, r⟩ := k.out
  have c3 : w.cell? ⟨b, 3, none⟩ = some (.slice A l.length c) := by simpa using z.cell 3 _ rfl
  have c4 : w.cell? ⟨b, 4, none⟩ = some (.int .i64 (nx : Int)) := by simpa using z.cell 4 _ rfl
  have c5 : w.cell? ⟨b, 5, none⟩ = some (.int .i64 (rs : Int)) := by simpa using z.cell 5 _ rfl
  have f4 : w.frozen? ⟨b, 4, none⟩ = false := by simpa using (z.there 4 (by simp [rkC])).2
  have f5 : w.frozen? ⟨b, 5, none⟩ = false := by simpa using (z.there 5 (by simp [rkC])).2
  have H := Lib.hid k
  clear k z r
  have q1 : ¬ (n : Int) < (nx : Int) := by omega
  have q2 : ¬ (l.length : Int) < (n : Int) := by omega
  have q3 : (rs : Int) < (n : Int) := by omega
  go_enter Tryz.func19, Tryz.ntmps19
  go_wp2_with fail
  go_ret
  exact ⟨rfl, tn_set (tn_set (tn_refl _ _) (p := ⟨b, 4, none⟩) (.inl rfl) _) (p := ⟨b, 5, none⟩) (.inl rfl) _, (H.out.set4 hN n).set5 hN n⟩
set_option maxRecDepth 100000 in
theorem rskip_in (b : Nat) (N : Nat → Prop) (hN : N b) (who sd h : Int) (l : List Nat) (nx rs : Nat) (hl : l.length ≤ 256) (hn : nx ≤ l.length) (hr : rs ≤ l.length) (n : Nat) (hi : nx ≤ n) (hj : n ≤ l.length) (hk : n ≤ rs) (w : World) (k : RkAt w b N who sd h l nx rs) :
    Calls Tryz.prog 19 #[.pointer (some ⟨b, 0, none⟩), .int .i64 (n : Int)] w fun e w' => e = .returned (.int .i64 0) ∧ Tn b w w' ∧ RkAt w' b N who sd h l n rs := by
  obtain ⟨A, c, z, r⟩ := k.out
  have c3 : w.cell? ⟨b, 3, none⟩ = some (.slice A l.length c) := by simpa using z.cell 3 _ rfl
  have c4 : w.cell? ⟨b, 4, none⟩ = some (.int .i64 (nx : Int)) := by simpa using z.cell 4 _ rfl
  have c5 : w.cell? ⟨b, 5, none⟩ = some (.int .i64 (rs : Int)) := by simpa using z.cell 5 _ rfl
  have f4 : w.frozen? ⟨b, 4, none⟩ = false := by simpa using (z.there 4 (by simp [rkC])).2
  have f5 : w.frozen? ⟨b, 5, none⟩ = false := by simpa using (z.there 5 (by simp [rkC])).2
  have H := Lib.hid k
  clear k z r
  have q1 : ¬ (n : Int) < (nx : Int) := by omega
  have q2 : ¬ (l.length : Int) < (n : Int) := by omega
  have q3 : ¬ (rs : Int) < (n : Int) := by omega
  go_enter Tryz.func19, Tryz.ntmps19
  go_wp2_with fail
  go_ret
  exact ⟨rfl, tn_set (tn_refl _ _) (p := ⟨b, 4, none⟩) (.inl rfl) _, H.out.set4 hN n⟩
set_option maxRecDepth 100000 in
theorem rkroot_ok (b : Nat) (N : Nat → Prop) (who sd h : Int) (l : List Nat) (nx rs : Nat) (hl : l.length ≤ 256) (hk : leavesOk l.length = true) (hb : ∀ n ∈ l, n < 18446744073709551616) (w : World) (k : RkAt w b N who sd h l nx rs) :
    Calls Tryz.prog 24 #[.pointer (some ⟨b, 0, none⟩)] w fun e w' => e = .returned (.int .u64 (rootN l : Nat)) ∧ Grew w w' := by
  obtain ⟨A, c, z, r⟩ := k.out
  have c3 : w.cell? ⟨b, 3, none⟩ = some (.slice A l.length c) := by simpa using z.cell 3 _ rfl
  have C := Lib.hid (refroot_ok A c w.heap.size l (by omega) hk hb w r.rd (Nat.le_refl _))
  clear k z r
  go_enter Tryz.func24, Tryz.ntmps24
  go_wp2_with (go_at_call 44; refine (C.out).mono ?_; rintro e w1 ⟨rfl, g1⟩)
  go_ret
  exact ⟨rfl, g1⟩
end Go.Proofs.YtpgbfglfgcidaaaGreatDoor

namespace Go.Proofs.YtpgbfglfgcidaaaGreatDoor
set_option linter.unusedSimpArgs false
set_option linter.unusedVariables false
open Go.RowKit
set_option linter.unusedVariables false
set_option linter.unusedSimpArgs false
set_option maxRecDepth 100000 in
theorem rg_zero : Tryz.prog.built 45 [] = some (#[.int .i64 0, .int .i64 0, .int .u64 0, .int .u64 0, .int .u64 0, .int .u64 0, .int .u64 0, .int .u64 0, .int .u64 0, .int .u64 0, .int .u64 0, .int .u64 0, .int .u64 0, .int .u64 0, .int .u64 0, .int .u64 0, .int .u64 0, .int .u64 0, .int .u64 0, .int .u64 0, .slice none 0 0]) := by kernel_rfl
theorem alloc_rsig (w : World) : Ag (w.alloc (.cells (#[.int .i64 0, .int .i64 0, .int .u64 0, .int .u64 0, .int .u64 0, .int .u64 0, .int .u64 0, .int .u64 0, .int .u64 0, .int .u64 0, .int .u64 0, .int .u64 0, .int .u64 0, .int .u64 0, .int .u64 0, .int .u64 0, .int .u64 0, .int .u64 0, .int .u64 0, .int .u64 0, .slice none 0 0]) 45)) w.heap.size (#[.int .i64 0, .int .i64 0, .int .u64 0, .int .u64 0, .int .u64 0, .int .u64 0, .int .u64 0, .int .u64 0, .int .u64 0, .int .u64 0, .int .u64 0, .int .u64 0, .int .u64 0, .int .u64 0, .int .u64 0, .int .u64 0, .int .u64 0, .int .u64 0, .int .u64 0, .int .u64 0, .slice none 0 0]).toList := Ag.new _ _ _
set_option maxRecDepth 100000 in
set_option maxHeartbeats 2000000 in
theorem rsign_spent (b : Nat) (N : Nat → Prop) (hN : N b) (who sd h : Int) (l : List Nat) (nx rs : Nat) (hl : l.length ≤ 256) (hn : nx ≤ l.length) (hr : rs ≤ l.length) (d : Int) (hq : nx = l.length) (w : World) (k : RkAt w b N who sd h l nx rs) :
    Calls Tryz.prog 13 #[.pointer (some ⟨b, 0, none⟩), .int .u64 d] w fun e w' => e = .returned (.tuple #[.agg (#[.int .i64 0, .int .i64 0, .int .u64 0, .int .u64 0, .int .u64 0, .int .u64 0, .int .u64 0, .int .u64 0, .int .u64 0, .int .u64 0, .int .u64 0, .int .u64 0, .int .u64 0, .int .u64 0, .int .u64 0, .int .u64 0, .int .u64 0, .int .u64 0, .int .u64 0, .int .u64 0, .slice none 0 0]), .int .i64 14]) ∧ Grew w w' := by
  obtain ⟨A0, c0, zk, rk⟩ := k.out
  have g0 := grew_alloc (grew_refl w) (.cells (#[.int .i64 0, .int .i64 0, .int .u64 0, .int .u64 0, .int .u64 0, .int .u64 0, .int .u64 0, .int .u64 0, .int .u64 0, .int .u64 0, .int .u64 0, .int .u64 0, .int .u64 0, .int .u64 0, .int .u64 0, .int .u64 0, .int .u64 0, .int .u64 0, .int .u64 0, .int .u64 0, .slice none 0 0]) 45)
  have z0 := alloc_rsig w
  have zk1 := zk.grew g0
  have hur := Tryz.underlying45
  have bz : ∀ W, (Instr.build 45 #[]).run Tryz.prog W = .ok (.agg (#[.int .i64 0, .int .i64 0, .int .u64 0, .int .u64 0, .int .u64 0, .int .u64 0, .int .u64 0, .int .u64 0, .int .u64 0, .int .u64 0, .int .u64 0, .int .u64 0, .int .u64 0, .int .u64 0, .int .u64 0, .int .u64 0, .int .u64 0, .int .u64 0, .int .u64 0, .int .u64 0, .slice none 0 0])) W := fun W => run_build W 45 #[] _ rg_zero
  have hn0 : (0 : Int) ≤ (nx : Int) := by omega
  obtain ⟨w1, hw1⟩ : ∃ w1, w.alloc (.cells (#[.int .i64 0, .int .i64 0, .int .u64 0, .int .u64 0, .int .u64 0, .int .u64 0, .int .u64 0, .int .u64 0, .int .u64 0, .int .u64 0, .int .u64 0, .int .u64 0, .int .u64 0, .int .u64 0, .int .u64 0, .int .u64 0, .int .u64 0, .int .u64 0, .int .u64 0, .int .u64 0, .slice none 0 0]) 45) = w1 := ⟨_, rfl⟩
  rw [hw1] at g0 z0 zk1
  have HW1 := Lib.hid hw1
  clear hw1 k
  have c3 : w1.cell? ⟨b, 3, none⟩ = some (.slice A0 l.length c0) := by simpa using zk1.cell 3 _ rfl
  have c4 : w1.cell? ⟨b, 4, none⟩ = some (.int .i64 (nx : Int)) := by simpa using zk1.cell 4 _ rfl
  have c5 : w1.cell? ⟨b, 5, none⟩ = some (.int .i64 (rs : Int)) := by simpa using zk1.cell 5 _ rfl
  have hge : (l.length : Int) ≤ (nx : Int) := by omega
  clear zk zk1 rk hq
  go_enter Tryz.func13, Tryz.ntmps13
  go_wp2_with fail
  rw [HW1.out]
  go_quiet (fail)
  have z2 := z0.grew (grew_drewN (grew_refl w1) nq)
  have g2 := grew_trans g0 (grew_drewN (grew_refl w1) nq)
  clear c3 c4 c5 z0 g0
  generalize w1.drewN nq = w2 at *
  go_wp2_with (first
    | (refine wpList_store_mid rfl 45 (.tmp 4) (.tmp 19) rfl w.heap.size 0 (#[.int .i64 0, .int .i64 0, .int .u64 0, .int .u64 0, .int .u64 0, .int .u64 0, .int .u64 0, .int .u64 0, .int .u64 0, .int .u64 0, .int .u64 0, .int .u64 0, .int .u64 0, .int .u64 0, .int .u64 0, .int .u64 0, .int .u64 0, .int .u64 0, .int .u64 0, .int .u64 0, .slice none 0 0]) rfl rfl (z2.thereN 21 rfl) rg_info (by simp [Value.oneCell']) ?_; have z3 := Ag.set (vs := (#[.int .i64 0, .int .i64 0, .int .u64 0, .int .u64 0, .int .u64 0, .int .u64 0, .int .u64 0, .int .u64 0, .int .u64 0, .int .u64 0, .int .u64 0, .int .u64 0, .int .u64 0, .int .u64 0, .int .u64 0, .int .u64 0, .int .u64 0, .int .u64 0, .int .u64 0, .int .u64 0, .slice none 0 0]).toList) z2 rfl; have g3 := setCells_grew (o := 0) (b := w.heap.size) (#[.int .i64 0, .int .i64 0, .int .u64 0, .int .u64 0, .int .u64 0, .int .u64 0, .int .u64 0, .int .u64 0, .int .u64 0, .int .u64 0, .int .u64 0, .int .u64 0, .int .u64 0, .int .u64 0, .int .u64 0, .int .u64 0, .int .u64 0, .int .u64 0, .int .u64 0, .int .u64 0, .slice none 0 0]).toList g2 (Nat.le_refl _)))
  exact bodyPost_ret (results_ag2 Tryz.results13 _ _ w.heap.size _ _ _ rfl rfl z3 hur rfl rg_info) rfl ⟨rfl, g3⟩
set_option maxRecDepth 100000 in
set_option maxHeartbeats 2000000 in
theorem rsign_state (b : Nat) (N : Nat → Prop) (hN : N b) (who sd h : Int) (l : List Nat) (nx rs : Nat) (hl : l.length ≤ 256) (hn : nx ≤ l.length) (hr : rs ≤ l.length) (d : Int) (hq : nx < l.length) (hs : rs ≤ nx) (w : World) (k : RkAt w b N who sd h l nx rs) :
    Calls Tryz.prog 13 #[.pointer (some ⟨b, 0, none⟩), .int .u64 d] w fun e w' => e = .returned (.tuple #[.agg (#[.int .i64 0, .int .i64 0, .int .u64 0, .int .u64 0, .int .u64 0, .int .u64 0, .int .u64 0, .int .u64 0, .int .u64 0, .int .u64 0, .int .u64 0, .int .u64 0, .int .u64 0, .int .u64 0, .int .u64 0, .int .u64 0, .int .u64 0, .int .u64 0, .int .u64 0, .int .u64 0, .slice none 0 0]), .int .i64 16]) ∧ Grew w w' := by
  obtain ⟨A0, c0, zk, rk⟩ := k.out
  have g0 := grew_alloc (grew_refl w) (.cells (#[.int .i64 0, .int .i64 0, .int .u64 0, .int .u64 0, .int .u64 0, .int .u64 0, .int .u64 0, .int .u64 0, .int .u64 0, .int .u64 0, .int .u64 0, .int .u64 0, .int .u64 0, .int .u64 0, .int .u64 0, .int .u64 0, .int .u64 0, .int .u64 0, .int .u64 0, .int .u64 0, .slice none 0 0]) 45)
  have z0 := alloc_rsig w
  have zk1 := zk.grew g0
  have hur := Tryz.underlying45
  have bz : ∀ W, (Instr.build 45 #[]).run Tryz.prog W = .ok (.agg (#[.int .i64 0, .int .i64 0, .int .u64 0, .int .u64 0, .int .u64 0, .int .u64 0, .int .u64 0, .int .u64 0, .int .u64 0, .int .u64 0, .int .u64 0, .int .u64 0, .int .u64 0, .int .u64 0, .int .u64 0, .int .u64 0, .int .u64 0, .int .u64 0, .int .u64 0, .int .u64 0, .slice none 0 0])) W := fun W => run_build W 45 #[] _ rg_zero
  have hn0 : (0 : Int) ≤ (nx : Int) := by omega
  obtain ⟨w1, hw1⟩ : ∃ w1, w.alloc (.cells (#[.int .i64 0, .int .i64 0, .int .u64 0, .int .u64 0, .int .u64 0, .int .u64 0, .int .u64 0, .int .u64 0, .int .u64 0, .int .u64 0, .int .u64 0, .int .u64 0, .int .u64 0, .int .u64 0, .int .u64 0, .int .u64 0, .int .u64 0, .int .u64 0, .int .u64 0, .int .u64 0, .slice none 0 0]) 45) = w1 := ⟨_, rfl⟩
  rw [hw1] at g0 z0 zk1
  have HW1 := Lib.hid hw1
  clear hw1 k
  have c3 : w1.cell? ⟨b, 3, none⟩ = some (.slice A0 l.length c0) := by simpa using zk1.cell 3 _ rfl
  have c4 : w1.cell? ⟨b, 4, none⟩ = some (.int .i64 (nx : Int)) := by simpa using zk1.cell 4 _ rfl
  have c5 : w1.cell? ⟨b, 5, none⟩ = some (.int .i64 (rs : Int)) := by simpa using zk1.cell 5 _ rfl
  have hge : ¬ (l.length : Int) ≤ (nx : Int) := by omega
  have hge2 : (rs : Int) ≤ (nx : Int) := by omega
  clear zk rk hq hs
  go_enter Tryz.func13, Tryz.ntmps13
  go_wp2_with fail
  rw [HW1.out]
  go_quiet (fail)
  have z2 := z0.grew (grew_drewN (grew_refl w1) nq)
  have zk2 := zk1.grew (grew_drewN (grew_refl w1) nq)
  have g2 := grew_trans g0 (grew_drewN (grew_refl w1) nq)
  clear c3 c4 c5 z0 zk1 g0
  generalize w1.drewN nq = w2 at *
  have c4 : w2.cell? ⟨b, 4, none⟩ = some (.int .i64 (nx : Int)) := by simpa using zk2.cell 4 _ rfl
  have c5 : w2.cell? ⟨b, 5, none⟩ = some (.int .i64 (rs : Int)) := by simpa using zk2.cell 5 _ rfl
  go_wp2_with fail
  go_quiet (fail)
  have z3 := z2.grew (grew_drewN (grew_refl w2) nq)
  have zk3 := zk2.grew (grew_drewN (grew_refl w2) nq)
  have g3 := grew_trans g2 (grew_drewN (grew_refl w2) nq)
  clear c4 c5 z2 zk2 g2
  generalize w2.drewN nq = w3 at *
  go_wp2_with (first
    | (refine wpList_store_mid rfl 45 (.tmp 4) (.tmp 29) rfl w.heap.size 0 (#[.int .i64 0, .int .i64 0, .int .u64 0, .int .u64 0, .int .u64 0, .int .u64 0, .int .u64 0, .int .u64 0, .int .u64 0, .int .u64 0, .int .u64 0, .int .u64 0, .int .u64 0, .int .u64 0, .int .u64 0, .int .u64 0, .int .u64 0, .int .u64 0, .int .u64 0, .int .u64 0, .slice none 0 0]) rfl rfl (z3.thereN 21 rfl) rg_info (by simp [Value.oneCell']) ?_; have z4 := Ag.set (vs := (#[.int .i64 0, .int .i64 0, .int .u64 0, .int .u64 0, .int .u64 0, .int .u64 0, .int .u64 0, .int .u64 0, .int .u64 0, .int .u64 0, .int .u64 0, .int .u64 0, .int .u64 0, .int .u64 0, .int .u64 0, .int .u64 0, .int .u64 0, .int .u64 0, .int .u64 0, .int .u64 0, .slice none 0 0]).toList) z3 rfl; have g4 := setCells_grew (o := 0) (b := w.heap.size) (#[.int .i64 0, .int .i64 0, .int .u64 0, .int .u64 0, .int .u64 0, .int .u64 0, .int .u64 0, .int .u64 0, .int .u64 0, .int .u64 0, .int .u64 0, .int .u64 0, .int .u64 0, .int .u64 0, .int .u64 0, .int .u64 0, .int .u64 0, .int .u64 0, .int .u64 0, .int .u64 0, .slice none 0 0]).toList g3 (Nat.le_refl _)))
  exact bodyPost_ret (results_ag2 Tryz.results13 _ _ w.heap.size _ _ _ rfl rfl z4 hur rfl rg_info) rfl ⟨rfl, g4⟩
set_option maxRecDepth 100000 in
set_option maxHeartbeats 2000000 in
theorem rsign_ok (b : Nat) (N : Nat → Prop) (hN : N b) (who sd h : Int) (l : List Nat) (nx rs : Nat) (hl : l.length ≤ 256) (hn : nx ≤ l.length) (hr : rs ≤ l.length) (d : Int) (hq : nx < l.length) (hs : nx < rs) (hkk : leavesOk l.length = true) (hbb : ∀ n ∈ l, n < 18446744073709551616) (hsd : U64 sd) (hd : U64 d) (w : World) (k : RkAt w b N who sd h l nx rs) :
    Calls Tryz.prog 13 #[.pointer (some ⟨b, 0, none⟩), .int .u64 d] w fun e w' => (∃ A c, e = .returned (.tuple #[.agg (sgC who nx (signF (secN sd nx) d.toNat) (.slice A (pathN l nx).length c)), .int .i64 0]) ∧ Rd w' w'.heap.size A (u64L (pathN l nx)) ∧ (∀ ad, A = some ad → w.heap.size ≤ ad.block)) ∧ Tn b w w' ∧ RkAt w' b N who sd h l (nx + 1) rs := by
  obtain ⟨A0, c0, zk, rk⟩ := k.out
  have g0 := grew_alloc (grew_refl w) (.cells (#[.int .i64 0, .int .i64 0, .int .u64 0, .int .u64 0, .int .u64 0, .int .u64 0, .int .u64 0, .int .u64 0, .int .u64 0, .int .u64 0, .int .u64 0, .int .u64 0, .int .u64 0, .int .u64 0, .int .u64 0, .int .u64 0, .int .u64 0, .int .u64 0, .int .u64 0, .int .u64 0, .slice none 0 0]) 45)
  have z0 := alloc_rsig w
  have zk1 := zk.grew g0
  have hur := Tryz.underlying45
  have bz : ∀ W, (Instr.build 45 #[]).run Tryz.prog W = .ok (.agg (#[.int .i64 0, .int .i64 0, .int .u64 0, .int .u64 0, .int .u64 0, .int .u64 0, .int .u64 0, .int .u64 0, .int .u64 0, .int .u64 0, .int .u64 0, .int .u64 0, .int .u64 0, .int .u64 0, .int .u64 0, .int .u64 0, .int .u64 0, .int .u64 0, .int .u64 0, .int .u64 0, .slice none 0 0])) W := fun W => run_build W 45 #[] _ rg_zero
  have hn0 : (0 : Int) ≤ (nx : Int) := by omega
  obtain ⟨w1, hw1⟩ : ∃ w1, w.alloc (.cells (#[.int .i64 0, .int .i64 0, .int .u64 0, .int .u64 0, .int .u64 0, .int .u64 0, .int .u64 0, .int .u64 0, .int .u64 0, .int .u64 0, .int .u64 0, .int .u64 0, .int .u64 0, .int .u64 0, .int .u64 0, .int .u64 0, .int .u64 0, .int .u64 0, .int .u64 0, .int .u64 0, .slice none 0 0]) 45) = w1 := ⟨_, rfl⟩
  rw [hw1] at g0 z0 zk1
  have HW1 := Lib.hid hw1
  clear hw1 k
  have c3 : w1.cell? ⟨b, 3, none⟩ = some (.slice A0 l.length c0) := by simpa using zk1.cell 3 _ rfl
  have c4 : w1.cell? ⟨b, 4, none⟩ = some (.int .i64 (nx : Int)) := by simpa using zk1.cell 4 _ rfl
  have c5 : w1.cell? ⟨b, 5, none⟩ = some (.int .i64 (rs : Int)) := by simpa using zk1.cell 5 _ rfl
  have hge : ¬ (l.length : Int) ≤ (nx : Int) := by omega
  have hge2 : ¬ (rs : Int) ≤ (nx : Int) := by omega
  have CS := Lib.hid (fun W => rsecrets_any sd nx hsd ⟨by omega, by omega⟩ W)
  have CG := Lib.hid (fun W => rsign_any (secN sd nx) d W (fun k _ => secN_lt _ _ _) hd)
  have HK := Lib.hid hkk
  have HB := Lib.hid hbb
  have hnx : (nx : Int) < 256 := by omega
  have hbw : b < w.heap.size := zk.lt
  have HRK := Lib.hid rk
  clear zk rk hkk hbb hsd hd
  go_enter Tryz.func13, Tryz.ntmps13
  go_wp2_with fail
  rw [HW1.out]
  go_quiet (fail)
  have z2 := z0.grew (grew_drewN (grew_refl w1) nq)
  have zk2 := zk1.grew (grew_drewN (grew_refl w1) nq)
  have g2 := grew_trans g0 (grew_drewN (grew_refl w1) nq)
  clear c3 c4 c5 z0 zk1 g0
  generalize w1.drewN nq = w2 at *
  have c4 : w2.cell? ⟨b, 4, none⟩ = some (.int .i64 (nx : Int)) := by simpa using zk2.cell 4 _ rfl
  have c5 : w2.cell? ⟨b, 5, none⟩ = some (.int .i64 (rs : Int)) := by simpa using zk2.cell 5 _ rfl
  go_wp2_with fail
  go_quiet (fail)
  have z3 := z2.grew (grew_drewN (grew_refl w2) nq)
  have zk3 := zk2.grew (grew_drewN (grew_refl w2) nq)
  have g3 := grew_trans g2 (grew_drewN (grew_refl w2) nq)
  clear c4 c5 z2 zk2 g2
  generalize w2.drewN nq = w3 at *
  have HZ3 := Lib.hid z3.lt
  have d1 : decide (l.length ≤ nx) = false := decide_eq_false (by omega)
  have d2 : decide (rs ≤ nx) = false := decide_eq_false (by omega)
  go_wp2_with fail
  try rw [d1]
  try rw [d2]
  clear d1 d2 hge hge2
  have HC3 : Hid (∀ y, Grew w3 y → y.cell? ⟨b, 3, none⟩ = some (.slice A0 l.length c0)) := Lib.hid (fun y g => by simpa using (zk3.grew g).cell 3 _ rfl)
  have HC4 : Hid (∀ y, Grew w3 y → y.cell? ⟨b, 4, none⟩ = some (.int .i64 (nx : Int))) := Lib.hid (fun y g => by simpa using (zk3.grew g).cell 4 _ rfl)
  have HRR : Hid (∀ y, Grew w3 y → Rd y y.heap.size A0 (u64L l)) := Lib.hid (fun y g => (HRK.out.rd.gr g3).gr g)
  refine wp_region_rel 13 (fun i => match i with
      | 0 => fun v _ => v = .pointer (some ⟨b, 0, none⟩)
      | 1 => fun v _ => v = .pointer (some ⟨b, 0, none⟩)
      | 2 => fun v _ => v = .pointer (some ⟨b, 3, none⟩)
      | 3 => fun v _ => v = .slice A0 l.length c0
      | 4 => fun v _ => v = .pointer (some ⟨b, 0, none⟩)
      | 5 => fun v _ => v = .pointer (some ⟨b, 0, none⟩)
      | 6 => fun v _ => v = .pointer (some ⟨b, 4, none⟩)
      | 7 => fun v _ => v = .int .i64 (nx : Int)
      | 8 => fun v w => PT w w3.heap.size (pathN l nx) 0 v
      | 9 => fun v w => PT w w3.heap.size (pathN l nx) 0 v
      | 10 => fun v w => PV w w3.heap.size (pathN l nx) v
      | 11 => fun v _ => v = .int .i64 0
      | 12 => fun v w => PV w w3.heap.size (pathN l nx) v
      | _ => fun _ _ => True) (by kernel_rfl) (by kernel_rfl) ?_ ?_ ?_
  · intro i v x y h hg
    match i, h with
    | 0, h | 1, h | 2, h | 3, h | 4, h | 5, h | 6, h | 7, h | 11, h => exact h
    | 8, h => exact PT.gr h hg
    | 9, h => exact PT.gr h hg
    | 10, h => exact PV.gr h hg
    | 12, h => exact PV.gr h hg
    | m + 13, _ => trivial
  · refine ⟨?_, ?_, ?_, ?_, ?_, ?_, ?_, ?_, ?_, ?_, ?_, ?_, ?_, trivial⟩
    · intro vs y hg hd
      simp only [actOf, List.take_succ_cons, List.take_zero, List.drop_succ_cons, List.drop_zero, Act.put, List.setIfInBounds_toArray, List.set_cons_succ, List.set_cons_zero, Nat.reduceAdd]
      go_wp2_with fail
      exact ⟨rfl, _, rfl, grew_refl _, rfl⟩
    · intro vs y hg hd
      obtain ⟨h0, _⟩ := hd
      replace h0 := h0 rfl
      simp only [actOf, List.take_succ_cons, List.take_zero, List.drop_succ_cons, List.drop_zero, Act.put, List.setIfInBounds_toArray, List.set_cons_succ, List.set_cons_zero, Nat.reduceAdd]
      rw [show vs 0 = _ from h0]
      go_wp2_with fail
      exact ⟨rfl, _, rfl, grew_refl _, rfl⟩
    · intro vs y hg hd
      obtain ⟨h1, _⟩ := hd
      replace h1 := h1 rfl
      simp only [actOf, List.take_succ_cons, List.take_zero, List.drop_succ_cons, List.drop_zero, Act.put, List.setIfInBounds_toArray, List.set_cons_succ, List.set_cons_zero, Nat.reduceAdd]
      rw [show vs 1 = _ from h1]
      go_wp2_with fail
      exact ⟨rfl, _, rfl, grew_refl _, rfl⟩
    · intro vs y hg hd
      obtain ⟨h2, _⟩ := hd
      replace h2 := h2 rfl
      simp only [actOf, List.take_succ_cons, List.take_zero, List.drop_succ_cons, List.drop_zero, Act.put, List.setIfInBounds_toArray, List.set_cons_succ, List.set_cons_zero, Nat.reduceAdd]
      rw [show vs 2 = _ from h2]
      have hc := HC3.out y hg
      go_wp2_with fail
      exact ⟨rfl, _, rfl, grew_refl _, rfl⟩
    · intro vs y hg hd
      simp only [actOf, List.take_succ_cons, List.take_zero, List.drop_succ_cons, List.drop_zero, Act.put, List.setIfInBounds_toArray, List.set_cons_succ, List.set_cons_zero, Nat.reduceAdd]
      go_wp2_with fail
      exact ⟨rfl, _, rfl, grew_refl _, rfl⟩
    · intro vs y hg hd
      obtain ⟨h4, _⟩ := hd
      replace h4 := h4 rfl
      simp only [actOf, List.take_succ_cons, List.take_zero, List.drop_succ_cons, List.drop_zero, Act.put, List.setIfInBounds_toArray, List.set_cons_succ, List.set_cons_zero, Nat.reduceAdd]
      rw [show vs 4 = _ from h4]
      go_wp2_with fail
      exact ⟨rfl, _, rfl, grew_refl _, rfl⟩
    · intro vs y hg hd
      obtain ⟨h5, _⟩ := hd
      replace h5 := h5 rfl
      simp only [actOf, List.take_succ_cons, List.take_zero, List.drop_succ_cons, List.drop_zero, Act.put, List.setIfInBounds_toArray, List.set_cons_succ, List.set_cons_zero, Nat.reduceAdd]
      rw [show vs 5 = _ from h5]
      go_wp2_with fail
      exact ⟨rfl, _, rfl, grew_refl _, rfl⟩
    · intro vs y hg hd
      obtain ⟨h6, _⟩ := hd
      replace h6 := h6 rfl
      simp only [actOf, List.take_succ_cons, List.take_zero, List.drop_succ_cons, List.drop_zero, Act.put, List.setIfInBounds_toArray, List.set_cons_succ, List.set_cons_zero, Nat.reduceAdd]
      rw [show vs 6 = _ from h6]
      have hc := HC4.out y hg
      go_wp2_with fail
      exact ⟨rfl, _, rfl, grew_refl _, rfl⟩
    · intro vs y hg hd
      obtain ⟨h3, h7, _⟩ := hd
      replace h3 := h3 rfl
      replace h7 := h7 rfl
      simp only [actOf, List.take_succ_cons, List.take_zero, List.drop_succ_cons, List.drop_zero, Act.put, List.setIfInBounds_toArray, List.set_cons_succ, List.set_cons_zero, Nat.reduceAdd]
      rw [show vs 3 = _ from h3, show vs 7 = _ from h7]
      have hrr := HRR.out y hg
      go_wp2_with (go_at_call 40; refine (refpath_ok A0 c0 y.heap.size l nx hq (by omega) HK.out HB.out y hrr (Nat.le_refl _)).mono ?_; rintro e z ⟨A, c, rfl, hr9, hb9, gz⟩)
      exact ⟨rfl, _, rfl, gz, ⟨A, c, rfl, hr9, fun ad h => Nat.le_trans hg.size (hb9 ad h)⟩⟩
    · intro vs y hg hd
      obtain ⟨h8, _⟩ := hd
      replace h8 := h8 rfl
      simp only [actOf, List.take_succ_cons, List.take_zero, List.drop_succ_cons, List.drop_zero, Act.put, List.setIfInBounds_toArray, List.set_cons_succ, List.set_cons_zero, Nat.reduceAdd]
      go_wp2_with fail
      exact ⟨rfl, _, rfl, grew_refl _, h8⟩
    · intro vs y hg hd
      obtain ⟨h9, _⟩ := hd
      replace h9 := h9 rfl
      simp only [actOf, List.take_succ_cons, List.take_zero, List.drop_succ_cons, List.drop_zero, Act.put, List.setIfInBounds_toArray, List.set_cons_succ, List.set_cons_zero, Nat.reduceAdd]
      obtain ⟨A, c, hv, hr9, hb9⟩ := PT.out h9
      rw [hv]
      go_wp2_with fail
      exact ⟨rfl, _, rfl, grew_refl _, ⟨A, c, rfl, hr9, hb9⟩⟩
    · intro vs y hg hd
      obtain ⟨h9, _⟩ := hd
      replace h9 := h9 rfl
      simp only [actOf, List.take_succ_cons, List.take_zero, List.drop_succ_cons, List.drop_zero, Act.put, List.setIfInBounds_toArray, List.set_cons_succ, List.set_cons_zero, Nat.reduceAdd]
      obtain ⟨A, c, hv, hr9, hb9⟩ := PT.out h9
      rw [hv]
      go_wp2_with fail
      exact ⟨rfl, _, rfl, grew_refl _, rfl⟩
    · intro vs y hg hd
      obtain ⟨h10, _⟩ := hd
      replace h10 := h10 rfl
      simp only [actOf, List.take_succ_cons, List.take_zero, List.drop_succ_cons, List.drop_zero, Act.put, List.setIfInBounds_toArray, List.set_cons_succ, List.set_cons_zero, Nat.reduceAdd]
      go_wp2_with fail
      exact ⟨rfl, _, rfl, grew_refl _, h10⟩
  · intro vs y hg hJ
    have j0 : vs 0 = .pointer (some ⟨b, 0, none⟩) := hJ 0 (by decide)
    have j1 : vs 1 = .pointer (some ⟨b, 0, none⟩) := hJ 1 (by decide)
    have j2 : vs 2 = .pointer (some ⟨b, 3, none⟩) := hJ 2 (by decide)
    have j3 : vs 3 = .slice A0 l.length c0 := hJ 3 (by decide)
    have j4 : vs 4 = .pointer (some ⟨b, 0, none⟩) := hJ 4 (by decide)
    have j5 : vs 5 = .pointer (some ⟨b, 0, none⟩) := hJ 5 (by decide)
    have j6 : vs 6 = .pointer (some ⟨b, 4, none⟩) := hJ 6 (by decide)
    have j7 : vs 7 = .int .i64 (nx : Int) := hJ 7 (by decide)
    have j11 : vs 11 = .int .i64 0 := hJ 11 (by decide)
    have s39 := hJ 8 (by decide)
    have s30 := hJ 9 (by decide)
    have s40 := hJ 10 (by decide)
    have s6 := hJ 12 (by decide)
    clear hJ
    simp only [actOf, List.take_succ_cons, List.take_zero, List.drop_succ_cons, List.drop_zero, Act.put, List.setIfInBounds_toArray, List.set_cons_succ, List.set_cons_zero, Nat.reduceAdd]
    obtain ⟨A, c, j12, hr9, hb9⟩ := PV.out (show PV y w3.heap.size (pathN l nx) (vs 12) from s6)
    rw [j12, j11]
    clear j0 j1 j2 j3 j4 j5 j6 j7 j12 j11 s39 s30 s40 s6 HC3 HC4 HRR
    have zk4 := zk3.grew hg
    have z4 := z3.grew hg
    have g4 := grew_trans g3 hg
    have HQQ := Lib.hid hg.size
    have OQ := Lib.hid hb9
    clear zk3 z3 g3 hg hb9
    generalize y = w4 at *
    go_wp2_with fail
    have HD0 : Hid (∀ y, Grew w4 y → y.cell? ⟨b, 0, none⟩ = some (.int .i64 who)) := Lib.hid (fun y g => by simpa using (zk4.grew g).cell 0 _ rfl)
    have HD1 : Hid (∀ y, Grew w4 y → y.cell? ⟨b, 1, none⟩ = some (.int .u64 sd)) := Lib.hid (fun y g => by simpa using (zk4.grew g).cell 1 _ rfl)
    have HD4 : Hid (∀ y, Grew w4 y → y.cell? ⟨b, 4, none⟩ = some (.int .i64 (nx : Int))) := Lib.hid (fun y g => by simpa using (zk4.grew g).cell 4 _ rfl)
    refine wp_region_rel 22 (fun i => match i with
        | 0 => fun v _ => v = .pointer (some ⟨b, 0, none⟩)
        | 1 => fun v _ => v = .pointer (some ⟨b, 0, none⟩)
        | 2 => fun v _ => v = .pointer (some ⟨b, 0, none⟩)
        | 3 => fun v _ => v = .int .i64 who
        | 4 => fun v _ => v = .pointer (some ⟨b, 0, none⟩)
        | 5 => fun v _ => v = .pointer (some ⟨b, 0, none⟩)
        | 6 => fun v _ => v = .pointer (some ⟨b, 4, none⟩)
        | 7 => fun v _ => v = .int .i64 (nx : Int)
        | 8 => fun v _ => v = .pointer (some ⟨b, 0, none⟩)
        | 9 => fun v _ => v = .pointer (some ⟨b, 0, none⟩)
        | 10 => fun v _ => v = .pointer (some ⟨b, 1, none⟩)
        | 11 => fun v _ => v = .int .u64 sd
        | 12 => fun v _ => v = .pointer (some ⟨b, 0, none⟩)
        | 13 => fun v _ => v = .pointer (some ⟨b, 0, none⟩)
        | 14 => fun v _ => v = .pointer (some ⟨b, 4, none⟩)
        | 15 => fun v _ => v = .int .i64 (nx : Int)
        | 16 => fun v _ => v = .agg (arrU (secN sd nx))
        | 17 => fun v _ => v = .int .u64 d
        | 18 => fun v _ => v = .agg (arrU (signF (secN sd nx) d.toNat))
        | 19 => fun v _ => v = .slice A (pathN l nx).length c
        | 20 => fun v _ => v = .agg (sgC who nx (signF (secN sd nx) d.toNat) (.slice A (pathN l nx).length c))
        | 21 => fun v w => NewAg w w4.heap.size (#[.int .i64 0, .int .i64 0, .int .u64 0, .int .u64 0, .int .u64 0, .int .u64 0, .int .u64 0, .int .u64 0, .int .u64 0, .int .u64 0, .int .u64 0, .int .u64 0, .int .u64 0, .int .u64 0, .int .u64 0, .int .u64 0, .int .u64 0, .int .u64 0, .int .u64 0, .int .u64 0, .slice none 0 0]).toList v
        | _ => fun _ _ => True) (by kernel_rfl) (by kernel_rfl) ?_ ?_ ?_
    · intro i v x y h hg
      match i, h with
      | 0, h | 1, h | 2, h | 3, h | 4, h | 5, h | 6, h | 7, h | 8, h | 9, h | 10, h | 11, h | 12, h | 13, h | 14, h | 15, h | 16, h | 17, h | 18, h | 19, h | 20, h => exact h
      | 21, h => exact NewAg.gr h hg
      | m + 22, _ => trivial
    · refine ⟨?_, ?_, ?_, ?_, ?_, ?_, ?_, ?_, ?_, ?_, ?_, ?_, ?_, ?_, ?_, ?_, ?_, ?_, ?_, ?_, ?_, ?_, trivial⟩
      · intro vs y hg hd
        simp only [actOf, List.take_succ_cons, List.take_zero, List.drop_succ_cons, List.drop_zero, Act.put, List.setIfInBounds_toArray, List.set_cons_succ, List.set_cons_zero, Nat.reduceAdd]
        go_wp2_with fail
        exact ⟨rfl, _, rfl, grew_refl _, rfl⟩
      · intro vs y hg hd
        obtain ⟨h0, _⟩ := hd
        replace h0 := h0 rfl
        simp only [actOf, List.take_succ_cons, List.take_zero, List.drop_succ_cons, List.drop_zero, Act.put, List.setIfInBounds_toArray, List.set_cons_succ, List.set_cons_zero, Nat.reduceAdd]
        rw [show vs 0 = _ from h0]
        go_wp2_with fail
        exact ⟨rfl, _, rfl, grew_refl _, rfl⟩
      · intro vs y hg hd
        obtain ⟨h1, _⟩ := hd
        replace h1 := h1 rfl
        simp only [actOf, List.take_succ_cons, List.take_zero, List.drop_succ_cons, List.drop_zero, Act.put, List.setIfInBounds_toArray, List.set_cons_succ, List.set_cons_zero, Nat.reduceAdd]
        rw [show vs 1 = _ from h1]
        go_wp2_with fail
        exact ⟨rfl, _, rfl, grew_refl _, rfl⟩
      · intro vs y hg hd
        obtain ⟨h2, _⟩ := hd
        replace h2 := h2 rfl
        simp only [actOf, List.take_succ_cons, List.take_zero, List.drop_succ_cons, List.drop_zero, Act.put, List.setIfInBounds_toArray, List.set_cons_succ, List.set_cons_zero, Nat.reduceAdd]
        rw [show vs 2 = _ from h2]
        have hc := HD0.out y hg
        go_wp2_with fail
        exact ⟨rfl, _, rfl, grew_refl _, rfl⟩
      · intro vs y hg hd
        simp only [actOf, List.take_succ_cons, List.take_zero, List.drop_succ_cons, List.drop_zero, Act.put, List.setIfInBounds_toArray, List.set_cons_succ, List.set_cons_zero, Nat.reduceAdd]
        go_wp2_with fail
        exact ⟨rfl, _, rfl, grew_refl _, rfl⟩
      · intro vs y hg hd
        obtain ⟨h4, _⟩ := hd
        replace h4 := h4 rfl
        simp only [actOf, List.take_succ_cons, List.take_zero, List.drop_succ_cons, List.drop_zero, Act.put, List.setIfInBounds_toArray, List.set_cons_succ, List.set_cons_zero, Nat.reduceAdd]
        rw [show vs 4 = _ from h4]
        go_wp2_with fail
        exact ⟨rfl, _, rfl, grew_refl _, rfl⟩
      · intro vs y hg hd
        obtain ⟨h5, _⟩ := hd
        replace h5 := h5 rfl
        simp only [actOf, List.take_succ_cons, List.take_zero, List.drop_succ_cons, List.drop_zero, Act.put, List.setIfInBounds_toArray, List.set_cons_succ, List.set_cons_zero, Nat.reduceAdd]
        rw [show vs 5 = _ from h5]
        go_wp2_with fail
        exact ⟨rfl, _, rfl, grew_refl _, rfl⟩
      · intro vs y hg hd
        obtain ⟨h6, _⟩ := hd
        replace h6 := h6 rfl
        simp only [actOf, List.take_succ_cons, List.take_zero, List.drop_succ_cons, List.drop_zero, Act.put, List.setIfInBounds_toArray, List.set_cons_succ, List.set_cons_zero, Nat.reduceAdd]
        rw [show vs 6 = _ from h6]
        have hc := HD4.out y hg
        go_wp2_with fail
        exact ⟨rfl, _, rfl, grew_refl _, rfl⟩
      · intro vs y hg hd
        simp only [actOf, List.take_succ_cons, List.take_zero, List.drop_succ_cons, List.drop_zero, Act.put, List.setIfInBounds_toArray, List.set_cons_succ, List.set_cons_zero, Nat.reduceAdd]
        go_wp2_with fail
        exact ⟨rfl, _, rfl, grew_refl _, rfl⟩
      · intro vs y hg hd
        obtain ⟨h8, _⟩ := hd
        replace h8 := h8 rfl
        simp only [actOf, List.take_succ_cons, List.take_zero, List.drop_succ_cons, List.drop_zero, Act.put, List.setIfInBounds_toArray, List.set_cons_succ, List.set_cons_zero, Nat.reduceAdd]
        rw [show vs 8 = _ from h8]
        go_wp2_with fail
        exact ⟨rfl, _, rfl, grew_refl _, rfl⟩
      · intro vs y hg hd
        obtain ⟨h9, _⟩ := hd
        replace h9 := h9 rfl
        simp only [actOf, List.take_succ_cons, List.take_zero, List.drop_succ_cons, List.drop_zero, Act.put, List.setIfInBounds_toArray, List.set_cons_succ, List.set_cons_zero, Nat.reduceAdd]
        rw [show vs 9 = _ from h9]
        go_wp2_with fail
        exact ⟨rfl, _, rfl, grew_refl _, rfl⟩
      · intro vs y hg hd
        obtain ⟨h10, _⟩ := hd
        replace h10 := h10 rfl
        simp only [actOf, List.take_succ_cons, List.take_zero, List.drop_succ_cons, List.drop_zero, Act.put, List.setIfInBounds_toArray, List.set_cons_succ, List.set_cons_zero, Nat.reduceAdd]
        rw [show vs 10 = _ from h10]
        have hc := HD1.out y hg
        go_wp2_with fail
        exact ⟨rfl, _, rfl, grew_refl _, rfl⟩
      · intro vs y hg hd
        simp only [actOf, List.take_succ_cons, List.take_zero, List.drop_succ_cons, List.drop_zero, Act.put, List.setIfInBounds_toArray, List.set_cons_succ, List.set_cons_zero, Nat.reduceAdd]
        go_wp2_with fail
        exact ⟨rfl, _, rfl, grew_refl _, rfl⟩
      · intro vs y hg hd
        obtain ⟨h12, _⟩ := hd
        replace h12 := h12 rfl
        simp only [actOf, List.take_succ_cons, List.take_zero, List.drop_succ_cons, List.drop_zero, Act.put, List.setIfInBounds_toArray, List.set_cons_succ, List.set_cons_zero, Nat.reduceAdd]
        rw [show vs 12 = _ from h12]
        go_wp2_with fail
        exact ⟨rfl, _, rfl, grew_refl _, rfl⟩
      · intro vs y hg hd
        obtain ⟨h13, _⟩ := hd
        replace h13 := h13 rfl
        simp only [actOf, List.take_succ_cons, List.take_zero, List.drop_succ_cons, List.drop_zero, Act.put, List.setIfInBounds_toArray, List.set_cons_succ, List.set_cons_zero, Nat.reduceAdd]
        rw [show vs 13 = _ from h13]
        go_wp2_with fail
        exact ⟨rfl, _, rfl, grew_refl _, rfl⟩
      · intro vs y hg hd
        obtain ⟨h14, _⟩ := hd
        replace h14 := h14 rfl
        simp only [actOf, List.take_succ_cons, List.take_zero, List.drop_succ_cons, List.drop_zero, Act.put, List.setIfInBounds_toArray, List.set_cons_succ, List.set_cons_zero, Nat.reduceAdd]
        rw [show vs 14 = _ from h14]
        have hc := HD4.out y hg
        go_wp2_with fail
        exact ⟨rfl, _, rfl, grew_refl _, rfl⟩
      · intro vs y hg hd
        obtain ⟨h11, h15, _⟩ := hd
        replace h11 := h11 rfl
        replace h15 := h15 rfl
        simp only [actOf, List.take_succ_cons, List.take_zero, List.drop_succ_cons, List.drop_zero, Act.put, List.setIfInBounds_toArray, List.set_cons_succ, List.set_cons_zero, Nat.reduceAdd]
        rw [show vs 11 = _ from h11, show vs 15 = _ from h15]
        go_wp2_with (go_at_call 37; refine (CS.out y).mono ?_; rintro e z ⟨rfl, gz⟩)
        exact ⟨rfl, _, rfl, gz, rfl⟩
      · intro vs y hg hd
        simp only [actOf, List.take_succ_cons, List.take_zero, List.drop_succ_cons, List.drop_zero, Act.put, List.setIfInBounds_toArray, List.set_cons_succ, List.set_cons_zero, Nat.reduceAdd]
        go_wp2_with fail
        exact ⟨rfl, _, rfl, grew_refl _, rfl⟩
      · intro vs y hg hd
        obtain ⟨h16, h17, _⟩ := hd
        replace h16 := h16 rfl
        replace h17 := h17 rfl
        simp only [actOf, List.take_succ_cons, List.take_zero, List.drop_succ_cons, List.drop_zero, Act.put, List.setIfInBounds_toArray, List.set_cons_succ, List.set_cons_zero, Nat.reduceAdd]
        rw [show vs 16 = _ from h16, show vs 17 = _ from h17]
        go_wp2_with (go_at_call 41; refine (CG.out y).mono ?_; rintro e z ⟨rfl, gz⟩)
        exact ⟨rfl, _, rfl, gz, rfl⟩
      · intro vs y hg hd
        simp only [actOf, List.take_succ_cons, List.take_zero, List.drop_succ_cons, List.drop_zero, Act.put, List.setIfInBounds_toArray, List.set_cons_succ, List.set_cons_zero, Nat.reduceAdd]
        go_wp2_with fail
        exact ⟨rfl, _, rfl, grew_refl _, rfl⟩
      · intro vs y hg hd
        obtain ⟨h3, h7, h18, h19, _⟩ := hd
        replace h3 := h3 rfl
        replace h7 := h7 rfl
        replace h18 := h18 rfl
        replace h19 := h19 rfl
        simp only [actOf, List.take_succ_cons, List.take_zero, List.drop_succ_cons, List.drop_zero, Act.put, List.setIfInBounds_toArray, List.set_cons_succ, List.set_cons_zero, Nat.reduceAdd]
        rw [show vs 3 = _ from h3, show vs 7 = _ from h7, show vs 18 = _ from h18, show vs 19 = _ from h19]
        have hbu := rg_built who nx (signF (secN sd nx) d.toNat) A (pathN l nx).length c
        generalize arrU (signF (secN sd nx) d.toNat) = aa at *
        refine wpList_build_is rfl 45 #[(0, .tmp 45), (1, .tmp 49), (2, .tmp 60), (3, .tmp 61)] rfl _ (by simpa [Act.eval] using hbu) ?_
        go_wp2_with fail
        exact ⟨rfl, _, rfl, grew_refl _, rfl⟩
      · intro vs y hg hd
        simp only [actOf, List.take_succ_cons, List.take_zero, List.drop_succ_cons, List.drop_zero, Act.put, List.setIfInBounds_toArray, List.set_cons_succ, List.set_cons_zero, Nat.reduceAdd]
        have zz := alloc_rsig y
        go_wp2_with fail
        exact ⟨rfl, _, rfl, grew_alloc (grew_refl _) _, ⟨_, rfl, zz, hg.size⟩⟩
    · intro vs y hg hJ
      have j0 : vs 0 = .pointer (some ⟨b, 0, none⟩) := hJ 0 (by decide)
      have j1 : vs 1 = .pointer (some ⟨b, 0, none⟩) := hJ 1 (by decide)
      have j2 : vs 2 = .pointer (some ⟨b, 0, none⟩) := hJ 2 (by decide)
      have j3 : vs 3 = .int .i64 who := hJ 3 (by decide)
      have j4 : vs 4 = .pointer (some ⟨b, 0, none⟩) := hJ 4 (by decide)
      have j5 : vs 5 = .pointer (some ⟨b, 0, none⟩) := hJ 5 (by decide)
      have j6 : vs 6 = .pointer (some ⟨b, 4, none⟩) := hJ 6 (by decide)
      have j7 : vs 7 = .int .i64 (nx : Int) := hJ 7 (by decide)
      have j8 : vs 8 = .pointer (some ⟨b, 0, none⟩) := hJ 8 (by decide)
      have j9 : vs 9 = .pointer (some ⟨b, 0, none⟩) := hJ 9 (by decide)
      have j10 : vs 10 = .pointer (some ⟨b, 1, none⟩) := hJ 10 (by decide)
      have j11 : vs 11 = .int .u64 sd := hJ 11 (by decide)
      have j12 : vs 12 = .pointer (some ⟨b, 0, none⟩) := hJ 12 (by decide)
      have j13 : vs 13 = .pointer (some ⟨b, 0, none⟩) := hJ 13 (by decide)
      have j14 : vs 14 = .pointer (some ⟨b, 4, none⟩) := hJ 14 (by decide)
      have j15 : vs 15 = .int .i64 (nx : Int) := hJ 15 (by decide)
      have j16 : vs 16 = .agg (arrU (secN sd nx)) := hJ 16 (by decide)
      have j17 : vs 17 = .int .u64 d := hJ 17 (by decide)
      have j18 : vs 18 = .agg (arrU (signF (secN sd nx) d.toNat)) := hJ 18 (by decide)
      have j19 : vs 19 = .slice A (pathN l nx).length c := hJ 19 (by decide)
      have j20 : vs 20 = .agg (sgC who nx (signF (secN sd nx) d.toNat) (.slice A (pathN l nx).length c)) := hJ 20 (by decide)
      have s8 := hJ 21 (by decide)
      clear hJ
      simp only [actOf, List.take_succ_cons, List.take_zero, List.drop_succ_cons, List.drop_zero, Act.put, List.setIfInBounds_toArray, List.set_cons_succ, List.set_cons_zero, Nat.reduceAdd]
      obtain ⟨q, j21, zq, hq3⟩ := NewAg.out (show NewAg y w4.heap.size (#[.int .i64 0, .int .i64 0, .int .u64 0, .int .u64 0, .int .u64 0, .int .u64 0, .int .u64 0, .int .u64 0, .int .u64 0, .int .u64 0, .int .u64 0, .int .u64 0, .int .u64 0, .int .u64 0, .int .u64 0, .int .u64 0, .int .u64 0, .int .u64 0, .int .u64 0, .int .u64 0, .slice none 0 0]).toList (vs 21) from s8)
      rw [j21, j20]
      clear j0 j1 j2 j3 j4 j5 j6 j7 j8 j9 j10 j11 j12 j13 j14 j15 j16 j17 j18 j19 j20 j21 s8
      have zk5 := zk4.grew hg
      have z5 := z4.grew hg
      have hw4 := z4.lt
      have hqy : q < y.heap.size := zq.lt
      have gy := grew_trans g4 hg
      have B9 : ∀ ad, A = some ad → w.heap.size < ad.block := fun ad h => by have := OQ.out ad h; have := HZ3.out; omega
      have B9 := Lib.hid B9
      refine wpList_store_mid rfl 45 (.tmp 8) (.tmp 62) rfl q 0 (sgC who nx (signF (secN sd nx) d.toNat) (.slice A (pathN l nx).length c)) rfl rfl (zq.thereN 21 rfl) rg_info (sgC_one _ _ _ _ _ _) ?_
      have zq5 := Ag.set (vs := (sgC who nx (signF (secN sd nx) d.toNat) (.slice A (pathN l nx).length c)).toList) zq rfl
      have K5 := setCells_kp (sgC who nx (signF (secN sd nx) d.toNat) (.slice A (pathN l nx).length c)).toList q 0 y
      have zk6 := zk5.kp K5 (by show ¬ b = q; omega)
      have z6 := z5.other (b' := q) (o := 0) (vs := (sgC who nx (signF (secN sd nx) d.toNat) (.slice A (pathN l nx).length c)).toList) (by omega)
      have r5 := (hr9.below hg).kp K5 hg.size (fun ad h1 h2 h3 => by have h3 : ad.block = q := h3; omega)
      have t5 := tn_kp (tn_grew (g := b) gy) K5 (fun i hi => .inr (by have hi : i = q := hi; omega))
      have s5 := Nat.le_trans hg.size K5.size
      clear zq K5 zk4 z4 hqy
      generalize y.setCells q 0 (sgC who nx (signF (secN sd nx) d.toNat) (.slice A (pathN l nx).length c)).toList = w5 at *
      have e1 : IntKind.i64.wrap ((nx : Int) + 1) = ((nx + 1 : Nat) : Int) := by rw [IntWalk.i64_in _ (by omega)]; omega
      have cc4 : w5.cell? ⟨b, 4, none⟩ = some (.int .i64 (nx : Int)) := by simpa using zk6.cell 4 _ rfl
      have cf4 : w5.frozen? ⟨b, 4, none⟩ = false := by simpa using (zk6.there 4 (by simp [rkC])).2
      have K6 := kp_set (S := fun j => j = b) (kp_refl _ w5) (p := ⟨b, 4, none⟩) (.inl rfl) (.int .i64 ((nx + 1 : Nat) : Int))
      have zk7 : Ag (w5.setCell ⟨b, 4, none⟩ (.int .i64 ((nx + 1 : Nat) : Int))) b (rkC who sd h (.slice A0 l.length c0) (nx + 1) rs) := Ag.set1 zk6 4 (.int .i64 ((nx + 1 : Nat) : Int)) (by simp [rkC])
      have zq6 := zq5.kp K6 (by show ¬ q = b; omega)
      have z7 := z6.kp K6 (by show ¬ w.heap.size = b; omega)
      have r6 := r5.kp K6 s5 (fun ad h1 h2 h3 => by have h3 : ad.block = b := h3; have := B9.out ad h1; omega)
      have t6 := tn_set (p := ⟨b, 4, none⟩) t5 (.inl rfl) (.int .i64 ((nx + 1 : Nat) : Int))
      have s6 := Nat.le_trans s5 K6.size
      clear K6 zk5 zk6 z5 z6 r5 t5 zq5
      go_wp2_with (first
        | (refine wpList_load_mid rfl 45 (.tmp 8) rfl q 0 rfl (sgC who nx (signF (secN sd nx) d.toNat) (.slice A (pathN l nx).length c)).toList _ zq6.cell hur rfl rg_info ?_)
        | (refine wpList_store_mid rfl 45 (.tmp 4) (.tmp 70) rfl w.heap.size 0 (sgC who nx (signF (secN sd nx) d.toNat) (.slice A (pathN l nx).length c)) rfl rfl (z7.thereN 21 rfl) rg_info (sgC_one _ _ _ _ _ _) ?_; have z8 := Ag.set (vs := (sgC who nx (signF (secN sd nx) d.toNat) (.slice A (pathN l nx).length c)).toList) z7 rfl; have K7 := setCells_kp (sgC who nx (signF (secN sd nx) d.toNat) (.slice A (pathN l nx).length c)).toList w.heap.size 0 (w5.setCell ⟨b, 4, none⟩ (.int .i64 ((nx + 1 : Nat) : Int)))))
      have zk8 := zk7.kp K7 (by show ¬ b = w.heap.size; omega)
      have r7 := r6.kp K7 s6 (fun ad h1 h2 h3 => by have h3 : ad.block = w.heap.size := h3; have := B9.out ad h1; omega)
      have t7 := tn_kp t6 K7 (fun i hi => .inr (by have hi : i = w.heap.size := hi; omega))
      have s7 := Nat.le_trans s6 K7.size
      exact bodyPost_ret (results_ag2 Tryz.results13 _ _ w.heap.size _ _ _ rfl rfl z8 hur rfl rg_info) rfl ⟨⟨A, c, rfl, r7.more s7, fun ad h => by have := B9.out ad h; omega⟩, t7, ⟨A0, c0, zk8, HRK.out.kp (kp_tn t7) (fun i e => e ▸ hN)⟩⟩
end Go.Proofs.YtpgbfglfgcidaaaGreatDoor
