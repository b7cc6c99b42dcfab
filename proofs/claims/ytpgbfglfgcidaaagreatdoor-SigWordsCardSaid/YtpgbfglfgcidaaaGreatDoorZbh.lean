/- KeyHolds. -/
import Derived.Test.YtpgbfglfgcidaaaGreatDoorZbg
import Derived.Test.YtpgbfglfgcidaaaGreatDoorZar
import Derived.Test.YtpgbfglfgcidaaaGreatDoorZbf
import Derived.Test.YtpgbfglfgcidaaaGreatDoorZbe
import Derived.Test.YtpgbfglfgcidaaaGreatDoorZai
import Derived.Test.YtpgbfglfgcidaaaGreatDoorZav
namespace Go.Proofs.YtpgbfglfgcidaaaGreatDoor
set_option linter.unusedSimpArgs false
set_option linter.unusedVariables false
open Go.RowKit
set_option linter.unusedVariables false
set_option linter.unusedSimpArgs false
theorem Ag.set1 {w : World} {b : Nat} {cs : List Value} (h : Ag w b cs) (j : Nat) (v : Value) (hj : j < cs.length) : Ag (w.setCell ⟨b, j, none⟩ v) b (cs.set j v) := by
  have ht : w.there b j [v].length := fun i hi => by
    have : i = 0 := by simpa using hi
    subst this
    simpa using h.there j hj
  have hs := World.rangeAt_setCells_same w b j [v] ht
  have e : w.setCells b j [v] = w.setCell ⟨b, j, none⟩ v := rfl
  refine ⟨fun i x hx => ?_, fun i hi => ⟨?_, ?_⟩, Nat.lt_of_lt_of_le h.lt (by rw [← e]; exact (setCells_kp [v] b j w).size)⟩
  · by_cases hij : i = j
    · subst hij
      rw [List.getElem?_set_self hj] at hx
      cases hx
      rw [← e]
      simpa using hs 0 v rfl
    · rw [List.getElem?_set_ne (Ne.symm hij)] at hx
      rw [show (w.setCell ⟨b, j, none⟩ v).cell? ⟨b, 0 + i, none⟩ = w.cell? ⟨b, 0 + i, none⟩ from World.cell?_setCell_other w _ _ v (fun e => by injection e; omega)]
      exact h.cell i x hx
  · rw [← e]
    exact World.isSome_setCells b [v] j w _ (h.there i (by simpa using hi)).1
  · rw [← e, World.frozen?_setCells]
    exact (h.there i (by simpa using hi)).2
theorem sgC_leaf (who leaf leaf' : Int) (s : Nat → Nat) (pv : Value) : (sgC who leaf s pv).toList.set 1 (.int .i64 leaf') = (sgC who leaf' s pv).toList := rfl
theorem ver_pow (sd : Int) (h : Nat) (hh : h ≤ 8) (m : Nat) (d : Int) (hd : 0 ≤ d) (hm : m < 2 ^ h) : vrS (rootN (pubsL sd (2 ^ h))) (m : Int) (signF (secN sd (m : Int)) d.toNat) (pathN (pubsL sd (2 ^ h)) m) d (h : Int) = true := by
  have hl : (pubsL sd (2 ^ h)).length = 2 ^ h := pubsL_length sd _
  obtain ⟨h1, h2⟩ := path_pow h hh (pubsL sd (2 ^ h)) m hl (by rw [hl]; omega)
  have h3 : (pubsL sd (2 ^ h)).getD m 0 = pubN (secN sd (m : Int)) := by simp [pubsL, List.getD, hm]
  rw [h3] at h2
  have hp : ((2 ^ h : Nat) : Int) = (2 : Int) ^ h := by simp
  unfold vrS
  rw [rec_sign, verN_yes (by rw [h1]; exact ⟨hh, by omega, by rw [← hp]; omega⟩), Int.toNat_natCast, h2, h1]
  simp
theorem path_len (sd : Int) (h : Nat) (hh : h ≤ 8) (m : Nat) (hm : m < 2 ^ h) : (pathN (pubsL sd (2 ^ h)) m).length = h := by
  have hl : (pubsL sd (2 ^ h)).length = 2 ^ h := pubsL_length sd _
  exact (path_pow h hh (pubsL sd (2 ^ h)) m hl (by rw [hl]; omega)).1
set_option maxRecDepth 100000 in
set_option maxHeartbeats 4000000 in
theorem keyHolds_law (seed : Int) (hsd : U64 seed) (y : Int) (hy : 0 ≤ y ∧ y ≤ 255) (A : Option Addr) (c : Nat) (l : List Int) (hz : ∀ z ∈ l, U64 z) (w : World) (hS : Std w) (hr : Rd w w.heap.size A (l.map (Value.int .u64))) (hlm : l.length ≤ 9223372036854775807) :
    Calls Tryz.prog 4 #[.int .u64 seed, .int .u8 y, .slice A l.length c] w fun e w' => e = .returned (.bool true) ∧ Grew w w' := by
  have CK := Lib.hid (kknown_ok w hS)
  clear hS
  by_cases hbig : 40 < l.length
  · have hbi : (40 : Int) < (l.length : Int) := by omega
    go_enter Tryz.func4, Tryz.ntmps4
    go_wp2_with (go_at_call 9; refine (CK.out).mono ?_; rintro e w1 ⟨rfl, hg1⟩)
    go_ret
    exact ⟨rfl, hg1⟩
  · have hbi : ¬ (40 : Int) < (l.length : Int) := by omega
    have HR := Lib.hid hr
    have HU := Lib.hid hz
    have hl40 : l.length ≤ 40 := by omega
    have hus := Tryz.underlying39
    have HZI : Hid ((Tryz.prog.info? 39).map (·.size) = some (#[.int .i64 0, .int .i64 0, .int .u64 0, .int .u64 0, .int .u64 0, .int .u64 0, .int .u64 0, .int .u64 0, .int .u64 0, .int .u64 0, .int .u64 0, .int .u64 0, .int .u64 0, .int .u64 0, .int .u64 0, .int .u64 0, .int .u64 0, .int .u64 0, .int .u64 0, .int .u64 0, .slice none 0 0] : Array Value).size) := Lib.hid sg_info
    have HZO : Hid ((#[.int .i64 0, .int .i64 0, .int .u64 0, .int .u64 0, .int .u64 0, .int .u64 0, .int .u64 0, .int .u64 0, .int .u64 0, .int .u64 0, .int .u64 0, .int .u64 0, .int .u64 0, .int .u64 0, .int .u64 0, .int .u64 0, .int .u64 0, .int .u64 0, .int .u64 0, .int .u64 0, .slice none 0 0] : Array Value).all (·.oneCell') = true) := Lib.hid (by simp [Value.oneCell'])
    obtain ⟨h, hh, hh6⟩ : ∃ h : Nat, y % 6 = (h : Int) ∧ h < 6 := ⟨(y % 6).toNat, by omega, by omega⟩
    have CN := Lib.hid (fun W => knew_ok 1 seed h (by decide) (by omega) hsd W)
    have hn1 : 1 ≤ 2 ^ h := Nat.one_le_two_pow
    have hn : 2 ^ h ≤ 256 := by
      have : 2 ^ h ≤ 2 ^ 8 := Nat.pow_le_pow_right (by decide) (by omega)
      simpa using this
    have hlv0 : leavesOk (2 ^ h) = true := leaves_pow ⟨h, by omega⟩
    obtain ⟨P, hP⟩ : ∃ P, P = pubsL seed (2 ^ h) := ⟨_, rfl⟩
    rw [← hP] at CN
    have HV : Hid (∀ m : Nat, m < 2 ^ h → ∀ d : Int, 0 ≤ d → vrS (rootN P) (m : Int) (signF (secN seed (m : Int)) d.toNat) (pathN P m) d (h : Int) = true) := Lib.hid (by rw [hP]; exact fun m hm d hd => ver_pow seed h (by omega) m d hd hm)
    have H4 : Hid (∀ m : Nat, m < 2 ^ h → (pathN P m).length = h) := Lib.hid (by rw [hP]; exact fun m hm => path_len seed h (by omega) m hm)
    have hl2 : P.length = 2 ^ h := by rw [hP]; exact pubsL_length _ _
    have hlv : leavesOk P.length = true := by rw [hl2]; exact hlv0
    have hlt : ∀ x ∈ P, x < 18446744073709551616 := by rw [hP]; exact pubsL_lt seed _
    have HLV := Lib.hid hlv
    have HLT := Lib.hid hlt
    have HSD := Lib.hid hsd
    have e2 : wrap64 ((2 : Int) ^ h) = ((2 ^ h : Nat) : Int) := by
      have : ((2 : Int) ^ h) = ((2 ^ h : Nat) : Int) := by simp
      rw [this]
      generalize 2 ^ h = n at *
      unfold wrap64; omega
    have h0 : (0 : Int) ≤ (h : Int) := by omega
    have h5 : (h : Int) ≤ 5 := by omega
    clear hP hlv hlv0 hlt hsd hr hbig hlm hz
    generalize 2 ^ h = n at *
    go_enter Tryz.func4, Tryz.ntmps4
    go_wp2_with fail
    refine CK.out.mono ?_
    rintro e w1 ⟨rfl, G1⟩
    clear CK
    go_wp2_with fail
    refine (CN.out w1).mono ?_
    rintro e w2 ⟨rfl, gg, K2⟩
    have G2 := grew_trans G1 gg
    have hw1 := G1.size
    obtain ⟨b, hb⟩ : ∃ b, w1.heap.size + 1 = b := ⟨_, rfl⟩
    obtain ⟨p, hp⟩ : ∃ p, w1.heap.size = p := ⟨_, rfl⟩
    rw [hb] at K2 ⊢
    rw [hp] at K2
    have hwb : w.heap.size ≤ b := by omega
    clear hb hp gg G1 CN hw1
    go_wp2_with fail
    rw [e2]
    refine (reserve_ok b p 1 seed P 0 0 (by omega) (by omega) (by omega) n (by omega) (by omega) w2 K2).mono ?_
    rintro e w3 ⟨rfl, tt, K3⟩
    have G3 := grew_tn G2 tt hwb
    rw [Nat.zero_add] at *
    clear K2 G2 tt
    go_wp2_with fail
    go_loopw [11, 12] (fun lv iv wr => ∃ k nx : Nat, k ≤ l.length ∧ nx = min k n ∧ lv = .int .i64 ((nx : Int) - 1) ∧ iv = .int .i64 k ∧ KyAt wr b p 1 seed P nx n ∧ Grew w wr) (fun _ iv _ => l.length - (intOf iv).toNat)
    case atStart => exact ⟨0, 0, Nat.zero_le _, by omega, rfl, rfl, K3, G3⟩
    case round =>
      clear K3 G3
      obtain ⟨k, nx, hk, hnx, rfl, rfl, K, G⟩ := hrel
      have hk0 : (0 : Int) ≤ (k : Int) := by omega
      by_cases hlt : k < l.length
      · have hk1 : (k : Int) < (l.length : Int) := by omega
        have e1 : IntKind.i64.wrap ((k : Int) + 1) = ((k + 1 : Nat) : Int) := by rw [IntWalk.i64_in _ (by omega)]; omega
        have hzu := HU.out (l[k]'hlt) (List.getElem_mem hlt)
        have HC : Hid (∃ ad, A = some ad ∧ ∀ W, Grew w W → W.cell? (ad.add k) = some (.int .u64 (l[k]'hlt))) := Lib.hid (by
          obtain ⟨ad, hA, hbl, hc0⟩ := HR.out k (by simpa using hlt)
          refine ⟨ad, hA, fun W g => ?_⟩
          obtain ⟨ad', hA', _, hc⟩ := (HR.out.grew g) k (by simpa using hlt)
          rw [hA] at hA'
          cases hA'
          simpa using hc)
        obtain ⟨ad, hA, hcell⟩ := HC.out
        subst hA
        clear HC
        generalize l[k]'hlt = z at *
        have HCL := Lib.hid hcell
        clear hcell
        have hc0 := HCL.out wr G
        go_wp2_with fail
        by_cases hkn : n ≤ k
        · obtain rfl : n = nx := by omega
          clear hnx
          have d1 : (n : Int) ≤ (k : Int) := by omega
          refine (sign_spent b p 1 seed P n n (by omega) (by omega) (by omega) z (by omega) wr K).mono ?_
          rintro e w3 ⟨rfl, gg⟩
          have K3 := K.grew gg
          have G3 := grew_trans G gg
          have zt := alloc_sig w3
          have HTH : Hid ((w3.alloc (.cells (#[.int .i64 0, .int .i64 0, .int .u64 0, .int .u64 0, .int .u64 0, .int .u64 0, .int .u64 0, .int .u64 0, .int .u64 0, .int .u64 0, .int .u64 0, .int .u64 0, .int .u64 0, .int .u64 0, .int .u64 0, .int .u64 0, .int .u64 0, .int .u64 0, .int .u64 0, .int .u64 0, .slice none 0 0]) 39)).there w3.heap.size 0 (#[.int .i64 0, .int .i64 0, .int .u64 0, .int .u64 0, .int .u64 0, .int .u64 0, .int .u64 0, .int .u64 0, .int .u64 0, .int .u64 0, .int .u64 0, .int .u64 0, .int .u64 0, .int .u64 0, .int .u64 0, .int .u64 0, .int .u64 0, .int .u64 0, .int .u64 0, .int .u64 0, .slice none 0 0] : Array Value).size) := Lib.hid (zt.thereN 21 rfl)
          have g5 : Grew w3 ((w3.alloc (.cells (#[.int .i64 0, .int .i64 0, .int .u64 0, .int .u64 0, .int .u64 0, .int .u64 0, .int .u64 0, .int .u64 0, .int .u64 0, .int .u64 0, .int .u64 0, .int .u64 0, .int .u64 0, .int .u64 0, .int .u64 0, .int .u64 0, .int .u64 0, .int .u64 0, .int .u64 0, .int .u64 0, .slice none 0 0]) 39)).setCells w3.heap.size 0 (#[.int .i64 0, .int .i64 0, .int .u64 0, .int .u64 0, .int .u64 0, .int .u64 0, .int .u64 0, .int .u64 0, .int .u64 0, .int .u64 0, .int .u64 0, .int .u64 0, .int .u64 0, .int .u64 0, .int .u64 0, .int .u64 0, .int .u64 0, .int .u64 0, .int .u64 0, .int .u64 0, .slice none 0 0] : Array Value).toList) := setCells_grew (o := 0) (b := w3.heap.size) (#[.int .i64 0, .int .i64 0, .int .u64 0, .int .u64 0, .int .u64 0, .int .u64 0, .int .u64 0, .int .u64 0, .int .u64 0, .int .u64 0, .int .u64 0, .int .u64 0, .int .u64 0, .int .u64 0, .int .u64 0, .int .u64 0, .int .u64 0, .int .u64 0, .int .u64 0, .int .u64 0, .slice none 0 0] : Array Value).toList (grew_alloc (grew_refl w3) _) (Nat.le_refl _)
          have K4 := K3.grew g5
          have G4 := grew_trans G3 g5
          clear zt g5 K G gg K3 G3 hc0
          obtain ⟨w4, hw4⟩ : ∃ w4, (w3.alloc (.cells (#[.int .i64 0, .int .i64 0, .int .u64 0, .int .u64 0, .int .u64 0, .int .u64 0, .int .u64 0, .int .u64 0, .int .u64 0, .int .u64 0, .int .u64 0, .int .u64 0, .int .u64 0, .int .u64 0, .int .u64 0, .int .u64 0, .int .u64 0, .int .u64 0, .int .u64 0, .int .u64 0, .slice none 0 0]) 39)).setCells w3.heap.size 0 (#[.int .i64 0, .int .i64 0, .int .u64 0, .int .u64 0, .int .u64 0, .int .u64 0, .int .u64 0, .int .u64 0, .int .u64 0, .int .u64 0, .int .u64 0, .int .u64 0, .int .u64 0, .int .u64 0, .int .u64 0, .int .u64 0, .int .u64 0, .int .u64 0, .int .u64 0, .int .u64 0, .slice none 0 0] : Array Value).toList = w4 := ⟨_, rfl⟩
          rw [hw4] at K4 G4
          have HW4 := Lib.hid hw4
          clear hw4
          go_wp2_with (with_reducible refine wpList_store_mid rfl 39 (.tmp 13) (.tmp 55) rfl w3.heap.size 0 (#[.int .i64 0, .int .i64 0, .int .u64 0, .int .u64 0, .int .u64 0, .int .u64 0, .int .u64 0, .int .u64 0, .int .u64 0, .int .u64 0, .int .u64 0, .int .u64 0, .int .u64 0, .int .u64 0, .int .u64 0, .int .u64 0, .int .u64 0, .int .u64 0, .int .u64 0, .int .u64 0, .slice none 0 0]) rfl rfl HTH.out HZI.out HZO.out ?_; rw [HW4.out])
          go_roundw
          case rel => exact ⟨k + 1, n, by omega, by omega, rfl, by go_num, K4, G4⟩
          case measure => simp [intOf]; omega
        · obtain rfl : k = nx := by omega
          clear hnx
          have d1 : ¬ (n : Int) ≤ (k : Int) := by omega
          have hpx := pathN_lt P k HLT.out
          have HPX := Lib.hid hpx
          have hpl := H4.out k (by omega)
          clear hpx
          refine (sign_ok b p 1 seed P k n (by omega) (by omega) (by omega) z (by omega) (by omega) HLV.out HLT.out HSD.out hzu wr K).mono ?_
          rintro e v4 ⟨⟨A1, c1, rfl, r1, hA1⟩, tt, K4⟩
          have G4 := grew_tn G tt hwb
          clear K G tt hA1 hc0
          obtain ⟨s, hs⟩ : ∃ s, signF (secN seed (k : Int)) z.toNat = s := ⟨_, rfl⟩
          have HST : Hid (∀ j, j < 18 → s j < 18446744073709551616) := Lib.hid (by rw [← hs]; exact fun j hj => signF_lt _ _ _ (secN_lt _ _ _))
          have hv := HV.out k (by omega) z hzu.1
          rw [hs] at hv ⊢
          clear hs
          obtain ⟨pl, hq⟩ : ∃ pl, pathN P k = pl := ⟨_, rfl⟩
          rw [hq] at r1 hpl HPX hv ⊢
          clear hq
          obtain ⟨g1, hg1⟩ : ∃ g, sgC 1 (k : Int) s (.slice A1 pl.length c1) = g := ⟨_, rfl⟩
          have HON1 := Lib.hid (sgC_one 1 (k : Int) s A1 pl.length c1)
          have HSI1 : Hid ((Tryz.prog.info? 39).map (·.size) = some (sgC 1 (k : Int) s (.slice A1 pl.length c1)).size) := Lib.hid sg_info
          have HSL1 : Hid ((Tryz.prog.info? 39).map (·.size) = some (sgC 1 (k : Int) s (.slice A1 pl.length c1)).toList.length) := Lib.hid sg_info
          have HSA1 : Hid ((sgC 1 (k : Int) s (.slice A1 pl.length c1)).toList[0]? = some (.int .i64 1)) := Lib.hid rfl
          have HSB1 : Hid ((sgC 1 (k : Int) s (.slice A1 pl.length c1)).toList[1]? = some (.int .i64 (k : Int))) := Lib.hid rfl
          have HSz1 : Hid ((sgC 1 (k : Int) s (.slice A1 pl.length c1)).size = 21) := Lib.hid rfl
          have CV := Lib.hid (fun W h1 => kverify_ok (rootN P) 1 (k : Int) s A1 c1 pl z h (by omega) ⟨by omega, by omega⟩ HST.out HPX.out hzu W h1)
          have CV2 := Lib.hid (fun (lf : Nat) (hlf : lf < 256) W h1 => kverify_ok (rootN P) 1 (lf : Int) s A1 c1 pl z h (by omega) ⟨by omega, by omega⟩ HST.out HPX.out hzu W h1)
          have CO2 := Lib.hid (fun (lf : Nat) W h1 => kof_ok 1 (lf : Int) s A1 c1 pl (by omega) W h1)
          have CR2 := Lib.hid (fun (lf : Nat) (hlf : lf < 256) A' c' W h1 => refvsig_ok (rootN P) 1 (lf : Int) s A' c' pl z h (by omega) ⟨by omega, by omega⟩ HST.out HPX.out hzu W h1)
          rw [hv] at CV
          clear hpl
          have HG1 := Lib.hid hg1
          rw [hg1] at HON1 HSI1 HSL1 HSA1 HSB1 HSz1 CV ⊢
          clear hg1 hv
          have zt := alloc_sig v4
          have HTH : Hid ((v4.alloc (.cells (#[.int .i64 0, .int .i64 0, .int .u64 0, .int .u64 0, .int .u64 0, .int .u64 0, .int .u64 0, .int .u64 0, .int .u64 0, .int .u64 0, .int .u64 0, .int .u64 0, .int .u64 0, .int .u64 0, .int .u64 0, .int .u64 0, .int .u64 0, .int .u64 0, .int .u64 0, .int .u64 0, .slice none 0 0]) 39)).there v4.heap.size 0 g1.size) := Lib.hid (by rw [HSz1.out]; exact zt.thereN 21 rfl)
          have z5 := Ag.set (vs := g1.toList) zt (by rw [Array.length_toList, HSz1.out]; rfl)
          have g5 : Grew v4 ((v4.alloc (.cells (#[.int .i64 0, .int .i64 0, .int .u64 0, .int .u64 0, .int .u64 0, .int .u64 0, .int .u64 0, .int .u64 0, .int .u64 0, .int .u64 0, .int .u64 0, .int .u64 0, .int .u64 0, .int .u64 0, .int .u64 0, .int .u64 0, .int .u64 0, .int .u64 0, .int .u64 0, .int .u64 0, .slice none 0 0]) 39)).setCells v4.heap.size 0 g1.toList) := setCells_grew (o := 0) (b := v4.heap.size) g1.toList (grew_alloc (grew_refl v4) _) (Nat.le_refl _)
          have K5 := K4.grew g5
          have G5 := grew_trans G4 g5
          have r5 := r1.gr g5
          clear zt g5 K4 G4 r1
          obtain ⟨v5, hv5⟩ : ∃ v5, (v4.alloc (.cells (#[.int .i64 0, .int .i64 0, .int .u64 0, .int .u64 0, .int .u64 0, .int .u64 0, .int .u64 0, .int .u64 0, .int .u64 0, .int .u64 0, .int .u64 0, .int .u64 0, .int .u64 0, .int .u64 0, .int .u64 0, .int .u64 0, .int .u64 0, .int .u64 0, .int .u64 0, .int .u64 0, .slice none 0 0]) 39)).setCells v4.heap.size 0 g1.toList = v5 := ⟨_, rfl⟩
          rw [hv5] at K5 G5 r5 z5
          have HW5 := Lib.hid hv5
          clear hv5
          have d2 : ¬ (k : Int) ≤ (k : Int) - 1 := by omega
          have d3 : decide ((k : Int) ≤ (k : Int) - 1) = false := decide_eq_false d2
          go_wp2_with (with_reducible refine wpList_store_mid rfl 39 (.tmp 13) (.tmp 55) rfl v4.heap.size 0 g1 rfl rfl HTH.out HSI1.out HON1.out ?_; rw [HW5.out]; clear HW5 HTH; generalize v4.heap.size = q1 at *)
          have m0 : ∀ y : Gr v5, y.val.cell? ⟨q1, 0, none⟩ = some (.int .i64 1) := fun y => by simpa using (z5.gr y).cell 0 _ HSA1.out
          have m1 : ∀ y : Gr v5, y.val.cell? ⟨q1, 1, none⟩ = some (.int .i64 (k : Int)) := fun y => by simpa using (z5.gr y).cell 1 _ HSB1.out
          have mc : ∀ y : Gr v5, y.val.cell? (ad.add k) = some (.int .u64 z) := fun y => HCL.out y.val (grew_trans G5 y.ok)
          have mm : Hid (∀ y : Gr v5, y.val.rangeAt q1 0 g1.toList) := Lib.hid (fun y => (z5.gr y).cell)
          have CRT := Lib.hid (fun (y : Gr v5) => keyroot_ok b p 1 seed P (k + 1) n (by omega) HLV.out HLT.out y.val (K5.grew y.ok))
          have CVV := Lib.hid (fun (y : Gr v5) => CV.out y.val (r5.gr y.ok))
          clear CV
          generalize hrt : rootN P = rt at *
          have HRT := Lib.hid hrt
          clear hrt
          refine wp_region_grew (grew_refl v5) (by kernel_rfl) (by kernel_rfl) ?_
          repeat (first
            | (go_big_quiet_want; refine quiet_load_mid 39 (.tmp 13) rfl q1 0 rfl g1.toList _ mm.out hus rfl HSL1.out ?_; simp only [Act.put, List.setIfInBounds_toArray, List.set_cons_succ, List.set_cons_zero, Array.toArray_toList]; go_big_quiet_on)
            | (go_big_quiet_step (first
              | (go_at_call 23; exact callG (CRT.out _))
              | (go_at_call 25; exact callG (CVV.out _)))))
          refine wpQuiet_nil ?_
          rintro w8 ⟨⟨w8', g8⟩, rfl⟩
          have K8 := K5.grew g8
          have G8 := grew_trans G5 g8
          have z8 := z5.grew g8
          have r8 := r5.gr g8
          clear m0 m1 mc mm CRT CVV K5 G5 z5 r5 d2 d3
          have hc0 : w8.cell? ⟨q1, 1, none⟩ = some (.int .i64 (k : Int)) := by simpa using z8.cell 1 _ HSB1.out
          have hm0 := z8.cell

          have zt := alloc_sig w8
          have HTH : Hid ((w8.alloc (.cells (#[.int .i64 0, .int .i64 0, .int .u64 0, .int .u64 0, .int .u64 0, .int .u64 0, .int .u64 0, .int .u64 0, .int .u64 0, .int .u64 0, .int .u64 0, .int .u64 0, .int .u64 0, .int .u64 0, .int .u64 0, .int .u64 0, .int .u64 0, .int .u64 0, .int .u64 0, .int .u64 0, .slice none 0 0]) 39)).there w8.heap.size 0 g1.size) := Lib.hid (by rw [HSz1.out]; exact zt.thereN 21 rfl)
          have z9 := Ag.set (vs := g1.toList) zt (by rw [Array.length_toList, HSz1.out]; rfl)
          have g9 : Grew w8 ((w8.alloc (.cells (#[.int .i64 0, .int .i64 0, .int .u64 0, .int .u64 0, .int .u64 0, .int .u64 0, .int .u64 0, .int .u64 0, .int .u64 0, .int .u64 0, .int .u64 0, .int .u64 0, .int .u64 0, .int .u64 0, .int .u64 0, .int .u64 0, .int .u64 0, .int .u64 0, .int .u64 0, .int .u64 0, .slice none 0 0]) 39)).setCells w8.heap.size 0 g1.toList) := setCells_grew (o := 0) (b := w8.heap.size) g1.toList (grew_alloc (grew_refl w8) _) (Nat.le_refl _)
          have K9 := K8.grew g9
          have G9 := grew_trans G8 g9
          have r9 := r8.gr g9
          have hw8 : w.heap.size ≤ w8.heap.size := G8.size
          have hA8 : ∀ ad, A1 = some ad → ad.block < w8.heap.size ∨ pl.length = 0 := fun ad h => by
            by_cases h0 : pl.length = 0
            · exact .inr h0
            · obtain ⟨ad', e, hb, _⟩ := r8 0 (by simp [u64L]; omega)
              rw [h] at e
              cases e
              exact .inl hb
          have HA8 := Lib.hid hA8
          have hbq : b ≠ w8.heap.size ∧ p ≠ w8.heap.size := ⟨by have := K8.key.lt; omega, by have := K8.pub.lt; omega⟩
          have z1c := z8.grew g9
          clear zt g9 K8 G8 r8 z8 hA8
          obtain ⟨w9, hw9⟩ : ∃ w9, (w8.alloc (.cells (#[.int .i64 0, .int .i64 0, .int .u64 0, .int .u64 0, .int .u64 0, .int .u64 0, .int .u64 0, .int .u64 0, .int .u64 0, .int .u64 0, .int .u64 0, .int .u64 0, .int .u64 0, .int .u64 0, .int .u64 0, .int .u64 0, .int .u64 0, .int .u64 0, .int .u64 0, .int .u64 0, .slice none 0 0]) 39)).setCells w8.heap.size 0 g1.toList = w9 := ⟨_, rfl⟩
          rw [hw9] at K9 G9 r9 z9 z1c
          have HW9 := Lib.hid hw9
          clear hw9
          have hc1 : w9.cell? ⟨q1, 1, none⟩ = some (.int .i64 (k : Int)) := by simpa using z1c.cell 1 _ HSB1.out
          have hcq : w9.cell? ⟨w8.heap.size, 1, none⟩ = some (.int .i64 (k : Int)) := by simpa using z9.cell 1 _ HSB1.out
          have hfq : w9.frozen? ⟨w8.heap.size, 1, none⟩ = false := by simpa using (z9.there 1 (by rw [Array.length_toList, HSz1.out]; omega)).2
          have HSB1' := HSB1
          clear z1c
          go_wp2_with (first
            | (with_reducible refine wpList_load_mid rfl 39 (.tmp 13) rfl q1 0 rfl g1.toList _ hm0 hus rfl HSL1.out ?_; simp only [Array.toArray_toList])
            | (with_reducible refine wpList_store_mid rfl 39 (.tmp 15) (.tmp 89) rfl w8.heap.size 0 g1 rfl rfl HTH.out HSI1.out HON1.out ?_; rw [HW9.out]; clear HW9 HTH)
            | fail)
          obtain ⟨lf, hlf⟩ : ∃ lf : Nat, ((k : Int) + 1) % (n : Int) = (lf : Int) := ⟨(k + 1) % n, by simp⟩
          have hlf2 : lf < 256 := by
            have h1 : ((k : Int) + 1) % (n : Int) < (n : Int) := Int.emod_lt_of_pos _ (by omega)
            omega
          rw [hlf]
          clear hlf hc1 hcq hfq HSB1'
          have z10 := Ag.set1 z9 1 (.int .i64 (lf : Int)) (by rw [Array.length_toList, HSz1.out]; omega)
          rw [← HG1.out, sgC_leaf] at z10
          have tt : Tn w8.heap.size w9 (w9.setCell ⟨w8.heap.size, 1, none⟩ (.int .i64 (lf : Int))) := tn_set (tn_refl _ _) (.inl rfl) _
          have K10 := K9.tn tt hbq.1 hbq.2
          have G10 := grew_tn G9 tt hw8
          have r10 : Rd (w9.setCell ⟨w8.heap.size, 1, none⟩ (.int .i64 (lf : Int))) (w9.setCell ⟨w8.heap.size, 1, none⟩ (.int .i64 (lf : Int))).heap.size A1 (u64L pl) := by
            by_cases h0 : pl.length = 0
            · exact fun j hj => absurd hj (by simp [u64L]; omega)
            · exact (r9.kp (kp_tn tt) (Nat.le_refl _) (fun ad h1 h2 h3 => by
                rcases HA8.out ad h1 with h | h
                · omega
                · exact h0 h)).more tt.size
          clear K9 G9 r9 z9 HA8 hbq tt hw8
          generalize w9.setCell ⟨w8.heap.size, 1, none⟩ (.int .i64 (lf : Int)) = v9 at *
          generalize w8.heap.size = q2 at *
          have CV3 := Lib.hid (fun W h1 => CV2.out lf hlf2 W h1)
          have CO3 := Lib.hid (fun W h1 => CO2.out lf W h1)
          have CR3 := Lib.hid (fun A' c' W h1 => CR2.out lf hlf2 A' c' W h1)
          have HSL2 : Hid ((Tryz.prog.info? 39).map (·.size) = some (sgC 1 (lf : Int) s (.slice A1 pl.length c1)).toList.length) := Lib.hid sg_info
          obtain ⟨g2, hg2⟩ : ∃ g, sgC 1 (lf : Int) s (.slice A1 pl.length c1) = g := ⟨_, rfl⟩
          rw [hg2] at z10 CV3 CO3 HSL2
          clear hg2 CV2 CO2 CR2
          obtain ⟨vb, hvb⟩ : ∃ vb, vrS rt (lf : Int) s pl z (h : Int) = vb := ⟨_, rfl⟩
          rw [hvb] at CV3 CR3
          clear hvb
          have mc : ∀ y : Gr v9, y.val.cell? (ad.add k) = some (.int .u64 z) := fun y => HCL.out y.val (grew_trans G10 y.ok)
          have mm : Hid (∀ y : Gr v9, y.val.rangeAt q2 0 g2.toList) := Lib.hid (fun y => (z10.gr y).cell)
          have crt := fun (y : Gr v9) => keyroot_ok b p 1 seed P (k + 1) n (by omega) HLV.out HLT.out y.val (K10.grew y.ok)
          simp only [HRT.out] at crt
          have CRT := Lib.hid crt
          have CVV := Lib.hid (fun (y : Gr v9) => CV3.out y.val (r10.gr y.ok))
          clear crt CV3
          have hkk : Hid (k + 1 ≤ l.length ∧ k + 1 = min (k + 1) n) := Lib.hid ⟨by omega, by omega⟩
          by_cases h1n : 1 < n
          · have d5 : (1 : Int) < (n : Int) := by omega
            refine wp_region_grew (grew_refl v9) (by kernel_rfl) (by kernel_rfl) ?_
            repeat (first
              | (go_big_quiet_want; refine quiet_load_mid 39 (.tmp 15) rfl q2 0 rfl g2.toList _ mm.out hus rfl HSL2.out ?_; simp only [Act.put, List.setIfInBounds_toArray, List.set_cons_succ, List.set_cons_zero, Array.toArray_toList]; go_big_quiet_on)
              | (go_big_quiet_step (first
                | (go_at_call 23; exact callG (CRT.out _))
                | (go_at_call 25; exact callG (CVV.out _)))))
            refine wpQuiet_nil ?_
            rintro w11 ⟨⟨w11', g11⟩, rfl⟩
            have K11 := K10.grew g11
            have G11 := grew_trans G10 g11
            have z11 := z10.grew g11
            have r11 := r10.gr g11
            clear mc mm CRT CVV K10 G10 z10 r10
            cases vb
            · go_wp2_with fail
              go_roundw
              case rel => exact ⟨k + 1, k + 1, hkk.out.1, hkk.out.2, by go_num, by go_num, K11, G11⟩
              case measure => have := hkk.out.1; simp [intOf]; omega
            · go_wp2_with fail
              have HCY := Lib.hid (fun y (g : Grew w11 y) => HCL.out y (grew_trans G11 g))
              have HMY : Hid (∀ y, Grew w11 y → y.rangeAt q2 0 g2.toList) := Lib.hid (fun y g => (z11.grew g).cell)
              have HRY := Lib.hid (fun y (g : Grew w11 y) => r11.gr g)
              have kr := fun y (g : Grew w11 y) => keyroot_ok b p 1 seed P (k + 1) n (by omega) HLV.out HLT.out y (K11.grew g)
              simp only [HRT.out] at kr
              have HKR := Lib.hid kr
              clear kr
              refine wp_region_rel 10 (fun i => match i with
                  | 0 => fun v _ => v = .pointer (some ⟨b, 0, none⟩)
                  | 1 => fun v _ => v = .int .u64 (rt : Nat)
                  | 2 => fun v _ => v = .agg g2
                  | 3 => fun v w => AgS w 0 1 lf s pl v
                  | 4 => fun v _ => v = .slice (some ad) l.length c
                  | 5 => fun v _ => v = .int .i64 (k : Int)
                  | 6 => fun v _ => v = .pointer (some (ad.add k))
                  | 7 => fun v _ => v = .int .u64 z
                  | 8 => fun v _ => v = .int .i64 (h : Int)
                  | 9 => fun v _ => v = .bool true
                  | _ => fun _ _ => True) (by kernel_rfl) (by kernel_rfl) ?_ ?_ ?_
              · intro i v x y h hg
                match i, h with
                | 0, h | 1, h | 2, h | 4, h | 5, h | 6, h | 7, h | 8, h | 9, h => exact h
                | 3, h => exact AgS.gr h hg
                | m + 10, _ => trivial
              · refine ⟨?_, ?_, ?_, ?_, ?_, ?_, ?_, ?_, ?_, ?_, trivial⟩
                · intro vs y hg hd
                  simp only [actOf, List.take_succ_cons, List.take_zero, List.drop_succ_cons, List.drop_zero, Act.put, List.setIfInBounds_toArray, List.set_cons_succ, List.set_cons_zero, Nat.reduceAdd]
                  go_wp2_with fail
                  exact ⟨rfl, _, rfl, grew_refl _, rfl⟩
                · intro vs y hg hd
                  obtain ⟨h0, _⟩ := hd
                  replace h0 := h0 rfl
                  simp only [actOf, List.take_succ_cons, List.take_zero, List.drop_succ_cons, List.drop_zero, Act.put, List.setIfInBounds_toArray, List.set_cons_succ, List.set_cons_zero, Nat.reduceAdd]
                  rw [show vs 0 = _ from h0]
                  go_wp2_with (go_at_call 23; refine (HKR.out y hg).mono ?_; rintro e z ⟨rfl, gz⟩)
                  exact ⟨rfl, _, rfl, gz, rfl⟩
                · intro vs y hg hd
                  simp only [actOf, List.take_succ_cons, List.take_zero, List.drop_succ_cons, List.drop_zero, Act.put, List.setIfInBounds_toArray, List.set_cons_succ, List.set_cons_zero, Nat.reduceAdd]
                  have hm := HMY.out y hg
                  go_wp2_with (with_reducible refine wpList_load_mid rfl 39 (.tmp 15) rfl q2 0 rfl g2.toList _ hm hus rfl HSL2.out ?_; simp only [Array.toArray_toList])
                  exact ⟨rfl, _, rfl, grew_refl _, rfl⟩
                · intro vs y hg hd
                  obtain ⟨h2, _⟩ := hd
                  replace h2 := h2 rfl
                  simp only [actOf, List.take_succ_cons, List.take_zero, List.drop_succ_cons, List.drop_zero, Act.put, List.setIfInBounds_toArray, List.set_cons_succ, List.set_cons_zero, Nat.reduceAdd]
                  rw [show vs 2 = _ from h2]
                  go_wp2_with (go_at_call 15; refine (CO3.out y (HRY.out y hg)).mono ?_; rintro e z ⟨A2, c2, rfl, hr9, gz⟩)
                  exact ⟨rfl, _, rfl, gz, ⟨A2, c2, rfl, hr9, fun ad h => Nat.zero_le _⟩⟩
                · intro vs y hg hd
                  simp only [actOf, List.take_succ_cons, List.take_zero, List.drop_succ_cons, List.drop_zero, Act.put, List.setIfInBounds_toArray, List.set_cons_succ, List.set_cons_zero, Nat.reduceAdd]
                  go_wp2_with fail
                  exact ⟨rfl, _, rfl, grew_refl _, rfl⟩
                · intro vs y hg hd
                  simp only [actOf, List.take_succ_cons, List.take_zero, List.drop_succ_cons, List.drop_zero, Act.put, List.setIfInBounds_toArray, List.set_cons_succ, List.set_cons_zero, Nat.reduceAdd]
                  go_wp2_with fail
                  exact ⟨rfl, _, rfl, grew_refl _, rfl⟩
                · intro vs y hg hd
                  obtain ⟨h4, h5, _⟩ := hd
                  replace h4 := h4 rfl
                  replace h5 := h5 rfl
                  simp only [actOf, List.take_succ_cons, List.take_zero, List.drop_succ_cons, List.drop_zero, Act.put, List.setIfInBounds_toArray, List.set_cons_succ, List.set_cons_zero, Nat.reduceAdd]
                  rw [show vs 4 = _ from h4, show vs 5 = _ from h5]
                  have q0 : (k : Int) < (l.length : Int) := by have := hkk.out.1; omega
                  have q1 : (0 : Int) ≤ (k : Int) := by omega
                  go_wp2_with fail
                  exact ⟨rfl, _, rfl, grew_refl _, rfl⟩
                · intro vs y hg hd
                  obtain ⟨h6, _⟩ := hd
                  replace h6 := h6 rfl
                  simp only [actOf, List.take_succ_cons, List.take_zero, List.drop_succ_cons, List.drop_zero, Act.put, List.setIfInBounds_toArray, List.set_cons_succ, List.set_cons_zero, Nat.reduceAdd]
                  rw [show vs 6 = _ from h6]
                  have hc := HCY.out y hg
                  go_wp2_with fail
                  exact ⟨rfl, _, rfl, grew_refl _, rfl⟩
                · intro vs y hg hd
                  simp only [actOf, List.take_succ_cons, List.take_zero, List.drop_succ_cons, List.drop_zero, Act.put, List.setIfInBounds_toArray, List.set_cons_succ, List.set_cons_zero, Nat.reduceAdd]
                  go_wp2_with fail
                  exact ⟨rfl, _, rfl, grew_refl _, rfl⟩
                · intro vs y hg hd
                  obtain ⟨h1, h3, h7, h8, _⟩ := hd
                  replace h1 := h1 rfl
                  replace h3 := h3 rfl
                  replace h7 := h7 rfl
                  replace h8 := h8 rfl
                  simp only [actOf, List.take_succ_cons, List.take_zero, List.drop_succ_cons, List.drop_zero, Act.put, List.setIfInBounds_toArray, List.set_cons_succ, List.set_cons_zero, Nat.reduceAdd]
                  rw [show vs 1 = _ from h1, show vs 7 = _ from h7, show vs 8 = _ from h8]
                  obtain ⟨A2, c2, hv, hr9, hb9⟩ := AgS.out h3
                  rw [hv]
                  go_wp2_with (go_at_call 26; refine (CR3.out A2 c2 y hr9).mono ?_; rintro e z ⟨rfl, gz⟩)
                  exact ⟨rfl, _, rfl, gz, rfl⟩
              · intro vs y hg hJ
                have j0 : vs 0 = .pointer (some ⟨b, 0, none⟩) := hJ 0 (by decide)
                have j1 : vs 1 = .int .u64 (rt : Nat) := hJ 1 (by decide)
                have j2 : vs 2 = .agg g2 := hJ 2 (by decide)
                have j4 : vs 4 = .slice (some ad) l.length c := hJ 4 (by decide)
                have j5 : vs 5 = .int .i64 (k : Int) := hJ 5 (by decide)
                have j6 : vs 6 = .pointer (some (ad.add k)) := hJ 6 (by decide)
                have j7 : vs 7 = .int .u64 z := hJ 7 (by decide)
                have j8 : vs 8 = .int .i64 (h : Int) := hJ 8 (by decide)
                have j9 : vs 9 = .bool true := hJ 9 (by decide)
                simp only [actOf, List.take_succ_cons, List.take_zero, List.drop_succ_cons, List.drop_zero, Act.put, List.setIfInBounds_toArray, List.set_cons_succ, List.set_cons_zero, Nat.reduceAdd]
                obtain ⟨A2, c2, j3, r3, hb3⟩ := AgS.out (show AgS y 0 1 lf s pl (vs 3) from hJ 3 (by decide))
                clear hJ j0 j1 j2 j4 j5 j6 j7 j8 hb3
                simp only [j9]
                go_wp2_with fail
                go_ret
                exact ⟨by simp, grew_trans G11 hg⟩
          · have d5 : ¬ (1 : Int) < (n : Int) := by omega
            refine wp_region_grew (grew_refl v9) (by kernel_rfl) (by kernel_rfl) ?_
            repeat (go_big_quiet_step (fail))
            refine wpQuiet_nil ?_
            rintro w11 ⟨⟨w11', g11⟩, rfl⟩
            have K11 := K10.grew g11
            have G11 := grew_trans G10 g11
            clear mc mm CRT CVV K10 G10 z10 r10
            go_wp2_with fail
            go_roundw
            case rel => exact ⟨k + 1, k + 1, hkk.out.1, hkk.out.2, by go_num, by go_num, K11, G11⟩
            case measure => have := hkk.out.1; simp [intOf]; omega
      · obtain rfl : k = l.length := by omega
        have CL := left_ok b p 1 seed P nx n (by omega) (by omega) wr K
        rw [hl2] at CL
        go_wp2_with fail
        refine CL.mono ?_
        rintro e w5 ⟨rfl, gg⟩
        have hnn : ((n : Int) - (nx : Int) == max 0 ((n : Int) - (l.length : Int))) = true := by rw [beq_iff_eq]; omega
        have hnl : nx ≤ P.length := by omega
        clear hnx
        have e9 : IntKind.i64.wrap ((n : Int) - (l.length : Int)) = (n : Int) - (l.length : Int) := IntWalk.i64_in _ (by omega)
        go_wp2_with fail
        go_ret
        exact ⟨by simp, grew_trans G gg⟩
end Go.Proofs.YtpgbfglfgcidaaaGreatDoor

namespace Go.Proofs.YtpgbfglfgcidaaaGreatDoor
set_option linter.unusedSimpArgs false
set_option linter.unusedVariables false
open Go.RowKit
set_option linter.unusedVariables false
set_option linter.unusedSimpArgs false
/-- four fields that are a signature's -/
def sig4 (x0 x1 x2 x3 : List UInt8) : Bool := uptoB x0 15 && uptoB x1 9223372036854775807 && (pdigs x2).isSome && (pdigs x3).isSome && decide (((pdigs x2).getD []).length = 18) && decide (((pdigs x3).getD []).length ≤ 8)
/-- who, leaf, the digests, the way of any text; or none -/
def sigP (S : List UInt8) : Option ((Int × Int) × List Nat × List Nat) :=
  match splitF S with
  | some [x0, x1, x2, x3] => if sig4 x0 x1 x2 x3 = true then some (((pnum x0).1, (pnum x1).1), (pdigs x2).getD [], (pdigs x3).getD []) else none
  | _ => none
set_option maxRecDepth 100000 in
set_option maxHeartbeats 1000000 in
theorem kparse_split (tj : ByteArray) (hz : tj.size ≤ 1000000) (hno : ∀ x0 x1 x2 x3, splitF tj.data.toList ≠ some [x0, x1, x2, x3]) (w : World) :
    Calls Tryz.prog 27 #[.string tj] w fun e w' => e = .returned (.tuple #[.agg (#[.int .i64 0, .int .i64 0, .int .u64 0, .int .u64 0, .int .u64 0, .int .u64 0, .int .u64 0, .int .u64 0, .int .u64 0, .int .u64 0, .int .u64 0, .int .u64 0, .int .u64 0, .int .u64 0, .int .u64 0, .int .u64 0, .int .u64 0, .int .u64 0, .int .u64 0, .int .u64 0, .slice none 0 0]), .int .i64 2]) ∧ Grew w w' := by
  have z0 := alloc_sig w
  have g0 := grew_alloc (grew_refl w) (.cells (#[.int .i64 0, .int .i64 0, .int .u64 0, .int .u64 0, .int .u64 0, .int .u64 0, .int .u64 0, .int .u64 0, .int .u64 0, .int .u64 0, .int .u64 0, .int .u64 0, .int .u64 0, .int .u64 0, .int .u64 0, .int .u64 0, .int .u64 0, .int .u64 0, .int .u64 0, .int .u64 0, .slice none 0 0]) 39)
  have hus := Tryz.underlying39
  have bz : ∀ W, (Instr.build 39 #[]).run Tryz.prog W = .ok (.agg (#[.int .i64 0, .int .i64 0, .int .u64 0, .int .u64 0, .int .u64 0, .int .u64 0, .int .u64 0, .int .u64 0, .int .u64 0, .int .u64 0, .int .u64 0, .int .u64 0, .int .u64 0, .int .u64 0, .int .u64 0, .int .u64 0, .int .u64 0, .int .u64 0, .int .u64 0, .int .u64 0, .slice none 0 0])) W := fun W => run_build W 39 #[] _ sg_zero
  have HSI : Hid ((Tryz.prog.info? 39).map (·.size) = some (#[.int .i64 0, .int .i64 0, .int .u64 0, .int .u64 0, .int .u64 0, .int .u64 0, .int .u64 0, .int .u64 0, .int .u64 0, .int .u64 0, .int .u64 0, .int .u64 0, .int .u64 0, .int .u64 0, .int .u64 0, .int .u64 0, .int .u64 0, .int .u64 0, .int .u64 0, .int .u64 0, .slice none 0 0] : Array Value).size) := Lib.hid sg_info
  have HON : Hid ((#[.int .i64 0, .int .i64 0, .int .u64 0, .int .u64 0, .int .u64 0, .int .u64 0, .int .u64 0, .int .u64 0, .int .u64 0, .int .u64 0, .int .u64 0, .int .u64 0, .int .u64 0, .int .u64 0, .int .u64 0, .int .u64 0, .int .u64 0, .int .u64 0, .int .u64 0, .int .u64 0, .slice none 0 0] : Array Value).all (·.oneCell') = true) := Lib.hid (by simp [Value.oneCell'])
  have CS := Lib.hid (fun W => split_ok tj (by omega) W)
  go_enter Tryz.func27, Tryz.ntmps27
  go_wp2_with fail
  refine (CS.out _).mono ?_
  rintro e w1 ⟨hs, gg⟩
  have z1 := z0.grew gg
  have g1 := grew_trans g0 gg
  have HTH : Hid (w1.there w.heap.size 0 (#[.int .i64 0, .int .i64 0, .int .u64 0, .int .u64 0, .int .u64 0, .int .u64 0, .int .u64 0, .int .u64 0, .int .u64 0, .int .u64 0, .int .u64 0, .int .u64 0, .int .u64 0, .int .u64 0, .int .u64 0, .int .u64 0, .int .u64 0, .int .u64 0, .int .u64 0, .int .u64 0, .slice none 0 0] : Array Value).size) := Lib.hid (z1.thereN 21 rfl)
  have z2 := Ag.set (vs := (#[.int .i64 0, .int .i64 0, .int .u64 0, .int .u64 0, .int .u64 0, .int .u64 0, .int .u64 0, .int .u64 0, .int .u64 0, .int .u64 0, .int .u64 0, .int .u64 0, .int .u64 0, .int .u64 0, .int .u64 0, .int .u64 0, .int .u64 0, .int .u64 0, .int .u64 0, .int .u64 0, .slice none 0 0] : Array Value).toList) z1 rfl
  have g2 := setCells_grew (o := 0) (b := w.heap.size) (#[.int .i64 0, .int .i64 0, .int .u64 0, .int .u64 0, .int .u64 0, .int .u64 0, .int .u64 0, .int .u64 0, .int .u64 0, .int .u64 0, .int .u64 0, .int .u64 0, .int .u64 0, .int .u64 0, .int .u64 0, .int .u64 0, .int .u64 0, .int .u64 0, .int .u64 0, .int .u64 0, .slice none 0 0] : Array Value).toList g1 (Nat.le_refl _)
  clear CS z0 g0 gg
  rcases hs with ⟨h1, rfl⟩ | ⟨l, h1, ⟨h2, rfl⟩ | ⟨h2, v, rfl, o1⟩⟩
  · clear h1
    go_wp2_with (with_reducible refine wpList_store_mid rfl 39 (.tmp 2) (.tmp 26) rfl w.heap.size 0 (#[.int .i64 0, .int .i64 0, .int .u64 0, .int .u64 0, .int .u64 0, .int .u64 0, .int .u64 0, .int .u64 0, .int .u64 0, .int .u64 0, .int .u64 0, .int .u64 0, .int .u64 0, .int .u64 0, .int .u64 0, .int .u64 0, .int .u64 0, .int .u64 0, .int .u64 0, .int .u64 0, .slice none 0 0]) rfl rfl HTH.out HSI.out HON.out ?_)
    exact bodyPost_ret (results_ag2 Tryz.results27 _ _ w.heap.size _ _ _ rfl rfl z2 hus rfl sg_info) rfl ⟨rfl, g2⟩
  · clear h1
    go_wp2_with (with_reducible refine wpList_store_mid rfl 39 (.tmp 2) (.tmp 26) rfl w.heap.size 0 (#[.int .i64 0, .int .i64 0, .int .u64 0, .int .u64 0, .int .u64 0, .int .u64 0, .int .u64 0, .int .u64 0, .int .u64 0, .int .u64 0, .int .u64 0, .int .u64 0, .int .u64 0, .int .u64 0, .int .u64 0, .int .u64 0, .int .u64 0, .int .u64 0, .int .u64 0, .int .u64 0, .slice none 0 0]) rfl rfl HTH.out HSI.out HON.out ?_)
    exact bodyPost_ret (results_ag2 Tryz.results27 _ _ w.heap.size _ _ _ rfl rfl z2 hus rfl sg_info) rfl ⟨rfl, g2⟩
  · have hl4 : l.length ≠ 4 := fun h4 => by
      match l, h4 with
      | [a, b, c, d], _ => exact hno a b c d h1
    obtain ⟨A4, c4, rfl, -, -, -⟩ := own_rd o1
    have e4 : ((l.length : Int) != 4) = true := by simp; omega
    clear o1 h1 h2 hl4
    go_wp2_with (with_reducible refine wpList_store_mid rfl 39 (.tmp 2) (.tmp 26) rfl w.heap.size 0 (#[.int .i64 0, .int .i64 0, .int .u64 0, .int .u64 0, .int .u64 0, .int .u64 0, .int .u64 0, .int .u64 0, .int .u64 0, .int .u64 0, .int .u64 0, .int .u64 0, .int .u64 0, .int .u64 0, .int .u64 0, .int .u64 0, .int .u64 0, .int .u64 0, .int .u64 0, .int .u64 0, .slice none 0 0]) rfl rfl HTH.out HSI.out HON.out ?_)
    exact bodyPost_ret (results_ag2 Tryz.results27 _ _ w.heap.size _ _ _ rfl rfl z2 hus rfl sg_info) rfl ⟨rfl, g2⟩
set_option maxRecDepth 100000 in
set_option maxHeartbeats 2000000 in
theorem kparse_four (tj : ByteArray) (x0 x1 x2 x3 : List UInt8) (hsp : splitF tj.data.toList = some [x0, x1, x2, x3]) (hz : tj.size ≤ 1000000) (l0 : x0.length ≤ 1000000) (l1 : x1.length ≤ 1000000) (l2 : x2.length ≤ 1000000) (l3 : x3.length ≤ 1000000) (hno : sig4 x0 x1 x2 x3 = false) (w : World) (hS : Std w) :
    Calls Tryz.prog 27 #[.string tj] w fun e w' => e = .returned (.tuple #[.agg (#[.int .i64 0, .int .i64 0, .int .u64 0, .int .u64 0, .int .u64 0, .int .u64 0, .int .u64 0, .int .u64 0, .int .u64 0, .int .u64 0, .int .u64 0, .int .u64 0, .int .u64 0, .int .u64 0, .int .u64 0, .int .u64 0, .int .u64 0, .int .u64 0, .int .u64 0, .int .u64 0, .slice none 0 0]), .int .i64 2]) ∧ Grew w w' := by
  have HS := Lib.hid hS
  have CS := Lib.hid (fun W => split_some (s := tj) (l := [x0, x1, x2, x3]) hsp (by simp) (by omega) W)
  rw [show txt [x0, x1, x2, x3] = [⟨x0.toArray⟩, ⟨x1.toArray⟩, ⟨x2.toArray⟩, ⟨x3.toArray⟩] from rfl] at CS
  have u0 := (fun W hW => upto_ok ⟨x0.toArray⟩ (by show x0.toArray.size ≤ _; simp; omega) 15 W hW)
  have u1 := (fun W hW => upto_ok ⟨x1.toArray⟩ (by show x1.toArray.size ≤ _; simp; omega) 9223372036854775807 W hW)
  have dd2 := (fun W hW => pdigs_ok ⟨x2.toArray⟩ (by show x2.toArray.size ≤ _; simp; omega) W hW)
  have dd3 := (fun W hW => pdigs_ok ⟨x3.toArray⟩ (by show x3.toArray.size ≤ _; simp; omega) W hW)
  unfold sig4 at hno
  dsimp only at u0 u1 dd2 dd3
  generalize uptoB x0 15 = b0 at *
  generalize uptoB x1 9223372036854775807 = b1 at *
  generalize (pnum x0).1 = who at *
  generalize (pnum x1).1 = leaf at *
  generalize (pdigs x2).isSome = b2 at *
  generalize (pdigs x3).isSome = b3 at *
  generalize (pdigs x2).getD [] = q2 at *
  generalize (pdigs x3).getD [] = q3 at *
  have U0 := Lib.hid u0
  have U1 := Lib.hid u1
  have D2 := Lib.hid dd2
  have D3 := Lib.hid dd3
  clear u0 u1 dd2 dd3 hsp hz l0 l1 l2 l3 hS
  generalize (⟨x0.toArray⟩ : ByteArray) = t0 at *
  generalize (⟨x1.toArray⟩ : ByteArray) = t1 at *
  generalize (⟨x2.toArray⟩ : ByteArray) = t2 at *
  generalize (⟨x3.toArray⟩ : ByteArray) = t3 at *
  have HNO := Lib.hid hno
  clear hno
  have z0 := alloc_sig w
  have g0 := grew_alloc (grew_refl w) (.cells (#[.int .i64 0, .int .i64 0, .int .u64 0, .int .u64 0, .int .u64 0, .int .u64 0, .int .u64 0, .int .u64 0, .int .u64 0, .int .u64 0, .int .u64 0, .int .u64 0, .int .u64 0, .int .u64 0, .int .u64 0, .int .u64 0, .int .u64 0, .int .u64 0, .int .u64 0, .int .u64 0, .slice none 0 0]) 39)
  have hus := Tryz.underlying39
  have bz : ∀ W, (Instr.build 39 #[]).run Tryz.prog W = .ok (.agg (#[.int .i64 0, .int .i64 0, .int .u64 0, .int .u64 0, .int .u64 0, .int .u64 0, .int .u64 0, .int .u64 0, .int .u64 0, .int .u64 0, .int .u64 0, .int .u64 0, .int .u64 0, .int .u64 0, .int .u64 0, .int .u64 0, .int .u64 0, .int .u64 0, .int .u64 0, .int .u64 0, .slice none 0 0])) W := fun W => run_build W 39 #[] _ sg_zero
  have HSI : Hid ((Tryz.prog.info? 39).map (·.size) = some (#[.int .i64 0, .int .i64 0, .int .u64 0, .int .u64 0, .int .u64 0, .int .u64 0, .int .u64 0, .int .u64 0, .int .u64 0, .int .u64 0, .int .u64 0, .int .u64 0, .int .u64 0, .int .u64 0, .int .u64 0, .int .u64 0, .int .u64 0, .int .u64 0, .int .u64 0, .int .u64 0, .slice none 0 0] : Array Value).size) := Lib.hid sg_info
  have HON : Hid ((#[.int .i64 0, .int .i64 0, .int .u64 0, .int .u64 0, .int .u64 0, .int .u64 0, .int .u64 0, .int .u64 0, .int .u64 0, .int .u64 0, .int .u64 0, .int .u64 0, .int .u64 0, .int .u64 0, .int .u64 0, .int .u64 0, .int .u64 0, .int .u64 0, .int .u64 0, .int .u64 0, .slice none 0 0] : Array Value).all (·.oneCell') = true) := Lib.hid (by simp [Value.oneCell'])
  go_enter Tryz.func27, Tryz.ntmps27
  go_wp2_with fail
  refine (CS.out _).mono ?_
  rintro e w1 ⟨⟨v1, rfl, o1⟩, gg⟩
  have z1 := z0.grew gg
  have g1 := grew_trans g0 gg
  obtain ⟨g, k1, rfl, hk1, hgl, hcs⟩ := own_cells o1 (by simp)
  have x0 : w1.cell? ⟨g, 0, none⟩ = some (.string t0) := by simpa using hcs 0 (.string t0) rfl
  have x1 : w1.cell? ⟨g, 1, none⟩ = some (.string t1) := by simpa using hcs 1 (.string t1) rfl
  have x2 : w1.cell? ⟨g, 2, none⟩ = some (.string t2) := by simpa using hcs 2 (.string t2) rfl
  have x3 : w1.cell? ⟨g, 3, none⟩ = some (.string t3) := by simpa using hcs 3 (.string t3) rfl
  clear CS z0 g0 gg o1 hcs
  have hk1' : (4 : Int) ≤ (k1 : Int) := by
    have : 4 ≤ k1 := hk1
    omega
  go_wp2_with fail
  refine (U0.out _ (HS.out.grew g1)).mono ?_
  rintro e w2 ⟨rfl, gg⟩
  have y1 := (gg.cell (p := ⟨g, 1, none⟩) hgl).trans x1
  have y2 := (gg.cell (p := ⟨g, 2, none⟩) hgl).trans x2
  have y3 := (gg.cell (p := ⟨g, 3, none⟩) hgl).trans x3
  have hgl2 := Nat.lt_of_lt_of_le hgl gg.size
  have z2 := z1.grew gg
  have g2 := grew_trans g1 gg
  clear U0 x0 x1 x2 x3 z1 g1 gg hgl
  go_wp2_with fail
  refine (U1.out _ (HS.out.grew g2)).mono ?_
  rintro e w3 ⟨rfl, gg⟩
  have x2 := (gg.cell (p := ⟨g, 2, none⟩) hgl2).trans y2
  have x3 := (gg.cell (p := ⟨g, 3, none⟩) hgl2).trans y3
  have hgl3 := Nat.lt_of_lt_of_le hgl2 gg.size
  have z3 := z2.grew gg
  have g3 := grew_trans g2 gg
  clear U1 y1 y2 y3 z2 g2 gg hgl2
  go_wp2_with fail
  refine (D2.out _ (HS.out.grew g3)).mono ?_
  rintro e w4 ⟨⟨v4, rfl, o4⟩, gg⟩
  obtain ⟨A4, c4, rfl, -, -, -⟩ := own_rd o4
  have y3 := (gg.cell (p := ⟨g, 3, none⟩) hgl3).trans x3
  have z4 := z3.grew gg
  have g4 := grew_trans g3 gg
  clear D2 x2 x3 z3 g3 gg hgl3 o4
  go_wp2_with fail
  refine (D3.out _ (HS.out.grew g4)).mono ?_
  rintro e w5 ⟨⟨v5, rfl, o5⟩, gg⟩
  obtain ⟨A5, c5, rfl, -, -, -⟩ := own_rd o5
  have z5 := z4.grew gg
  have g5 := grew_trans g4 gg
  clear D3 y3 z4 g4 gg o5
  have HTH : Hid (w5.there w.heap.size 0 (#[.int .i64 0, .int .i64 0, .int .u64 0, .int .u64 0, .int .u64 0, .int .u64 0, .int .u64 0, .int .u64 0, .int .u64 0, .int .u64 0, .int .u64 0, .int .u64 0, .int .u64 0, .int .u64 0, .int .u64 0, .int .u64 0, .int .u64 0, .int .u64 0, .int .u64 0, .int .u64 0, .slice none 0 0] : Array Value).size) := Lib.hid (z5.thereN 21 rfl)
  have z2 := Ag.set (vs := (#[.int .i64 0, .int .i64 0, .int .u64 0, .int .u64 0, .int .u64 0, .int .u64 0, .int .u64 0, .int .u64 0, .int .u64 0, .int .u64 0, .int .u64 0, .int .u64 0, .int .u64 0, .int .u64 0, .int .u64 0, .int .u64 0, .int .u64 0, .int .u64 0, .int .u64 0, .int .u64 0, .slice none 0 0] : Array Value).toList) z5 rfl
  have g2 := setCells_grew (o := 0) (b := w.heap.size) (#[.int .i64 0, .int .i64 0, .int .u64 0, .int .u64 0, .int .u64 0, .int .u64 0, .int .u64 0, .int .u64 0, .int .u64 0, .int .u64 0, .int .u64 0, .int .u64 0, .int .u64 0, .int .u64 0, .int .u64 0, .int .u64 0, .int .u64 0, .int .u64 0, .int .u64 0, .int .u64 0, .slice none 0 0] : Array Value).toList g5 (Nat.le_refl _)
  clear z5 g5
  generalize q2.length = n2 at *
  generalize q3.length = n3 at *
  cases b0
  · clear HNO
    go_wp2_with (with_reducible refine wpList_store_mid rfl 39 (.tmp 2) (.tmp 79) rfl w.heap.size 0 (#[.int .i64 0, .int .i64 0, .int .u64 0, .int .u64 0, .int .u64 0, .int .u64 0, .int .u64 0, .int .u64 0, .int .u64 0, .int .u64 0, .int .u64 0, .int .u64 0, .int .u64 0, .int .u64 0, .int .u64 0, .int .u64 0, .int .u64 0, .int .u64 0, .int .u64 0, .int .u64 0, .slice none 0 0]) rfl rfl HTH.out HSI.out HON.out ?_)
    exact bodyPost_ret (results_ag2 Tryz.results27 _ _ w.heap.size _ _ _ rfl rfl z2 hus rfl sg_info) rfl ⟨rfl, g2⟩
  cases b1
  · clear HNO
    go_wp2_with (with_reducible refine wpList_store_mid rfl 39 (.tmp 2) (.tmp 79) rfl w.heap.size 0 (#[.int .i64 0, .int .i64 0, .int .u64 0, .int .u64 0, .int .u64 0, .int .u64 0, .int .u64 0, .int .u64 0, .int .u64 0, .int .u64 0, .int .u64 0, .int .u64 0, .int .u64 0, .int .u64 0, .int .u64 0, .int .u64 0, .int .u64 0, .int .u64 0, .int .u64 0, .int .u64 0, .slice none 0 0]) rfl rfl HTH.out HSI.out HON.out ?_)
    exact bodyPost_ret (results_ag2 Tryz.results27 _ _ w.heap.size _ _ _ rfl rfl z2 hus rfl sg_info) rfl ⟨rfl, g2⟩
  cases b2
  · clear HNO
    go_wp2_with (with_reducible refine wpList_store_mid rfl 39 (.tmp 2) (.tmp 79) rfl w.heap.size 0 (#[.int .i64 0, .int .i64 0, .int .u64 0, .int .u64 0, .int .u64 0, .int .u64 0, .int .u64 0, .int .u64 0, .int .u64 0, .int .u64 0, .int .u64 0, .int .u64 0, .int .u64 0, .int .u64 0, .int .u64 0, .int .u64 0, .int .u64 0, .int .u64 0, .int .u64 0, .int .u64 0, .slice none 0 0]) rfl rfl HTH.out HSI.out HON.out ?_)
    exact bodyPost_ret (results_ag2 Tryz.results27 _ _ w.heap.size _ _ _ rfl rfl z2 hus rfl sg_info) rfl ⟨rfl, g2⟩
  cases b3
  · clear HNO
    go_wp2_with (with_reducible refine wpList_store_mid rfl 39 (.tmp 2) (.tmp 79) rfl w.heap.size 0 (#[.int .i64 0, .int .i64 0, .int .u64 0, .int .u64 0, .int .u64 0, .int .u64 0, .int .u64 0, .int .u64 0, .int .u64 0, .int .u64 0, .int .u64 0, .int .u64 0, .int .u64 0, .int .u64 0, .int .u64 0, .int .u64 0, .int .u64 0, .int .u64 0, .int .u64 0, .int .u64 0, .slice none 0 0]) rfl rfl HTH.out HSI.out HON.out ?_)
    exact bodyPost_ret (results_ag2 Tryz.results27 _ _ w.heap.size _ _ _ rfl rfl z2 hus rfl sg_info) rfl ⟨rfl, g2⟩
  by_cases h18 : n2 = 18
  · have h8 : (8 : Int) < (n3 : Int) := by
      have := HNO.out
      simp [h18] at this
      omega
    have e18 : ((n2 : Int) != 18) = false := by rw [h18]; rfl
    clear HNO h18
    go_wp2_with (with_reducible refine wpList_store_mid rfl 39 (.tmp 2) (.tmp 79) rfl w.heap.size 0 (#[.int .i64 0, .int .i64 0, .int .u64 0, .int .u64 0, .int .u64 0, .int .u64 0, .int .u64 0, .int .u64 0, .int .u64 0, .int .u64 0, .int .u64 0, .int .u64 0, .int .u64 0, .int .u64 0, .int .u64 0, .int .u64 0, .int .u64 0, .int .u64 0, .int .u64 0, .int .u64 0, .slice none 0 0]) rfl rfl HTH.out HSI.out HON.out ?_)
    exact bodyPost_ret (results_ag2 Tryz.results27 _ _ w.heap.size _ _ _ rfl rfl z2 hus rfl sg_info) rfl ⟨rfl, g2⟩
  · have e18 : ((n2 : Int) != 18) = true := by simp; omega
    clear HNO h18
    go_wp2_with (with_reducible refine wpList_store_mid rfl 39 (.tmp 2) (.tmp 79) rfl w.heap.size 0 (#[.int .i64 0, .int .i64 0, .int .u64 0, .int .u64 0, .int .u64 0, .int .u64 0, .int .u64 0, .int .u64 0, .int .u64 0, .int .u64 0, .int .u64 0, .int .u64 0, .int .u64 0, .int .u64 0, .int .u64 0, .int .u64 0, .int .u64 0, .int .u64 0, .int .u64 0, .int .u64 0, .slice none 0 0]) rfl rfl HTH.out HSI.out HON.out ?_)
    exact bodyPost_ret (results_ag2 Tryz.results27 _ _ w.heap.size _ _ _ rfl rfl z2 hus rfl sg_info) rfl ⟨rfl, g2⟩
end Go.Proofs.YtpgbfglfgcidaaaGreatDoor

namespace Go.Proofs.YtpgbfglfgcidaaaGreatDoor
set_option linter.unusedSimpArgs false
set_option linter.unusedVariables false
open Go.RowKit
set_option linter.unusedVariables false
set_option linter.unusedSimpArgs false
set_option maxRecDepth 100000 in
theorem rg_zero : Tryz.prog.built 45 [] = some (#[.int .i64 0, .int .i64 0, .int .u64 0, .int .u64 0, .int .u64 0, .int .u64 0, .int .u64 0, .int .u64 0, .int .u64 0, .int .u64 0, .int .u64 0, .int .u64 0, .int .u64 0, .int .u64 0, .int .u64 0, .int .u64 0, .int .u64 0, .int .u64 0, .int .u64 0, .int .u64 0, .slice none 0 0]) := by kernel_rfl
theorem alloc_rsig (w : World) : Ag (w.alloc (.cells (#[.int .i64 0, .int .i64 0, .int .u64 0, .int .u64 0, .int .u64 0, .int .u64 0, .int .u64 0, .int .u64 0, .int .u64 0, .int .u64 0, .int .u64 0, .int .u64 0, .int .u64 0, .int .u64 0, .int .u64 0, .int .u64 0, .int .u64 0, .int .u64 0, .int .u64 0, .int .u64 0, .slice none 0 0]) 45)) w.heap.size (#[.int .i64 0, .int .i64 0, .int .u64 0, .int .u64 0, .int .u64 0, .int .u64 0, .int .u64 0, .int .u64 0, .int .u64 0, .int .u64 0, .int .u64 0, .int .u64 0, .int .u64 0, .int .u64 0, .int .u64 0, .int .u64 0, .int .u64 0, .int .u64 0, .int .u64 0, .int .u64 0, .slice none 0 0]).toList := Ag.new _ _ _
set_option maxRecDepth 100000 in
set_option maxHeartbeats 1000000 in
theorem rps_split (tj : ByteArray) (hz : tj.size ≤ 1000000) (hno : ∀ x0 x1 x2 x3, splitF tj.data.toList ≠ some [x0, x1, x2, x3]) (w : World) :
    Calls Tryz.prog 28 #[.string tj] w fun e w' => e = .returned (.tuple #[.agg (#[.int .i64 0, .int .i64 0, .int .u64 0, .int .u64 0, .int .u64 0, .int .u64 0, .int .u64 0, .int .u64 0, .int .u64 0, .int .u64 0, .int .u64 0, .int .u64 0, .int .u64 0, .int .u64 0, .int .u64 0, .int .u64 0, .int .u64 0, .int .u64 0, .int .u64 0, .int .u64 0, .slice none 0 0]), .int .i64 2]) ∧ Grew w w' := by
  have z0 := alloc_rsig w
  have g0 := grew_alloc (grew_refl w) (.cells (#[.int .i64 0, .int .i64 0, .int .u64 0, .int .u64 0, .int .u64 0, .int .u64 0, .int .u64 0, .int .u64 0, .int .u64 0, .int .u64 0, .int .u64 0, .int .u64 0, .int .u64 0, .int .u64 0, .int .u64 0, .int .u64 0, .int .u64 0, .int .u64 0, .int .u64 0, .int .u64 0, .slice none 0 0]) 45)
  have hus := Tryz.underlying45
  have bz : ∀ W, (Instr.build 45 #[]).run Tryz.prog W = .ok (.agg (#[.int .i64 0, .int .i64 0, .int .u64 0, .int .u64 0, .int .u64 0, .int .u64 0, .int .u64 0, .int .u64 0, .int .u64 0, .int .u64 0, .int .u64 0, .int .u64 0, .int .u64 0, .int .u64 0, .int .u64 0, .int .u64 0, .int .u64 0, .int .u64 0, .int .u64 0, .int .u64 0, .slice none 0 0])) W := fun W => run_build W 45 #[] _ rg_zero
  have HSI : Hid ((Tryz.prog.info? 45).map (·.size) = some (#[.int .i64 0, .int .i64 0, .int .u64 0, .int .u64 0, .int .u64 0, .int .u64 0, .int .u64 0, .int .u64 0, .int .u64 0, .int .u64 0, .int .u64 0, .int .u64 0, .int .u64 0, .int .u64 0, .int .u64 0, .int .u64 0, .int .u64 0, .int .u64 0, .int .u64 0, .int .u64 0, .slice none 0 0] : Array Value).size) := Lib.hid rg_info
  have HON : Hid ((#[.int .i64 0, .int .i64 0, .int .u64 0, .int .u64 0, .int .u64 0, .int .u64 0, .int .u64 0, .int .u64 0, .int .u64 0, .int .u64 0, .int .u64 0, .int .u64 0, .int .u64 0, .int .u64 0, .int .u64 0, .int .u64 0, .int .u64 0, .int .u64 0, .int .u64 0, .int .u64 0, .slice none 0 0] : Array Value).all (·.oneCell') = true) := Lib.hid (by simp [Value.oneCell'])
  have CS := Lib.hid (fun W => rsplit_ok tj (by omega) W)
  go_enter Tryz.func28, Tryz.ntmps28
  go_wp2_with fail
  refine (CS.out _).mono ?_
  rintro e w1 ⟨hs, gg⟩
  have z1 := z0.grew gg
  have g1 := grew_trans g0 gg
  have HTH : Hid (w1.there w.heap.size 0 (#[.int .i64 0, .int .i64 0, .int .u64 0, .int .u64 0, .int .u64 0, .int .u64 0, .int .u64 0, .int .u64 0, .int .u64 0, .int .u64 0, .int .u64 0, .int .u64 0, .int .u64 0, .int .u64 0, .int .u64 0, .int .u64 0, .int .u64 0, .int .u64 0, .int .u64 0, .int .u64 0, .slice none 0 0] : Array Value).size) := Lib.hid (z1.thereN 21 rfl)
  have z2 := Ag.set (vs := (#[.int .i64 0, .int .i64 0, .int .u64 0, .int .u64 0, .int .u64 0, .int .u64 0, .int .u64 0, .int .u64 0, .int .u64 0, .int .u64 0, .int .u64 0, .int .u64 0, .int .u64 0, .int .u64 0, .int .u64 0, .int .u64 0, .int .u64 0, .int .u64 0, .int .u64 0, .int .u64 0, .slice none 0 0] : Array Value).toList) z1 rfl
  have g2 := setCells_grew (o := 0) (b := w.heap.size) (#[.int .i64 0, .int .i64 0, .int .u64 0, .int .u64 0, .int .u64 0, .int .u64 0, .int .u64 0, .int .u64 0, .int .u64 0, .int .u64 0, .int .u64 0, .int .u64 0, .int .u64 0, .int .u64 0, .int .u64 0, .int .u64 0, .int .u64 0, .int .u64 0, .int .u64 0, .int .u64 0, .slice none 0 0] : Array Value).toList g1 (Nat.le_refl _)
  clear CS z0 g0 gg
  rcases hs with ⟨h1, rfl⟩ | ⟨l, h1, ⟨h2, rfl⟩ | ⟨h2, v, rfl, o1⟩⟩
  · clear h1
    go_wp2_with (with_reducible refine wpList_store_mid rfl 45 (.tmp 2) (.tmp 28) rfl w.heap.size 0 (#[.int .i64 0, .int .i64 0, .int .u64 0, .int .u64 0, .int .u64 0, .int .u64 0, .int .u64 0, .int .u64 0, .int .u64 0, .int .u64 0, .int .u64 0, .int .u64 0, .int .u64 0, .int .u64 0, .int .u64 0, .int .u64 0, .int .u64 0, .int .u64 0, .int .u64 0, .int .u64 0, .slice none 0 0]) rfl rfl HTH.out HSI.out HON.out ?_)
    exact bodyPost_ret (results_ag2 Tryz.results28 _ _ w.heap.size _ _ _ rfl rfl z2 hus rfl rg_info) rfl ⟨rfl, g2⟩
  · clear h1
    go_wp2_with (with_reducible refine wpList_store_mid rfl 45 (.tmp 2) (.tmp 28) rfl w.heap.size 0 (#[.int .i64 0, .int .i64 0, .int .u64 0, .int .u64 0, .int .u64 0, .int .u64 0, .int .u64 0, .int .u64 0, .int .u64 0, .int .u64 0, .int .u64 0, .int .u64 0, .int .u64 0, .int .u64 0, .int .u64 0, .int .u64 0, .int .u64 0, .int .u64 0, .int .u64 0, .int .u64 0, .slice none 0 0]) rfl rfl HTH.out HSI.out HON.out ?_)
    exact bodyPost_ret (results_ag2 Tryz.results28 _ _ w.heap.size _ _ _ rfl rfl z2 hus rfl rg_info) rfl ⟨rfl, g2⟩
  · have hl4 : l.length ≠ 4 := fun h4 => by
      match l, h4 with
      | [a, b, c, d], _ => exact hno a b c d h1
    obtain ⟨A4, c4, rfl, -, -, -⟩ := own_rd o1
    have e4 : ((l.length : Int) != 4) = true := by simp; omega
    clear o1 h1 h2 hl4
    go_wp2_with (with_reducible refine wpList_store_mid rfl 45 (.tmp 2) (.tmp 28) rfl w.heap.size 0 (#[.int .i64 0, .int .i64 0, .int .u64 0, .int .u64 0, .int .u64 0, .int .u64 0, .int .u64 0, .int .u64 0, .int .u64 0, .int .u64 0, .int .u64 0, .int .u64 0, .int .u64 0, .int .u64 0, .int .u64 0, .int .u64 0, .int .u64 0, .int .u64 0, .int .u64 0, .int .u64 0, .slice none 0 0]) rfl rfl HTH.out HSI.out HON.out ?_)
    exact bodyPost_ret (results_ag2 Tryz.results28 _ _ w.heap.size _ _ _ rfl rfl z2 hus rfl rg_info) rfl ⟨rfl, g2⟩
end Go.Proofs.YtpgbfglfgcidaaaGreatDoor

namespace Go.Proofs.YtpgbfglfgcidaaaGreatDoor
set_option linter.unusedSimpArgs false
set_option linter.unusedVariables false
open Go.RowKit
set_option linter.unusedVariables false
set_option linter.unusedSimpArgs false
theorem pnum_max (x : List UInt8) : (pnum x).1 ≤ 9223372036854775807 := by
  by_cases h1 : isNumB x = true
  · by_cases h2 : inI64 (nval x) = true
    · rw [pnum_ok h1 h2]
      unfold inI64 at h2
      simp at h2
      exact h2.2
    · rw [pnum_long h1 (by simpa using h2)]; decide
  · rw [pnum_form (by simpa using h1)]; decide
theorem rsplit_some {s : ByteArray} {l : List (List UInt8)} (h : splitF s.data.toList = some l) (hl : l.length ≤ 4096) (hs : s.size ≤ 100000000) (w : World) :
    Calls Tryz.prog 52 #[.string s] w fun e w' => (∃ v, e = .returned (.tuple #[v, .int .i64 0]) ∧ w'.ownsRow w.heap.size 9 1 v l.length (strL (txt l))) ∧ Grew w w' :=
  (rsplit_ok s hs w).mono fun e w' ⟨hh, hg⟩ => by
    refine ⟨?_, hg⟩
    rcases hh with ⟨h1, _⟩ | ⟨l', h1, h2⟩
    · rw [h] at h1; cases h1
    · rw [h] at h1
      injection h1 with h1
      subst h1
      rcases h2 with ⟨h3, _⟩ | ⟨_, h4⟩
      · omega
      · exact h4
set_option maxRecDepth 100000 in
set_option maxHeartbeats 2000000 in
theorem rps_four (tj : ByteArray) (x0 x1 x2 x3 : List UInt8) (hsp : splitF tj.data.toList = some [x0, x1, x2, x3]) (hz : tj.size ≤ 1000000) (l0 : x0.length ≤ 1000000) (l1 : x1.length ≤ 1000000) (l2 : x2.length ≤ 1000000) (l3 : x3.length ≤ 1000000) (hno : sig4 x0 x1 x2 x3 = false) (w : World) :
    Calls Tryz.prog 28 #[.string tj] w fun e w' => e = .returned (.tuple #[.agg (#[.int .i64 0, .int .i64 0, .int .u64 0, .int .u64 0, .int .u64 0, .int .u64 0, .int .u64 0, .int .u64 0, .int .u64 0, .int .u64 0, .int .u64 0, .int .u64 0, .int .u64 0, .int .u64 0, .int .u64 0, .int .u64 0, .int .u64 0, .int .u64 0, .int .u64 0, .int .u64 0, .slice none 0 0]), .int .i64 2]) ∧ Grew w w' := by
  have CS := Lib.hid (fun W => rsplit_some (s := tj) (l := [x0, x1, x2, x3]) hsp (by simp) (by omega) W)
  rw [show txt [x0, x1, x2, x3] = [⟨x0.toArray⟩, ⟨x1.toArray⟩, ⟨x2.toArray⟩, ⟨x3.toArray⟩] from rfl] at CS
  have u0 := (fun W => rparse_ok ⟨x0.toArray⟩ (by show x0.toArray.size ≤ _; simp; omega) W)
  have u1 := (fun W => rparse_ok ⟨x1.toArray⟩ (by show x1.toArray.size ≤ _; simp; omega) W)
  have dd2 := (fun W => rpdigs_ok ⟨x2.toArray⟩ (by show x2.toArray.size ≤ _; simp; omega) W)
  have dd3 := (fun W => rpdigs_ok ⟨x3.toArray⟩ (by show x3.toArray.size ≤ _; simp; omega) W)
  have hmx := pnum_max x1
  unfold sig4 uptoB at hno
  unfold pnumRes at u0 u1
  dsimp only at u0 u1 dd2 dd3
  generalize (pnum x0).1 = who at *
  generalize (pnum x1).1 = leaf at *
  generalize (pnum x0).2 = a at *
  generalize (pnum x1).2 = b at *
  generalize (pdigs x2).isSome = b2 at *
  generalize (pdigs x3).isSome = b3 at *
  generalize (pdigs x2).getD [] = q2 at *
  generalize (pdigs x3).getD [] = q3 at *
  have U0 := Lib.hid u0
  have U1 := Lib.hid u1
  have D2 := Lib.hid dd2
  have D3 := Lib.hid dd3
  clear u0 u1 dd2 dd3 hsp hz l0 l1 l2 l3
  generalize (⟨x0.toArray⟩ : ByteArray) = t0 at *
  generalize (⟨x1.toArray⟩ : ByteArray) = t1 at *
  generalize (⟨x2.toArray⟩ : ByteArray) = t2 at *
  generalize (⟨x3.toArray⟩ : ByteArray) = t3 at *
  have HNO := Lib.hid hno
  have HMX := Lib.hid hmx
  clear hno hmx
  have z0 := alloc_rsig w
  have g0 := grew_alloc (grew_refl w) (.cells (#[.int .i64 0, .int .i64 0, .int .u64 0, .int .u64 0, .int .u64 0, .int .u64 0, .int .u64 0, .int .u64 0, .int .u64 0, .int .u64 0, .int .u64 0, .int .u64 0, .int .u64 0, .int .u64 0, .int .u64 0, .int .u64 0, .int .u64 0, .int .u64 0, .int .u64 0, .int .u64 0, .slice none 0 0]) 45)
  have hus := Tryz.underlying45
  have bz : ∀ W, (Instr.build 45 #[]).run Tryz.prog W = .ok (.agg (#[.int .i64 0, .int .i64 0, .int .u64 0, .int .u64 0, .int .u64 0, .int .u64 0, .int .u64 0, .int .u64 0, .int .u64 0, .int .u64 0, .int .u64 0, .int .u64 0, .int .u64 0, .int .u64 0, .int .u64 0, .int .u64 0, .int .u64 0, .int .u64 0, .int .u64 0, .int .u64 0, .slice none 0 0])) W := fun W => run_build W 45 #[] _ rg_zero
  have HSI : Hid ((Tryz.prog.info? 45).map (·.size) = some (#[.int .i64 0, .int .i64 0, .int .u64 0, .int .u64 0, .int .u64 0, .int .u64 0, .int .u64 0, .int .u64 0, .int .u64 0, .int .u64 0, .int .u64 0, .int .u64 0, .int .u64 0, .int .u64 0, .int .u64 0, .int .u64 0, .int .u64 0, .int .u64 0, .int .u64 0, .int .u64 0, .slice none 0 0] : Array Value).size) := Lib.hid rg_info
  have HON : Hid ((#[.int .i64 0, .int .i64 0, .int .u64 0, .int .u64 0, .int .u64 0, .int .u64 0, .int .u64 0, .int .u64 0, .int .u64 0, .int .u64 0, .int .u64 0, .int .u64 0, .int .u64 0, .int .u64 0, .int .u64 0, .int .u64 0, .int .u64 0, .int .u64 0, .int .u64 0, .int .u64 0, .slice none 0 0] : Array Value).all (·.oneCell') = true) := Lib.hid (by simp [Value.oneCell'])
  go_enter Tryz.func28, Tryz.ntmps28
  go_wp2_with fail
  refine (CS.out _).mono ?_
  rintro e w1 ⟨⟨v1, rfl, o1⟩, gg⟩
  have z1 := z0.grew gg
  have g1 := grew_trans g0 gg
  obtain ⟨g, k1, rfl, hk1, hgl, hcs⟩ := own_cells o1 (by simp)
  have x0 : w1.cell? ⟨g, 0, none⟩ = some (.string t0) := by simpa using hcs 0 (.string t0) rfl
  have x1 : w1.cell? ⟨g, 1, none⟩ = some (.string t1) := by simpa using hcs 1 (.string t1) rfl
  have x2 : w1.cell? ⟨g, 2, none⟩ = some (.string t2) := by simpa using hcs 2 (.string t2) rfl
  have x3 : w1.cell? ⟨g, 3, none⟩ = some (.string t3) := by simpa using hcs 3 (.string t3) rfl
  clear CS z0 g0 gg o1 hcs
  have hk1' : (4 : Int) ≤ (k1 : Int) := by
    have : 4 ≤ k1 := hk1
    omega
  go_wp2_with fail
  refine (U0.out _).mono ?_
  rintro e w2 ⟨rfl, hw2⟩
  have gg : Grew w1 w2 := by rw [hw2]; exact grew_refl _
  have y1 := (gg.cell (p := ⟨g, 1, none⟩) hgl).trans x1
  have y2 := (gg.cell (p := ⟨g, 2, none⟩) hgl).trans x2
  have y3 := (gg.cell (p := ⟨g, 3, none⟩) hgl).trans x3
  have hgl2 := Nat.lt_of_lt_of_le hgl gg.size
  have z2 := z1.grew gg
  have g2 := grew_trans g1 gg
  clear hw2 U0 x0 x1 x2 x3 z1 g1 gg hgl
  go_wp2_with fail
  refine (U1.out _).mono ?_
  rintro e w3 ⟨rfl, hw3⟩
  have gg : Grew w2 w3 := by rw [hw3]; exact grew_refl _
  have x2 := (gg.cell (p := ⟨g, 2, none⟩) hgl2).trans y2
  have x3 := (gg.cell (p := ⟨g, 3, none⟩) hgl2).trans y3
  have hgl3 := Nat.lt_of_lt_of_le hgl2 gg.size
  have z3 := z2.grew gg
  have g3 := grew_trans g2 gg
  clear hw3 U1 y1 y2 y3 z2 g2 gg hgl2
  go_wp2_with fail
  refine (D2.out _).mono ?_
  rintro e w4 ⟨⟨v4, rfl, o4⟩, gg⟩
  obtain ⟨A4, c4, rfl, -, -, -⟩ := own_rd o4
  have y3 := (gg.cell (p := ⟨g, 3, none⟩) hgl3).trans x3
  have z4 := z3.grew gg
  have g4 := grew_trans g3 gg
  clear D2 x2 x3 z3 g3 gg hgl3 o4
  go_wp2_with fail
  refine (D3.out _).mono ?_
  rintro e w5 ⟨⟨v5, rfl, o5⟩, gg⟩
  obtain ⟨A5, c5, rfl, -, -, -⟩ := own_rd o5
  have z5 := z4.grew gg
  have g5 := grew_trans g4 gg
  clear D3 y3 z4 g4 gg o5
  have HTH : Hid (w5.there w.heap.size 0 (#[.int .i64 0, .int .i64 0, .int .u64 0, .int .u64 0, .int .u64 0, .int .u64 0, .int .u64 0, .int .u64 0, .int .u64 0, .int .u64 0, .int .u64 0, .int .u64 0, .int .u64 0, .int .u64 0, .int .u64 0, .int .u64 0, .int .u64 0, .int .u64 0, .int .u64 0, .int .u64 0, .slice none 0 0] : Array Value).size) := Lib.hid (z5.thereN 21 rfl)
  have z2 := Ag.set (vs := (#[.int .i64 0, .int .i64 0, .int .u64 0, .int .u64 0, .int .u64 0, .int .u64 0, .int .u64 0, .int .u64 0, .int .u64 0, .int .u64 0, .int .u64 0, .int .u64 0, .int .u64 0, .int .u64 0, .int .u64 0, .int .u64 0, .int .u64 0, .int .u64 0, .int .u64 0, .int .u64 0, .slice none 0 0] : Array Value).toList) z5 rfl
  have g2 := setCells_grew (o := 0) (b := w.heap.size) (#[.int .i64 0, .int .i64 0, .int .u64 0, .int .u64 0, .int .u64 0, .int .u64 0, .int .u64 0, .int .u64 0, .int .u64 0, .int .u64 0, .int .u64 0, .int .u64 0, .int .u64 0, .int .u64 0, .int .u64 0, .int .u64 0, .int .u64 0, .int .u64 0, .int .u64 0, .int .u64 0, .slice none 0 0] : Array Value).toList g5 (Nat.le_refl _)
  clear z5 g5
  cases E1 : (a != 0)
  case true =>
    go_wp2_with (with_reducible refine wpList_store_mid rfl 45 (.tmp 2) (.tmp 93) rfl w.heap.size 0 (#[.int .i64 0, .int .i64 0, .int .u64 0, .int .u64 0, .int .u64 0, .int .u64 0, .int .u64 0, .int .u64 0, .int .u64 0, .int .u64 0, .int .u64 0, .int .u64 0, .int .u64 0, .int .u64 0, .int .u64 0, .int .u64 0, .int .u64 0, .int .u64 0, .int .u64 0, .int .u64 0, .slice none 0 0]) rfl rfl HTH.out HSI.out HON.out ?_)
    exact bodyPost_ret (results_ag2 Tryz.results28 _ _ w.heap.size _ _ _ rfl rfl z2 hus rfl rg_info) rfl ⟨rfl, g2⟩
  case false =>
  skip
  cases E2 : (b != 0)
  case true =>
    go_wp2_with (with_reducible refine wpList_store_mid rfl 45 (.tmp 2) (.tmp 93) rfl w.heap.size 0 (#[.int .i64 0, .int .i64 0, .int .u64 0, .int .u64 0, .int .u64 0, .int .u64 0, .int .u64 0, .int .u64 0, .int .u64 0, .int .u64 0, .int .u64 0, .int .u64 0, .int .u64 0, .int .u64 0, .int .u64 0, .int .u64 0, .int .u64 0, .int .u64 0, .int .u64 0, .int .u64 0, .slice none 0 0]) rfl rfl HTH.out HSI.out HON.out ?_)
    exact bodyPost_ret (results_ag2 Tryz.results28 _ _ w.heap.size _ _ _ rfl rfl z2 hus rfl rg_info) rfl ⟨rfl, g2⟩
  case false =>
  skip
  cases b2
  case false =>
    go_wp2_with (with_reducible refine wpList_store_mid rfl 45 (.tmp 2) (.tmp 93) rfl w.heap.size 0 (#[.int .i64 0, .int .i64 0, .int .u64 0, .int .u64 0, .int .u64 0, .int .u64 0, .int .u64 0, .int .u64 0, .int .u64 0, .int .u64 0, .int .u64 0, .int .u64 0, .int .u64 0, .int .u64 0, .int .u64 0, .int .u64 0, .int .u64 0, .int .u64 0, .int .u64 0, .int .u64 0, .slice none 0 0]) rfl rfl HTH.out HSI.out HON.out ?_)
    exact bodyPost_ret (results_ag2 Tryz.results28 _ _ w.heap.size _ _ _ rfl rfl z2 hus rfl rg_info) rfl ⟨rfl, g2⟩
  case true =>
  skip
  cases b3
  case false =>
    go_wp2_with (with_reducible refine wpList_store_mid rfl 45 (.tmp 2) (.tmp 93) rfl w.heap.size 0 (#[.int .i64 0, .int .i64 0, .int .u64 0, .int .u64 0, .int .u64 0, .int .u64 0, .int .u64 0, .int .u64 0, .int .u64 0, .int .u64 0, .int .u64 0, .int .u64 0, .int .u64 0, .int .u64 0, .int .u64 0, .int .u64 0, .int .u64 0, .int .u64 0, .int .u64 0, .int .u64 0, .slice none 0 0]) rfl rfl HTH.out HSI.out HON.out ?_)
    exact bodyPost_ret (results_ag2 Tryz.results28 _ _ w.heap.size _ _ _ rfl rfl z2 hus rfl rg_info) rfl ⟨rfl, g2⟩
  case true =>
  skip
  cases E5 : decide (who < 0)
  case true =>
    go_wp2_with (with_reducible refine wpList_store_mid rfl 45 (.tmp 2) (.tmp 93) rfl w.heap.size 0 (#[.int .i64 0, .int .i64 0, .int .u64 0, .int .u64 0, .int .u64 0, .int .u64 0, .int .u64 0, .int .u64 0, .int .u64 0, .int .u64 0, .int .u64 0, .int .u64 0, .int .u64 0, .int .u64 0, .int .u64 0, .int .u64 0, .int .u64 0, .int .u64 0, .int .u64 0, .int .u64 0, .slice none 0 0]) rfl rfl HTH.out HSI.out HON.out ?_)
    exact bodyPost_ret (results_ag2 Tryz.results28 _ _ w.heap.size _ _ _ rfl rfl z2 hus rfl rg_info) rfl ⟨rfl, g2⟩
  case false =>
  skip
  cases E6 : decide (15 < who)
  case true =>
    go_wp2_with (with_reducible refine wpList_store_mid rfl 45 (.tmp 2) (.tmp 93) rfl w.heap.size 0 (#[.int .i64 0, .int .i64 0, .int .u64 0, .int .u64 0, .int .u64 0, .int .u64 0, .int .u64 0, .int .u64 0, .int .u64 0, .int .u64 0, .int .u64 0, .int .u64 0, .int .u64 0, .int .u64 0, .int .u64 0, .int .u64 0, .int .u64 0, .int .u64 0, .int .u64 0, .int .u64 0, .slice none 0 0]) rfl rfl HTH.out HSI.out HON.out ?_)
    exact bodyPost_ret (results_ag2 Tryz.results28 _ _ w.heap.size _ _ _ rfl rfl z2 hus rfl rg_info) rfl ⟨rfl, g2⟩
  case false =>
  skip
  cases E7 : decide (leaf < 0)
  case true =>
    go_wp2_with (with_reducible refine wpList_store_mid rfl 45 (.tmp 2) (.tmp 93) rfl w.heap.size 0 (#[.int .i64 0, .int .i64 0, .int .u64 0, .int .u64 0, .int .u64 0, .int .u64 0, .int .u64 0, .int .u64 0, .int .u64 0, .int .u64 0, .int .u64 0, .int .u64 0, .int .u64 0, .int .u64 0, .int .u64 0, .int .u64 0, .int .u64 0, .int .u64 0, .int .u64 0, .int .u64 0, .slice none 0 0]) rfl rfl HTH.out HSI.out HON.out ?_)
    exact bodyPost_ret (results_ag2 Tryz.results28 _ _ w.heap.size _ _ _ rfl rfl z2 hus rfl rg_info) rfl ⟨rfl, g2⟩
  case false =>
  skip
  cases E8 : ((q2.length : Int) != 18)
  case true =>
    go_wp2_with (with_reducible refine wpList_store_mid rfl 45 (.tmp 2) (.tmp 93) rfl w.heap.size 0 (#[.int .i64 0, .int .i64 0, .int .u64 0, .int .u64 0, .int .u64 0, .int .u64 0, .int .u64 0, .int .u64 0, .int .u64 0, .int .u64 0, .int .u64 0, .int .u64 0, .int .u64 0, .int .u64 0, .int .u64 0, .int .u64 0, .int .u64 0, .int .u64 0, .int .u64 0, .int .u64 0, .slice none 0 0]) rfl rfl HTH.out HSI.out HON.out ?_)
    exact bodyPost_ret (results_ag2 Tryz.results28 _ _ w.heap.size _ _ _ rfl rfl z2 hus rfl rg_info) rfl ⟨rfl, g2⟩
  case false =>
  skip
  cases E9 : decide (8 < (q3.length : Int))
  case true =>
    go_wp2_with (with_reducible refine wpList_store_mid rfl 45 (.tmp 2) (.tmp 93) rfl w.heap.size 0 (#[.int .i64 0, .int .i64 0, .int .u64 0, .int .u64 0, .int .u64 0, .int .u64 0, .int .u64 0, .int .u64 0, .int .u64 0, .int .u64 0, .int .u64 0, .int .u64 0, .int .u64 0, .int .u64 0, .int .u64 0, .int .u64 0, .int .u64 0, .int .u64 0, .int .u64 0, .int .u64 0, .slice none 0 0]) rfl rfl HTH.out HSI.out HON.out ?_)
    exact bodyPost_ret (results_ag2 Tryz.results28 _ _ w.heap.size _ _ _ rfl rfl z2 hus rfl rg_info) rfl ⟨rfl, g2⟩
  case false =>
  skip
  exfalso
  have h := HNO.out
  have hm := HMX.out
  simp only [bne_eq_false_iff_eq, decide_eq_false_iff_not] at E1 E2 E5 E6 E7 E8 E9
  have h1 : decide (a = 0 ∧ 0 ≤ who ∧ who ≤ 15) = true := decide_eq_true ⟨E1, by omega, by omega⟩
  have h2 : decide (b = 0 ∧ 0 ≤ leaf ∧ leaf ≤ 9223372036854775807) = true := decide_eq_true ⟨E2, by omega, hm⟩
  have h3 : decide (q2.length = 18) = true := decide_eq_true (by omega)
  have h4 : decide (q3.length ≤ 8) = true := decide_eq_true (by omega)
  rw [h1, h2, h3, h4] at h
  exact absurd h (by decide)
end Go.Proofs.YtpgbfglfgcidaaaGreatDoor

namespace Go.Proofs.YtpgbfglfgcidaaaGreatDoor
set_option linter.unusedSimpArgs false
set_option linter.unusedVariables false
open Go.RowKit
set_option linter.unusedVariables false
set_option linter.unusedSimpArgs false
def fillS (s : Nat → Nat) (k : Nat) : Nat → Nat := fun j => if j < k then s j else 0
theorem sgC_put (who leaf : Int) (s : Nat → Nat) (pv : Value) : ∀ k, k < 18 → (sgC who leaf (fillS s k) pv).toList.set (2 + k) (.int .u64 (s k : Nat)) = (sgC who leaf (fillS s (k + 1)) pv).toList
  | 0, _ => by simp [sgC, fillS, u64V]
  | 1, _ => by simp [sgC, fillS, u64V]
  | 2, _ => by simp [sgC, fillS, u64V]
  | 3, _ => by simp [sgC, fillS, u64V]
  | 4, _ => by simp [sgC, fillS, u64V]
  | 5, _ => by simp [sgC, fillS, u64V]
  | 6, _ => by simp [sgC, fillS, u64V]
  | 7, _ => by simp [sgC, fillS, u64V]
  | 8, _ => by simp [sgC, fillS, u64V]
  | 9, _ => by simp [sgC, fillS, u64V]
  | 10, _ => by simp [sgC, fillS, u64V]
  | 11, _ => by simp [sgC, fillS, u64V]
  | 12, _ => by simp [sgC, fillS, u64V]
  | 13, _ => by simp [sgC, fillS, u64V]
  | 14, _ => by simp [sgC, fillS, u64V]
  | 15, _ => by simp [sgC, fillS, u64V]
  | 16, _ => by simp [sgC, fillS, u64V]
  | 17, _ => by simp [sgC, fillS, u64V]
  | n + 18, h => by omega
theorem sgC_full (who leaf : Int) (s : Nat → Nat) (pv : Value) : sgC who leaf (fillS s 18) pv = sgC who leaf s pv := by simp [sgC, fillS]
theorem sgC_none (who leaf : Int) (s : Nat → Nat) (pv : Value) : sgC who leaf (fillS s 0) pv = sgC who leaf (fun _ => 0) pv := by simp [sgC, fillS]
set_option maxRecDepth 100000 in
theorem rg_built3 (who leaf : Int) (A : Option Addr) (n c : Nat) : Tryz.prog.built 45 [(0, .int .i64 who), (1, .int .i64 leaf), (3, .slice A n c)] = some (sgC who leaf (fun _ => 0) (.slice A n c)) := by kernel_rfl
set_option maxRecDepth 100000 in
set_option maxHeartbeats 2000000 in
theorem rps_core (tj : ByteArray) (x0 x1 x2 x3 : List UInt8) (who leaf : Int) (s : Nat → Nat) (l : List Nat) (hsp : splitF tj.data.toList = some [x0, x1, x2, x3]) (hz : tj.size ≤ 1000000) (l0 : x0.length ≤ 1000000) (l1 : x1.length ≤ 1000000) (l2 : x2.length ≤ 1000000) (l3 : x3.length ≤ 1000000)
    (p0 : (pnum x0).1 = who) (b0 : uptoB x0 15 = true) (p1 : (pnum x1).1 = leaf) (b1 : uptoB x1 9223372036854775807 = true) (d2 : pdigs x2 = some (oneL s)) (d3 : pdigs x3 = some l) (hl : l.length ≤ 8) (w : World) :
    Calls Tryz.prog 28 #[.string tj] w fun e w' => (∃ A c, e = .returned (.tuple #[.agg (sgC who leaf s (.slice A l.length c)), .int .i64 0]) ∧ Rd w' w'.heap.size A (u64L l) ∧ (∀ ad, A = some ad → w.heap.size < ad.block)) ∧ Grew w w' := by
  have CS := Lib.hid (fun W => rsplit_some (s := tj) (l := [x0, x1, x2, x3]) hsp (by simp) (by omega) W)
  rw [show txt [x0, x1, x2, x3] = [⟨x0.toArray⟩, ⟨x1.toArray⟩, ⟨x2.toArray⟩, ⟨x3.toArray⟩] from rfl] at CS
  have u0 := (fun W => rparse_ok ⟨x0.toArray⟩ (by show x0.toArray.size ≤ _; simp; omega) W)
  have u1 := (fun W => rparse_ok ⟨x1.toArray⟩ (by show x1.toArray.size ≤ _; simp; omega) W)
  have dd2 := (fun W => rpdigs_ok ⟨x2.toArray⟩ (by show x2.toArray.size ≤ _; simp; omega) W)
  have dd3 := (fun W => rpdigs_ok ⟨x3.toArray⟩ (by show x3.toArray.size ≤ _; simp; omega) W)
  unfold uptoB at b0 b1
  obtain ⟨ea, ew0, ew1⟩ := of_decide_eq_true b0
  obtain ⟨eb, el0, -⟩ := of_decide_eq_true b1
  unfold pnumRes at u0 u1
  dsimp only at u0 u1 dd2 dd3
  rw [p0, ea] at u0
  rw [p1, eb] at u1
  rw [p0] at ew0 ew1
  rw [p1] at el0
  rw [d2, Option.isSome_some, Option.getD_some, oneL_length] at dd2
  rw [d3, Option.isSome_some, Option.getD_some] at dd3
  have U0 := Lib.hid u0
  have U1 := Lib.hid u1
  have D2 := Lib.hid dd2
  have D3 := Lib.hid dd3
  clear u0 u1 dd2 dd3 hsp hz l0 l1 l2 l3 p0 p1 d2 d3 ea eb b0 b1
  generalize (⟨x0.toArray⟩ : ByteArray) = t0 at *
  generalize (⟨x1.toArray⟩ : ByteArray) = t1 at *
  generalize (⟨x2.toArray⟩ : ByteArray) = t2 at *
  generalize (⟨x3.toArray⟩ : ByteArray) = t3 at *
  have E5 : decide (who < 0) = false := by simp; omega
  have E6 : decide (15 < who) = false := by simp; omega
  have E7 : decide (leaf < 0) = false := by simp; omega
  have E9 : decide (8 < (l.length : Int)) = false := by simp; omega
  have HE := Lib.hid (And.intro E5 (And.intro E6 (And.intro E7 E9)))
  clear E5 E6 E7 E9 ew0 ew1 el0
  have z0 := alloc_rsig w
  have g0 := grew_alloc (grew_refl w) (.cells (#[.int .i64 0, .int .i64 0, .int .u64 0, .int .u64 0, .int .u64 0, .int .u64 0, .int .u64 0, .int .u64 0, .int .u64 0, .int .u64 0, .int .u64 0, .int .u64 0, .int .u64 0, .int .u64 0, .int .u64 0, .int .u64 0, .int .u64 0, .int .u64 0, .int .u64 0, .int .u64 0, .slice none 0 0]) 45)
  have hus := Tryz.underlying45
  have bz : ∀ W, (Instr.build 45 #[]).run Tryz.prog W = .ok (.agg (#[.int .i64 0, .int .i64 0, .int .u64 0, .int .u64 0, .int .u64 0, .int .u64 0, .int .u64 0, .int .u64 0, .int .u64 0, .int .u64 0, .int .u64 0, .int .u64 0, .int .u64 0, .int .u64 0, .int .u64 0, .int .u64 0, .int .u64 0, .int .u64 0, .int .u64 0, .int .u64 0, .slice none 0 0])) W := fun W => run_build W 45 #[] _ rg_zero
  have HSI : Hid ((Tryz.prog.info? 45).map (·.size) = some (#[.int .i64 0, .int .i64 0, .int .u64 0, .int .u64 0, .int .u64 0, .int .u64 0, .int .u64 0, .int .u64 0, .int .u64 0, .int .u64 0, .int .u64 0, .int .u64 0, .int .u64 0, .int .u64 0, .int .u64 0, .int .u64 0, .int .u64 0, .int .u64 0, .int .u64 0, .int .u64 0, .slice none 0 0] : Array Value).size) := Lib.hid rg_info
  have HON : Hid ((#[.int .i64 0, .int .i64 0, .int .u64 0, .int .u64 0, .int .u64 0, .int .u64 0, .int .u64 0, .int .u64 0, .int .u64 0, .int .u64 0, .int .u64 0, .int .u64 0, .int .u64 0, .int .u64 0, .int .u64 0, .int .u64 0, .int .u64 0, .int .u64 0, .int .u64 0, .int .u64 0, .slice none 0 0] : Array Value).all (·.oneCell') = true) := Lib.hid (by simp [Value.oneCell'])
  go_enter Tryz.func28, Tryz.ntmps28
  go_wp2_with fail
  refine (CS.out _).mono ?_
  rintro e w1 ⟨⟨v1, rfl, o1⟩, gg⟩
  have z1 := z0.grew gg
  have g1 := grew_trans g0 gg
  obtain ⟨g, k1, rfl, hk1, hgl, hcs⟩ := own_cells o1 (by simp)
  have x0 : w1.cell? ⟨g, 0, none⟩ = some (.string t0) := by simpa using hcs 0 (.string t0) rfl
  have x1 : w1.cell? ⟨g, 1, none⟩ = some (.string t1) := by simpa using hcs 1 (.string t1) rfl
  have x2 : w1.cell? ⟨g, 2, none⟩ = some (.string t2) := by simpa using hcs 2 (.string t2) rfl
  have x3 : w1.cell? ⟨g, 3, none⟩ = some (.string t3) := by simpa using hcs 3 (.string t3) rfl
  clear CS z0 g0 gg o1 hcs
  have hk1' : (4 : Int) ≤ (k1 : Int) := by
    have : 4 ≤ k1 := hk1
    omega
  go_wp2_with fail
  refine (U0.out _).mono ?_
  rintro e w2 ⟨rfl, hw2⟩
  have gg : Grew w1 w2 := by rw [hw2]; exact grew_refl _
  have y1 := (gg.cell (p := ⟨g, 1, none⟩) hgl).trans x1
  have y2 := (gg.cell (p := ⟨g, 2, none⟩) hgl).trans x2
  have y3 := (gg.cell (p := ⟨g, 3, none⟩) hgl).trans x3
  have hgl2 := Nat.lt_of_lt_of_le hgl gg.size
  have z2 := z1.grew gg
  have g2 := grew_trans g1 gg
  clear hw2 U0 x0 x1 x2 x3 z1 g1 gg hgl
  go_wp2_with fail
  refine (U1.out _).mono ?_
  rintro e w3 ⟨rfl, hw3⟩
  have gg : Grew w2 w3 := by rw [hw3]; exact grew_refl _
  have x2 := (gg.cell (p := ⟨g, 2, none⟩) hgl2).trans y2
  have x3 := (gg.cell (p := ⟨g, 3, none⟩) hgl2).trans y3
  have hgl3 := Nat.lt_of_lt_of_le hgl2 gg.size
  have z3 := z2.grew gg
  have g3 := grew_trans g2 gg
  clear hw3 U1 y1 y2 y3 z2 g2 gg hgl2
  go_wp2_with fail
  refine (D2.out _).mono ?_
  rintro e w4 ⟨⟨v4, rfl, o4⟩, gg⟩
  obtain ⟨A4, c4, rfl, -, -, r4⟩ := own_rd o4
  have y3 := (gg.cell (p := ⟨g, 3, none⟩) hgl3).trans x3
  have z4 := z3.grew gg
  have g4 := grew_trans g3 gg
  have HNF4 : Hid (∀ ad, A4 = some ad → w.heap.size < ad.block) := Lib.hid (fun ad h => by
    have h1 := own_base o4 ad.block (by rw [h]; rfl)
    have h2 := z3.lt
    omega)
  clear D2 x2 x3 z3 g3 gg hgl3 o4
  go_wp2_with fail
  refine (D3.out _).mono ?_
  rintro e w5 ⟨⟨v5, rfl, o5⟩, gg⟩
  obtain ⟨A5, c5, rfl, -, -, r5⟩ := own_rd o5
  have HNE : Hid (∀ ad, A5 = some ad → w.heap.size < ad.block) := Lib.hid (fun ad h => by
    have h1 := own_base o5 ad.block (by rw [h]; rfl)
    have h2 := z4.lt
    omega)
  have HNF : Hid (∀ ad, A4 = some ad → w.heap.size < ad.block) := HNF4
  have r45 := r4.gr gg
  have z5 := z4.grew gg
  have g5 := grew_trans g4 gg
  clear D3 y3 z4 g4 gg o5 r4 HNF4
  obtain ⟨E5, E6, E7, E9⟩ := HE.out
  go_upto_region 10 with fail
  clear E5 E6 E7 E9
  have hbu := rg_built3 who leaf A5 l.length c5
  have hlt5 := z5.lt
  have ga := grew_alloc (grew_refl w5) (.cells (#[.int .i64 0, .int .i64 0, .int .u64 0, .int .u64 0, .int .u64 0, .int .u64 0, .int .u64 0, .int .u64 0, .int .u64 0, .int .u64 0, .int .u64 0, .int .u64 0, .int .u64 0, .int .u64 0, .int .u64 0, .int .u64 0, .int .u64 0, .int .u64 0, .int .u64 0, .int .u64 0, .slice none 0 0]) 45)
  have zn := alloc_rsig w5
  have zr := z5.grew ga
  have ra4 := r45.below ga
  have ra5 := r5.below ga
  have gn := grew_trans g5 ga
  clear z5 g5 r45 r5
  obtain ⟨cs0, hcs0⟩ : ∃ cs0, sgC who leaf (fun _ => 0) (.slice A5 l.length c5) = cs0 := ⟨_, rfl⟩
  have hz0 : cs0.size = 21 := by rw [← hcs0]; rfl
  have ho0 : cs0.all (·.oneCell') = true := by rw [← hcs0]; exact sgC_one _ _ _ _ _ _
  rw [hcs0] at hbu
  have HBU := Lib.hid hbu
  have HTN : Hid ((w5.alloc (.cells (#[.int .i64 0, .int .i64 0, .int .u64 0, .int .u64 0, .int .u64 0, .int .u64 0, .int .u64 0, .int .u64 0, .int .u64 0, .int .u64 0, .int .u64 0, .int .u64 0, .int .u64 0, .int .u64 0, .int .u64 0, .int .u64 0, .int .u64 0, .int .u64 0, .int .u64 0, .int .u64 0, .slice none 0 0]) 45)).there w5.heap.size 0 cs0.size) := Lib.hid (by rw [hz0]; exact zn.thereN 21 rfl)
  have HSN : Hid ((Tryz.prog.info? 45).map (·.size) = some cs0.size) := Lib.hid (by rw [hz0]; exact rg_info)
  have HO2 := Lib.hid ho0
  have K := setCells_kp cs0.toList w5.heap.size 0 (w5.alloc (.cells (#[.int .i64 0, .int .i64 0, .int .u64 0, .int .u64 0, .int .u64 0, .int .u64 0, .int .u64 0, .int .u64 0, .int .u64 0, .int .u64 0, .int .u64 0, .int .u64 0, .int .u64 0, .int .u64 0, .int .u64 0, .int .u64 0, .int .u64 0, .int .u64 0, .int .u64 0, .int .u64 0, .slice none 0 0]) 45))
  have zn2 := Ag.set (vs := cs0.toList) zn (by simp [hz0])
  have zr2 := zr.kp K (by omega)
  have rb4 := ra4.kp K (by simp) (fun ad _ h2 (h3 : ad.block = w5.heap.size) => by omega)
  have rb5 := ra5.kp K (by simp) (fun ad _ h2 (h3 : ad.block = w5.heap.size) => by omega)
  have gn2 := setCells_grew (o := 0) (b := w5.heap.size) cs0.toList gn (by omega)
  rw [← hcs0, ← sgC_none who leaf s] at zn2
  rw [hcs0.symm.trans (sgC_none who leaf s _).symm] at zr2 rb4 rb5 gn2
  have HZ : Hid (sgC who leaf (fillS s 0) (.slice A5 l.length c5) = cs0) := Lib.hid ((sgC_none who leaf s _).trans hcs0)
  clear zn zr ra4 ra5 gn K hbu hz0 ho0 hcs0 ga
  have HF1 := Lib.hid zn2
  have HF2 := Lib.hid zr2
  have HF3 := Lib.hid rb4
  have HF4 := Lib.hid rb5
  have HF5 := Lib.hid gn2
  clear zn2 zr2 rb4 rb5 gn2
  go_wp2_with (first
    | (with_reducible refine wpList_build_is rfl 45 #[(0, .tmp 94), (1, .tmp 95), (3, .tmp 96)] rfl cs0 ?_ ?_; · simpa [Act.eval, Act.put] using HBU.out)
    | (with_reducible refine wpList_store_mid rfl 45 (.tmp 14) (.tmp 97) rfl w5.heap.size 0 cs0 rfl rfl HTN.out HSN.out HO2.out ?_))
  rw [← HZ.out]
  clear HBU HTN HSN HO2 HZ
  go_loopw [15] (fun i wr => ∃ k : Nat, k ≤ 18 ∧ i = .int .i64 k ∧ Ag wr w5.heap.size (sgC who leaf (fillS s k) (.slice A5 l.length c5)).toList ∧ Ag wr w.heap.size (#[.int .i64 0, .int .i64 0, .int .u64 0, .int .u64 0, .int .u64 0, .int .u64 0, .int .u64 0, .int .u64 0, .int .u64 0, .int .u64 0, .int .u64 0, .int .u64 0, .int .u64 0, .int .u64 0, .int .u64 0, .int .u64 0, .int .u64 0, .int .u64 0, .int .u64 0, .int .u64 0, .slice none 0 0] : Array Value).toList ∧ Rd wr w5.heap.size A4 (u64L (oneL s)) ∧ Rd wr w5.heap.size A5 (u64L l) ∧ Grew w wr) (fun i _ => 18 - (intOf i).toNat)
  case atStart => exact ⟨0, Nat.zero_le _, rfl, HF1.out, HF2.out, HF3.out, HF4.out, HF5.out⟩
  case round =>
    clear HF1 HF2 HF3 HF4 HF5
    obtain ⟨k, hk, rfl, hn, hz, h4, h5, hg⟩ := hrel
    by_cases hlt : k < 18
    · obtain ⟨ad, hA, -, hc0⟩ := rd_u64 h4 k (by rw [oneL_length]; exact hlt)
      rw [show (oneL s)[k]'(by rw [oneL_length]; exact hlt) = s k by simp [oneL]] at hc0
      have hk0 : (0 : Int) ≤ (k : Int) := by omega
      have hk1 : (k : Int) < 18 := by omega
      have hc2 := sg_at hn k hlt
      have hf2 := (hn.there (2 + k) (by rw [sgC_len]; omega)).2
      rw [Nat.zero_add] at hf2
      have m := hn.set1 (2 + k) (.int .u64 (s k : Nat)) (by rw [sgC_len]; omega)
      rw [sgC_put who leaf s _ k hlt] at m
      have K := setCells_kp [.int .u64 (s k : Nat)] w5.heap.size (2 + k) wr
      rw [show wr.setCells w5.heap.size (2 + k) [.int .u64 (s k : Nat)] = wr.setCell ⟨w5.heap.size, 2 + k, none⟩ (.int .u64 (s k : Nat)) from rfl] at K
      have M1 := Lib.hid m
      have hnl := hn.lt
      have M2 := Lib.hid (hz.kp K (by omega))
      have M3 := Lib.hid (h4.kp K (by omega) (fun ad _ h2 (h3 : ad.block = w5.heap.size) => by omega))
      have M4 := Lib.hid (h5.kp K (by omega) (fun ad _ h2 (h3 : ad.block = w5.heap.size) => by omega))
      have M5 := Lib.hid (setCells_grew (o := 2 + k) (b := w5.heap.size) [.int .u64 (s k : Nat)] hg (by omega))
      clear m K hn hz h4 h5 hg
      subst hA
      go_wp2_with fail
      go_roundw
      case rel => exact ⟨k + 1, by omega, by go_num, M1.out, M2.out, M3.out, M4.out, M5.out⟩
      case measure => simp [intOf]; omega
    · obtain rfl : k = 18 := by omega
      rw [sgC_full] at hn
      obtain ⟨cs, hcs⟩ : ∃ cs, sgC who leaf s (.slice A5 l.length c5) = cs := ⟨_, rfl⟩
      have hzc : cs.size = 21 := by rw [← hcs]; rfl
      have ho : cs.all (·.oneCell') = true := by rw [← hcs]; exact sgC_one _ _ _ _ _ _
      rw [hcs] at hn
      have HM := Lib.hid hn.cell
      have HL : Hid ((Tryz.prog.info? 45).map (·.size) = some cs.toList.length) := Lib.hid (by rw [Array.length_toList, hzc]; exact rg_info)
      have HS2 : Hid ((Tryz.prog.info? 45).map (·.size) = some cs.size) := Lib.hid (by rw [hzc]; exact rg_info)
      have HO := Lib.hid ho
      have HTH : Hid (wr.there w.heap.size 0 cs.size) := Lib.hid (by rw [hzc]; exact hz.thereN 21 rfl)
      have z6 := Ag.set (vs := cs.toList) hz (by simp [hzc])
      have g6 := setCells_grew (o := 0) (b := w.heap.size) cs.toList hg (Nat.le_refl _)
      have h56 := hn.lt
      have r6 := (h5.kp (setCells_kp cs.toList w.heap.size 0 wr) (by omega) (fun ad h1 h2 (h3 : ad.block = w.heap.size) => by have := HNE.out ad h1; omega)).more (Nat.le_of_lt (Nat.lt_of_lt_of_le h56 (setCells_kp cs.toList w.heap.size 0 wr).size))
      have hcs2 := Lib.hid hcs
      clear hn hz h4 h5 hg ho hzc hcs
      go_wp2_with (first
        | (with_reducible refine wpList_load_mid rfl 45 (.tmp 14) rfl w5.heap.size 0 rfl cs.toList _ HM.out hus rfl HL.out ?_; simp only [Array.toArray_toList])
        | (with_reducible refine wpList_store_mid rfl 45 (.tmp 2) (.tmp 109) rfl w.heap.size 0 cs rfl rfl HTH.out HS2.out HO.out ?_))
      exact bodyPost_ret (results_ag2 Tryz.results28 _ _ w.heap.size _ _ _ rfl rfl z6 hus rfl (by simpa using HL.out)) rfl ⟨⟨A5, c5, by rw [hcs2.out, Array.toArray_toList]; rfl, r6, HNE.out⟩, g6⟩
end Go.Proofs.YtpgbfglfgcidaaaGreatDoor

namespace Go.Proofs.YtpgbfglfgcidaaaGreatDoor
set_option linter.unusedSimpArgs false
set_option linter.unusedVariables false
open Go.RowKit
set_option linter.unusedVariables false
set_option linter.unusedSimpArgs false
theorem fld_ge9 (f : List UInt8) : f.length ≤ (fld f).length := by
  induction f with
  | nil => simp [fld_nil]
  | cons c f ih =>
    rw [fld_cons, List.length_append, List.length_cons]
    have : 1 ≤ (esc c).length := by unfold esc; split <;> simp
    omega
theorem joinF_ge : ∀ (l : List (List UInt8)) (x : List UInt8), x ∈ l → x.length ≤ (joinF l).length
  | [], x, h => by cases h
  | f :: l, x, h => by
    rw [joinF_cons, List.length_cons, List.length_append]
    rcases List.mem_cons.1 h with rfl | h
    · have := fld_ge9 x; omega
    · have := joinF_ge l x h; omega
theorem split_ge {S : List UInt8} {l : List (List UInt8)} (h : splitF S = some l) (x : List UInt8) (hx : x ∈ l) : x.length ≤ S.length := by
  rw [← join_split S l h]
  exact joinF_ge l x hx
/-- a signature's words are a signature's where they may be -/
def sigB (who leaf : Int) (n : Nat) : Bool := decide (0 ≤ who ∧ who ≤ 15) && decide (0 ≤ leaf) && decide (n ≤ 8)
theorem sigP_sgT (who leaf : Int) (s : Nat → Nat) (l : List Nat) (hw : in64 who) (hlf : in64 leaf) (hs : ∀ k, k < 18 → s k < 18446744073709551616) (hb : ∀ n ∈ l, n < 18446744073709551616) :
    sigP (sgT who leaf s l) = if sigB who leaf l.length = true then some ((who, leaf), oneL s, l) else none := by
  unfold sigP sgT
  rw [split_join]
  have p0 := pnum_itoa hw.1 hw.2
  have p1 := pnum_itoa hlf.1 hlf.2
  have d2 := pdigs_digs (oneL s) (fun x hx => by
    obtain ⟨k, hk, rfl⟩ := List.mem_map.1 hx
    exact hs k (List.mem_range.1 hk))
  have d3 := pdigs_digs l hb
  have e : sig4 (Lib.itoa who) (Lib.itoa leaf) (digs (oneL s)) (digs l) = sigB who leaf l.length := by
    unfold sig4 uptoB sigB
    rw [p0, p1, d2, d3]
    have h2 := hlf.2
    simp only [Option.isSome_some, Option.getD_some, oneL_length, true_and, Bool.and_true, decide_true]
    rw [show decide (0 ≤ leaf ∧ leaf ≤ 9223372036854775807) = decide (0 ≤ leaf) from decide_eq_decide.2 ⟨fun h => h.1, fun h => ⟨h, h2⟩⟩]
  simp only [e, p0, p1, d2, d3, Option.getD_some]
theorem parseO_back {x : List UInt8} {d : Nat} (hp : parseO x = some d) : hexL d = x ∧ d < 18446744073709551616 := by
  have hl : x.length = 16 := by
    unfold parseO at hp
    split at hp
    · assumption
    · cases hp
  have hx : hexN x = some d := by
    unfold parseO at hp
    rwa [if_pos hl] at hp
  refine ⟨hexL_hexN _ _ hl hx, ?_⟩
  have h1 := hexN_lt _ _ hx
  rw [hl] at h1
  have h2 : (16 : Nat) ^ 16 = 18446744073709551616 := by decide
  omega
theorem pdigs_back {x : List UInt8} {q : List Nat} (h : pdigs x = some q) : digs q = x ∧ ∀ n ∈ q, n < 18446744073709551616 := by
  unfold pdigs at h
  by_cases hz : x = []
  · rw [if_pos hz] at h
    injection h with h
    subst h; subst hz
    exact ⟨rfl, fun n hn => by cases hn⟩
  · rw [if_neg hz] at h
    by_cases ha : allD (splitC x)
    · rw [if_pos ha] at h
      injection h with h
      subst h
      have key : ∀ l : List (List UInt8), allD l → (valsD l).map hexL = l ∧ ∀ n ∈ valsD l, n < 18446744073709551616 := by
        intro l hl
        induction l with
        | nil => exact ⟨rfl, fun n hn => by cases hn⟩
        | cons y l ih =>
          obtain ⟨i1, i2⟩ := ih (fun z hz => hl z (List.mem_cons_of_mem _ hz))
          obtain ⟨d, hd⟩ := Option.ne_none_iff_exists'.1 (hl y List.mem_cons_self)
          obtain ⟨b1, b2⟩ := parseO_back hd
          have hv : valsD (y :: l) = d :: valsD l := by simp [valsD, hd]
          rw [hv]
          refine ⟨by rw [List.map_cons, i1, b1], fun n hn => ?_⟩
          rcases List.mem_cons.1 hn with rfl | hn
          · exact b2
          · exact i2 n hn
      obtain ⟨k1, k2⟩ := key _ ha
      refine ⟨?_, k2⟩
      unfold digs
      rw [k1, joinC_splitC]
    · rw [if_neg ha] at h; cases h
/-- what a text's signature is, and its words are the text again -/
theorem sigP_back {S : List UInt8} {who leaf : Int} {q l : List Nat} (h : sigP S = some ((who, leaf), q, l)) :
    ∃ x0 x1 x2 x3, splitF S = some [x0, x1, x2, x3] ∧ (pnum x0).1 = who ∧ uptoB x0 15 = true ∧ (pnum x1).1 = leaf ∧ uptoB x1 9223372036854775807 = true ∧ pdigs x2 = some q ∧ pdigs x3 = some l ∧ q.length = 18 ∧ l.length ≤ 8 ∧ joinF [Lib.itoa who, Lib.itoa leaf, digs q, digs l] = S := by
  unfold sigP at h
  split at h
  · rename_i x0 x1 x2 x3 hsp
    by_cases hg : sig4 x0 x1 x2 x3 = true
    · rw [if_pos hg] at h
      injection h with h
      injection h with h1 h2
      injection h1 with h3 h4
      injection h2 with h5 h6
      unfold sig4 at hg
      simp only [Bool.and_eq_true, decide_eq_true_eq] at hg
      obtain ⟨⟨⟨⟨⟨g0, g1⟩, g2⟩, g3⟩, g4⟩, g5⟩ := hg
      obtain ⟨q2, e2⟩ := Option.isSome_iff_exists.1 g2
      obtain ⟨q3, e3⟩ := Option.isSome_iff_exists.1 g3
      rw [e2, Option.getD_some] at h5 g4
      rw [e3, Option.getD_some] at h6 g5
      subst h5; subst h6
      refine ⟨x0, x1, x2, x3, hsp, h3, g0, h4, g1, e2, e3, g4, g5, ?_⟩
      have z0 := (pnum_zero (of_decide_eq_true g0).1).1
      have z1 := (pnum_zero (of_decide_eq_true g1).1).1
      rw [h3] at z0
      rw [h4] at z1
      rw [z0, z1, (pdigs_back e2).1, (pdigs_back e3).1]
      exact join_split S _ hsp
    · rw [if_neg hg] at h; cases h
  · cases h
end Go.Proofs.YtpgbfglfgcidaaaGreatDoor

namespace Go.Proofs.YtpgbfglfgcidaaaGreatDoor
set_option linter.unusedSimpArgs false
set_option linter.unusedVariables false
open Go.RowKit
set_option linter.unusedVariables false
set_option linter.unusedSimpArgs false
theorem oneL_of {q : List Nat} (h : q.length = 18) : oneL (fun k => q.getD k 0) = q := by
  apply List.ext_getElem (by rw [oneL_length, h])
  intro i h1 h2
  simp [oneL, List.getD_eq_getElem?_getD, h2]
/-- the fields of what has been read -/
def sgO : Option ((Int × Int) × List Nat × List Nat) → (Int × Int) × (Nat → Nat) × List Nat
  | some (p, q, l) => (p, fun k => q.getD k 0, l)
  | none => ((0, 0), fun _ => 0, [])
def sgE (o : Option ((Int × Int) × List Nat × List Nat)) : Int := if o.isSome = true then 0 else 2
set_option maxRecDepth 100000 in
theorem kparse_any (tj : ByteArray) (hz : tj.size ≤ 1000000) (w : World) (hS : Std w) :
    Calls Tryz.prog 27 #[.string tj] w fun e w' => (∃ A c, e = .returned (.tuple #[.agg (sgC (sgO (sigP tj.data.toList)).1.1 (sgO (sigP tj.data.toList)).1.2 (sgO (sigP tj.data.toList)).2.1 (.slice A (sgO (sigP tj.data.toList)).2.2.length c)), .int .i64 (sgE (sigP tj.data.toList))]) ∧ Rd w' w'.heap.size A (u64L (sgO (sigP tj.data.toList)).2.2)) ∧ Grew w w' := by
  have hlen : tj.data.toList.length ≤ 1000000 := by rw [ba_len]; exact hz
  cases hp : sigP tj.data.toList with
  | none =>
    by_cases h4 : ∃ x0 x1 x2 x3, splitF tj.data.toList = some [x0, x1, x2, x3]
    · obtain ⟨x0, x1, x2, x3, hsp⟩ := h4
      have g := fun x hx => Nat.le_trans (split_ge hsp x hx) hlen
      have hno : sig4 x0 x1 x2 x3 = false := by
        unfold sigP at hp
        rw [hsp] at hp
        by_cases h : sig4 x0 x1 x2 x3 = true
        · simp only [h, if_true] at hp; cases hp
        · simpa using h
      exact (kparse_four tj x0 x1 x2 x3 hsp hz (g x0 (by simp)) (g x1 (by simp)) (g x2 (by simp)) (g x3 (by simp)) hno w hS).mono fun e w' ⟨h1, h2⟩ => ⟨⟨none, 0, h1, fun k hk => absurd hk (by simp [sgO, u64L])⟩, h2⟩
    · exact (kparse_split tj hz (fun a b c d h => h4 ⟨a, b, c, d, h⟩) w).mono fun e w' ⟨h1, h2⟩ => ⟨⟨none, 0, h1, fun k hk => absurd hk (by simp [sgO, u64L])⟩, h2⟩
  | some v =>
    obtain ⟨⟨who, leaf⟩, q, l⟩ := v
    obtain ⟨x0, x1, x2, x3, hsp, p0, b0, p1, b1, d2, d3, hq, hl, -⟩ := sigP_back hp
    have g := fun x hx => Nat.le_trans (split_ge hsp x hx) hlen
    rw [← oneL_of hq] at d2
    exact (kparse_core tj x0 x1 x2 x3 who leaf (fun k => q.getD k 0) l hsp hz (g x0 (by simp)) (g x1 (by simp)) (g x2 (by simp)) (g x3 (by simp)) p0 b0 p1 b1 d2 d3 hl w hS).mono fun e w' ⟨⟨A, c, h1, h2, _⟩, h3⟩ => ⟨⟨A, c, h1, h2⟩, h3⟩
set_option maxRecDepth 100000 in
theorem rps_any (tj : ByteArray) (hz : tj.size ≤ 1000000) (w : World) :
    Calls Tryz.prog 28 #[.string tj] w fun e w' => (∃ A c, e = .returned (.tuple #[.agg (sgC (sgO (sigP tj.data.toList)).1.1 (sgO (sigP tj.data.toList)).1.2 (sgO (sigP tj.data.toList)).2.1 (.slice A (sgO (sigP tj.data.toList)).2.2.length c)), .int .i64 (sgE (sigP tj.data.toList))]) ∧ Rd w' w'.heap.size A (u64L (sgO (sigP tj.data.toList)).2.2)) ∧ Grew w w' := by
  have hlen : tj.data.toList.length ≤ 1000000 := by rw [ba_len]; exact hz
  cases hp : sigP tj.data.toList with
  | none =>
    by_cases h4 : ∃ x0 x1 x2 x3, splitF tj.data.toList = some [x0, x1, x2, x3]
    · obtain ⟨x0, x1, x2, x3, hsp⟩ := h4
      have g := fun x hx => Nat.le_trans (split_ge hsp x hx) hlen
      have hno : sig4 x0 x1 x2 x3 = false := by
        unfold sigP at hp
        rw [hsp] at hp
        by_cases h : sig4 x0 x1 x2 x3 = true
        · simp only [h, if_true] at hp; cases hp
        · simpa using h
      exact (rps_four tj x0 x1 x2 x3 hsp hz (g x0 (by simp)) (g x1 (by simp)) (g x2 (by simp)) (g x3 (by simp)) hno w).mono fun e w' ⟨h1, h2⟩ => ⟨⟨none, 0, h1, fun k hk => absurd hk (by simp [sgO, u64L])⟩, h2⟩
    · exact (rps_split tj hz (fun a b c d h => h4 ⟨a, b, c, d, h⟩) w).mono fun e w' ⟨h1, h2⟩ => ⟨⟨none, 0, h1, fun k hk => absurd hk (by simp [sgO, u64L])⟩, h2⟩
  | some v =>
    obtain ⟨⟨who, leaf⟩, q, l⟩ := v
    obtain ⟨x0, x1, x2, x3, hsp, p0, b0, p1, b1, d2, d3, hq, hl, -⟩ := sigP_back hp
    have g := fun x hx => Nat.le_trans (split_ge hsp x hx) hlen
    rw [← oneL_of hq] at d2
    exact (rps_core tj x0 x1 x2 x3 who leaf (fun k => q.getD k 0) l hsp hz (g x0 (by simp)) (g x1 (by simp)) (g x2 (by simp)) (g x3 (by simp)) p0 b0 p1 b1 d2 d3 hl w).mono fun e w' ⟨⟨A, c, h1, h2, _⟩, h3⟩ => ⟨⟨A, c, h1, h2⟩, h3⟩
end Go.Proofs.YtpgbfglfgcidaaaGreatDoor

namespace Go.Proofs.YtpgbfglfgcidaaaGreatDoor
set_option linter.unusedSimpArgs false
set_option linter.unusedVariables false
open Go.RowKit
set_option linter.unusedVariables false
set_option linter.unusedSimpArgs false
theorem upto_in {x : List UInt8} {m : Int} (h : uptoB x m = true) (hm : m ≤ 9223372036854775807) : in64 (pnum x).1 := by
  obtain ⟨_, h1, h2⟩ := of_decide_eq_true h
  exact ⟨by omega, by omega⟩
theorem sgO_in (S : List UInt8) : in64 (sgO (sigP S)).1.1 ∧ in64 (sgO (sigP S)).1.2 ∧ (∀ k, k < 18 → (sgO (sigP S)).2.1 k < 18446744073709551616) ∧ (∀ n ∈ (sgO (sigP S)).2.2, n < 18446744073709551616) ∧ (sgO (sigP S)).2.2.length ≤ 8 := by
  cases hp : sigP S with
  | none => exact ⟨by unfold in64 sgO; decide, by unfold in64 sgO; decide, fun k _ => by simp [sgO], fun n hn => by simp [sgO] at hn, by simp [sgO]⟩
  | some v =>
    obtain ⟨⟨who, leaf⟩, q, l⟩ := v
    obtain ⟨x0, x1, x2, x3, hsp, p0, b0, p1, b1, d2, d3, hq, hl, -⟩ := sigP_back hp
    have u0 := upto_in b0 (by decide)
    have u1 := upto_in b1 (by decide)
    rw [p0] at u0
    rw [p1] at u1
    refine ⟨u0, u1, fun k hk => ?_, (pdigs_back d3).2, hl⟩
    have hk' : k < q.length := by omega
    have := (pdigs_back d2).2 (q[k]) (List.getElem_mem hk')
    simpa [sgO, List.getD_eq_getElem?_getD, hk'] using this
theorem sgO_back {S : List UInt8} (h : (sigP S).isSome = true) : sgT (sgO (sigP S)).1.1 (sgO (sigP S)).1.2 (sgO (sigP S)).2.1 (sgO (sigP S)).2.2 = S := by
  cases hp : sigP S with
  | none => rw [hp] at h; cases h
  | some v =>
    obtain ⟨⟨who, leaf⟩, q, l⟩ := v
    obtain ⟨x0, x1, x2, x3, hsp, p0, b0, p1, b1, d2, d3, hq, hl, hj⟩ := sigP_back hp
    show joinF [Lib.itoa who, Lib.itoa leaf, digs (oneL fun k => q.getD k 0), digs l] = S
    rw [oneL_of hq]
    exact hj
end Go.Proofs.YtpgbfglfgcidaaaGreatDoor

namespace Go.Proofs.YtpgbfglfgcidaaaGreatDoor
set_option linter.unusedSimpArgs false
set_option linter.unusedVariables false
open Go.RowKit
set_option linter.unusedVariables false
set_option linter.unusedSimpArgs false
theorem put_ksig (W : World) (cs : Array Value) (h : cs.size = 21) : ∃ W', (W.alloc (.cells (#[.int .i64 0, .int .i64 0, .int .u64 0, .int .u64 0, .int .u64 0, .int .u64 0, .int .u64 0, .int .u64 0, .int .u64 0, .int .u64 0, .int .u64 0, .int .u64 0, .int .u64 0, .int .u64 0, .int .u64 0, .int .u64 0, .int .u64 0, .int .u64 0, .int .u64 0, .int .u64 0, .slice none 0 0]) 39)).setCells W.heap.size 0 cs.toList = W' ∧ (W.alloc (.cells (#[.int .i64 0, .int .i64 0, .int .u64 0, .int .u64 0, .int .u64 0, .int .u64 0, .int .u64 0, .int .u64 0, .int .u64 0, .int .u64 0, .int .u64 0, .int .u64 0, .int .u64 0, .int .u64 0, .int .u64 0, .int .u64 0, .int .u64 0, .int .u64 0, .int .u64 0, .int .u64 0, .slice none 0 0]) 39)).there W.heap.size 0 cs.size ∧ Grew W W' ∧ Ag W' W.heap.size cs.toList :=
  ⟨_, rfl, by rw [h]; exact (alloc_sig W).thereN 21 rfl, setCells_grew (o := 0) (b := W.heap.size) cs.toList (grew_alloc (grew_refl W) _) (Nat.le_refl _), Ag.set (vs := cs.toList) (alloc_sig W) (by simp [h])⟩
theorem put_rsig (W : World) (cs : Array Value) (h : cs.size = 21) : ∃ W', (W.alloc (.cells (#[.int .i64 0, .int .i64 0, .int .u64 0, .int .u64 0, .int .u64 0, .int .u64 0, .int .u64 0, .int .u64 0, .int .u64 0, .int .u64 0, .int .u64 0, .int .u64 0, .int .u64 0, .int .u64 0, .int .u64 0, .int .u64 0, .int .u64 0, .int .u64 0, .int .u64 0, .int .u64 0, .slice none 0 0]) 45)).setCells W.heap.size 0 cs.toList = W' ∧ (W.alloc (.cells (#[.int .i64 0, .int .i64 0, .int .u64 0, .int .u64 0, .int .u64 0, .int .u64 0, .int .u64 0, .int .u64 0, .int .u64 0, .int .u64 0, .int .u64 0, .int .u64 0, .int .u64 0, .int .u64 0, .int .u64 0, .int .u64 0, .int .u64 0, .int .u64 0, .int .u64 0, .int .u64 0, .slice none 0 0]) 45)).there W.heap.size 0 cs.size ∧ Grew W W' ∧ Ag W' W.heap.size cs.toList :=
  ⟨_, rfl, by rw [h]; exact (alloc_rsig W).thereN 21 rfl, setCells_grew (o := 0) (b := W.heap.size) cs.toList (grew_alloc (grew_refl W) _) (Nat.le_refl _), Ag.set (vs := cs.toList) (alloc_rsig W) (by simp [h])⟩
theorem sgC_oneL (who leaf : Int) (sg : Nat → Nat) (pv : Value) : sgC who leaf (fun k => (oneL sg).getD k 0) pv = sgC who leaf sg pv := by rfl
end Go.Proofs.YtpgbfglfgcidaaaGreatDoor
