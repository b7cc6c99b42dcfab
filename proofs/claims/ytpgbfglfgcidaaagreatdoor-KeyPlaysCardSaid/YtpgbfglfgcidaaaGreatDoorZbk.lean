/- KeyPlays. -/
import Derived.Test.YtpgbfglfgcidaaaGreatDoorZbj
import Derived.Test.YtpgbfglfgcidaaaGreatDoorZaq
namespace Go.Proofs.YtpgbfglfgcidaaaGreatDoor
set_option linter.unusedSimpArgs false
set_option linter.unusedVariables false
open Go.RowKit
set_option linter.unusedVariables false
set_option linter.unusedSimpArgs false
/-- what a call of both keys leaves -/
structure SkK (p : Nat) (who sd : Int) (l : List Nat) (e : Int) (g nx rs : Nat) (w : World) (v : Value) : Prop where
  val : v = .int .i64 e
  key : KyAt w g p who sd l nx rs
structure SkM (bm : Nat) (N : Nat → Prop) (who sd h : Int) (l : List Nat) (e : Int) (nx rs : Nat) (w : World) (v : Value) : Prop where
  val : v = .int .i64 e
  key : RkAt w bm N who sd h l nx rs
theorem stepGM {g bm k : Nat} {a b : World} (h : (bif Nat.beq k 3 then Tn g else bif Nat.beq k 7 then Tn bm else Grew) a b) : Kp (fun i => i = g ∨ i = bm) a b := by
  cases h3 : Nat.beq k 3
  · rw [h3] at h
    cases h7 : Nat.beq k 7
    · rw [h7] at h; exact kp_grew h
    · rw [h7] at h; exact kp_mono (kp_tn h) (fun i e => .inr e)
  · rw [h3] at h; exact kp_mono (kp_tn h) (fun i e => .inl e)
set_option maxRecDepth 100000 in
set_option maxHeartbeats 4000000 in
theorem keyPlays_law (who seed : Int) (hsd : U64 seed) (h : Int) (A : Option Addr) (c : Nat) (l : List (Int × Int × Int)) (hz : ∀ q ∈ l, U64 q.2.2 ∧ (-9223372036854775808 ≤ q.1 ∧ q.1 ≤ 9223372036854775807) ∧ (-9223372036854775808 ≤ q.2.1 ∧ q.2.1 ≤ 9223372036854775807)) (w : World) (hS : Std w) (hr : RdS w w.heap.size A 3 (l.map act3)) (hlm : l.length ≤ 9223372036854775807) :
    Calls Tryz.prog 3 #[.int .i64 who, .int .u64 seed, .int .i64 h, .slice A l.length c] w fun e w' => e = .returned (.bool true) ∧ Grew w w' := by
  have CK := Lib.hid (kknown_ok w hS)
  clear hS
  by_cases hbig : 60 < l.length
  · have hbi : (60 : Int) < (l.length : Int) := by omega
    go_enter Tryz.func3, Tryz.ntmps3
    go_wp2_with (go_at_call 9; refine (CK.out).mono ?_; rintro e w1 ⟨rfl, hg1⟩)
    go_ret
    exact ⟨rfl, hg1⟩
  have hbi : ¬ (60 : Int) < (l.length : Int) := by omega
  by_cases hh6 : 6 < h
  · go_enter Tryz.func3, Tryz.ntmps3
    go_wp2_with (go_at_call 9; refine (CK.out).mono ?_; rintro e w1 ⟨rfl, hg1⟩)
    go_ret
    exact ⟨rfl, hg1⟩
  by_cases hbad : who < 0 ∨ 15 < who ∨ h < 0
  · have hb2 : who < 0 ∨ 15 < who ∨ h < 0 ∨ 8 < h := by omega
    have C1 := Lib.hid (fun W => knew_no who seed h hb2 W)
    have C2 := Lib.hid (fun W => rnew_no who seed h hb2 W)
    clear hbad hb2
    go_enter Tryz.func3, Tryz.ntmps3
    go_wp2_with (first
      | (go_at_call 9; refine (CK.out).mono ?_; rintro e w1 ⟨rfl, hg1⟩)
      | (go_at_call 10; refine (C1.out _).mono ?_; rintro e w2 ⟨rfl, rfl⟩)
      | (go_at_call 11; refine (C2.out _).mono ?_; rintro e w3 ⟨rfl, rfl⟩))
    go_ret
    exact ⟨rfl, hg1⟩
  obtain ⟨h, rfl⟩ : ∃ n : Nat, h = (n : Int) := Int.eq_ofNat_of_zero_le (by omega)
  have HR := Lib.hid hr
  have HU := Lib.hid hz
  have hl60 : l.length ≤ 60 := by omega
  have hus := Tryz.underlying39
  have hur := Tryz.underlying45
  have hua := Tryz.underlying33
  have CN := Lib.hid (fun W => knew_ok who seed h (by omega) (by omega) hsd W)
  have CM := Lib.hid (fun W => rnew_ok who seed h (by omega) (by omega) hsd W)
  have hn1 : 1 ≤ 2 ^ h := Nat.one_le_two_pow
  have hn : 2 ^ h ≤ 256 := by
    have : 2 ^ h ≤ 2 ^ 8 := Nat.pow_le_pow_right (by decide) (by omega)
    simpa using this
  have hlv0 : leavesOk (2 ^ h) = true := leaves_pow ⟨h, by omega⟩
  obtain ⟨P, hP⟩ : ∃ P, P = pubsL seed (2 ^ h) := ⟨_, rfl⟩
  rw [← hP] at CN CM
  have H4 : Hid (∀ m : Nat, m < P.length → (pathN P m).length ≤ 8) := Lib.hid (by rw [hP, pubsL_length]; exact fun m hm => by rw [path_len seed h (by omega) m hm]; omega)
  have hl2 : P.length = 2 ^ h := by rw [hP]; exact pubsL_length _ _
  have hlv : leavesOk P.length = true := by rw [hl2]; exact hlv0
  have hlt : ∀ x ∈ P, x < 18446744073709551616 := by rw [hP]; exact pubsL_lt seed _
  have hpl : P.length ≤ 256 := by omega
  have HLV := Lib.hid hlv
  have HLT := Lib.hid hlt
  have HSD := Lib.hid hsd
  have HIA : Hid ((Tryz.prog.info? 33).map (·.size) = some 3) := Lib.hid (by kernel_rfl)
  have d6 : ¬ (6 : Int) < (h : Int) := hh6
  clear hP hlv hlv0 hlt hsd hr hbig hlm hz hl2 hn hn1 hh6
  go_enter Tryz.func3, Tryz.ntmps3
  go_wp2_with fail
  refine CK.out.mono ?_
  rintro e w1 ⟨rfl, G1⟩
  clear CK
  go_wp2_with fail
  refine (CN.out w1).mono ?_
  rintro e w2 ⟨rfl, gg, K2⟩
  have G2 := grew_trans G1 gg
  have hw1 := G1.size
  obtain ⟨b, hb⟩ : ∃ b, w1.heap.size + 1 = b := ⟨_, rfl⟩
  obtain ⟨p, hp⟩ : ∃ p, w1.heap.size = p := ⟨_, rfl⟩
  rw [hb] at K2 ⊢
  rw [hp] at K2
  have hwb : w.heap.size ≤ b := by omega
  have hpb : p < b := by omega
  have hb2 : b < w2.heap.size := K2.key.lt
  clear hb hp gg G1 CN hw1
  go_wp2_with fail
  refine (CM.out w2).mono ?_
  rintro e w3 ⟨A0, c0, rfl, gg, Z0, R0, hA0⟩
  have K3 := K2.grew gg
  have G3 := grew_trans G2 gg
  obtain ⟨bm, hbm⟩ : ∃ b, w2.heap.size = b := ⟨_, rfl⟩
  rw [hbm] at Z0 hA0 hb2 ⊢
  have M3 : RkAt w3 bm (fun i => i = bm ∨ i = b) who seed h P 0 0 := ⟨A0, c0, Z0, RdN.of R0 (Nat.le_refl _) (fun ad e hh => by have := hA0 ad e; rcases hh with hh | hh <;> omega)⟩
  have hpm : p ≠ bm := by omega
  have hwm : w.heap.size ≤ bm := by omega
  have hne : b ≠ bm := by omega
  clear hbm gg K2 G2 Z0 R0 hA0 CM hb2 hpb
  go_wp2_with fail
  go_loopw [9, 13] (fun kv iv wr => ∃ k g nx rs : Nat, k ≤ l.length ∧ iv = .int .i64 k ∧ kv = .pointer (some ⟨g, 0, none⟩) ∧ nx ≤ P.length ∧ rs ≤ P.length ∧ KyAt wr g p who seed P nx rs ∧ RkAt wr bm (fun i => i = bm ∨ i = g) who seed h P nx rs ∧ g ≠ bm ∧ w.heap.size ≤ g ∧ Grew w wr) (fun _ iv _ => l.length - (intOf iv).toNat)
  case atStart => exact ⟨0, b, 0, 0, Nat.zero_le _, rfl, rfl, Nat.zero_le _, Nat.zero_le _, K3, M3, hne, hwb, G3⟩
  case round =>
    clear K3 G3 M3 hne hwb
    obtain ⟨k, g, nx, rs, hk, rfl, rfl, hnx, hrs, K, M, hgm, hwg, G⟩ := hrel
    have hk0 : (0 : Int) ≤ (k : Int) := by omega
    by_cases hlt : k < l.length
    · have hk1 : (k : Int) < (l.length : Int) := by omega
      have e1 : IntKind.i64.wrap ((k : Int) + 1) = ((k + 1 : Nat) : Int) := by rw [IntWalk.i64_in _ (by omega)]; omega
      have hzu := HU.out (l[k]'hlt) (List.getElem_mem hlt)
      obtain ⟨ad, hA, hbl, hc0⟩ := (HR.out.below G) k (by simpa using hlt)
      have hc1 : ∀ j v, (act3 (l[k]'hlt))[j]? = some v → wr.cell? ((ad.add (k * 3)).add j) = some v := by simpa using hc0
      subst hA
      clear hc0 hbl
      obtain ⟨q0, hq0⟩ : ∃ q, l[k]'hlt = q := ⟨_, rfl⟩
      rw [hq0] at hzu hc1
      clear hq0
      obtain ⟨x, y, z⟩ := q0
      have HC := Lib.hid hc1
      have HK := Lib.hid hlt
      have zt := Ag.new wr 33 #[.int .i64 0, .int .i64 0, .int .u64 0]
      have HTH : Hid ((wr.alloc (.cells #[.int .i64 0, .int .i64 0, .int .u64 0] 33)).there wr.heap.size 0 (#[.int .i64 x, .int .i64 y, .int .u64 z] : Array Value).size) := Lib.hid (zt.thereN 3 rfl)
      have HSA : Hid ((Tryz.prog.info? 33).map (·.size) = some (#[.int .i64 x, .int .i64 y, .int .u64 z] : Array Value).size) := Lib.hid HIA.out
      have HSL : Hid ((Tryz.prog.info? 33).map (·.size) = some (act3 (x, y, z)).length) := Lib.hid HIA.out
      have HON : Hid ((#[.int .i64 x, .int .i64 y, .int .u64 z] : Array Value).all (·.oneCell') = true) := Lib.hid (by simp [Value.oneCell'])
      have z5 := Ag.set (vs := (#[.int .i64 x, .int .i64 y, .int .u64 z] : Array Value).toList) zt rfl
      have g5 : Grew wr ((wr.alloc (.cells #[.int .i64 0, .int .i64 0, .int .u64 0] 33)).setCells wr.heap.size 0 (#[.int .i64 x, .int .i64 y, .int .u64 z] : Array Value).toList) := setCells_grew (o := 0) (b := wr.heap.size) (#[.int .i64 x, .int .i64 y, .int .u64 z] : Array Value).toList (grew_alloc (grew_refl wr) _) (Nat.le_refl _)
      have Kq := K.grew g5
      have Mq := M.grew g5
      have Gq := grew_trans G g5
      have hqg : wr.heap.size ≠ g := by have := K.key.lt; omega
      have hqm : wr.heap.size ≠ bm := by have := M.lt; omega
      clear zt g5 K M G hc1 hlt
      obtain ⟨vq, hvq⟩ : ∃ v, (wr.alloc (.cells #[.int .i64 0, .int .i64 0, .int .u64 0] 33)).setCells wr.heap.size 0 (#[.int .i64 x, .int .i64 y, .int .u64 z] : Array Value).toList = v := ⟨_, rfl⟩
      rw [hvq] at Kq Mq Gq z5
      have HWA := Lib.hid hvq
      clear hvq
      have co : vq.cell? ⟨wr.heap.size, 0, none⟩ = some (.int .i64 x) := by simpa using z5.cell 0 _ rfl
      have cn : vq.cell? ⟨wr.heap.size, 1, none⟩ = some (.int .i64 y) := by simpa using z5.cell 1 _ rfl
      have cd : vq.cell? ⟨wr.heap.size, 2, none⟩ = some (.int .u64 z) := by simpa using z5.cell 2 _ rfl
      have hzu1 := hzu.1
      have hy := hzu.2.2
      clear hzu
      by_cases hx1 : x = 1
      · subst hx1
        have hpl8 := soP_len P nx rs H4.out
        have CR := Lib.hid (fun W h1 => rsign_all bm (fun i => i = bm ∨ i = g) (.inl rfl) who seed h P nx rs hpl hnx hrs z HLV.out HLT.out HSD.out hzu1 W h1)
        have CT := Lib.hid (ksign_any g p who seed P nx rs hpl hnx hrs z HLV.out HLT.out HSD.out hzu1 vq Kq)
        have hnn := soN_le P nx rs hnx
        obtain ⟨a1, ha1⟩ : ∃ v, soW P nx rs who = v := ⟨_, rfl⟩
        obtain ⟨a2, ha2⟩ : ∃ v, soL P nx rs = v := ⟨_, rfl⟩
        obtain ⟨s, hs⟩ : ∃ v, soS P nx rs seed z = v := ⟨_, rfl⟩
        obtain ⟨pl, hp1⟩ : ∃ v, soP P nx rs = v := ⟨_, rfl⟩
        obtain ⟨er, he1⟩ : ∃ v, soE P nx rs = v := ⟨_, rfl⟩
        obtain ⟨n2, hn2⟩ : ∃ v, soN P nx rs = v := ⟨_, rfl⟩
        simp only [ha1, ha2, hs, hp1, he1, hn2] at CR
        rw [ha1, ha2, hs, hp1, he1, hn2] at CT
        rw [hp1] at hpl8
        rw [hn2] at hnn
        clear ha1 ha2 hs hp1 he1 hn2
        go_wp2_with (first
          | (with_reducible refine wpList_load_at rfl 33 (.tmp 64) rfl (ad.add (k * 3)) rfl (act3 (1, y, z)) _ HC.out hua rfl HSL.out ?_)
          | (with_reducible refine wpList_store_mid rfl 33 (.tmp 14) (.tmp 65) rfl wr.heap.size 0 (#[.int .i64 1, .int .i64 y, .int .u64 z]) rfl rfl HTH.out HSA.out HON.out ?_; rw [HWA.out]))
        refine CT.out.mono ?_
        rintro e u1 ⟨⟨A1, c1, rfl, r1, hA1⟩, t1, K1⟩
        have M1 := Mq.kp (kp_tn t1) (fun e => hgm e.symm) (fun i e => .inr e)
        have G1 := grew_tn Gq t1 hwg
        have z6 := z5.kp (kp_tn t1) hqg
        have HG1 : Hid (∀ ad, A1 = some ad → ad.block ≠ bm) := Lib.hid (fun ad e => by have := hA1 ad e; have := Mq.lt; omega)
        clear CT Kq Mq Gq z5 co cn cd t1 hA1
        have HSI1 : Hid ((Tryz.prog.info? 39).map (·.size) = some (sgC a1 a2 s (.slice A1 pl.length c1)).size) := Lib.hid sg_info
        have HSL1 : Hid ((Tryz.prog.info? 39).map (·.size) = some (sgC a1 a2 s (.slice A1 pl.length c1)).toList.length) := Lib.hid sg_info
        have HON1 := Lib.hid (sgC_one a1 a2 s A1 pl.length c1)
        have CO := Lib.hid (fun W h1 => kof_ok a1 a2 s A1 c1 pl (by omega) W h1)
        have zt := Ag.new u1 39 (#[.int .i64 0, .int .i64 0, .int .u64 0, .int .u64 0, .int .u64 0, .int .u64 0, .int .u64 0, .int .u64 0, .int .u64 0, .int .u64 0, .int .u64 0, .int .u64 0, .int .u64 0, .int .u64 0, .int .u64 0, .int .u64 0, .int .u64 0, .int .u64 0, .int .u64 0, .int .u64 0, .slice none 0 0])
        have HTH : Hid ((u1.alloc (.cells (#[.int .i64 0, .int .i64 0, .int .u64 0, .int .u64 0, .int .u64 0, .int .u64 0, .int .u64 0, .int .u64 0, .int .u64 0, .int .u64 0, .int .u64 0, .int .u64 0, .int .u64 0, .int .u64 0, .int .u64 0, .int .u64 0, .int .u64 0, .int .u64 0, .int .u64 0, .int .u64 0, .slice none 0 0]) 39)).there u1.heap.size 0 (sgC a1 a2 s (.slice A1 pl.length c1)).size) := Lib.hid (zt.thereN 21 rfl)
        have z7 := Ag.set (vs := (sgC a1 a2 s (.slice A1 pl.length c1)).toList) zt rfl
        have g5 : Grew u1 ((u1.alloc (.cells (#[.int .i64 0, .int .i64 0, .int .u64 0, .int .u64 0, .int .u64 0, .int .u64 0, .int .u64 0, .int .u64 0, .int .u64 0, .int .u64 0, .int .u64 0, .int .u64 0, .int .u64 0, .int .u64 0, .int .u64 0, .int .u64 0, .int .u64 0, .int .u64 0, .int .u64 0, .int .u64 0, .slice none 0 0]) 39)).setCells u1.heap.size 0 (sgC a1 a2 s (.slice A1 pl.length c1)).toList) := setCells_grew (o := 0) (b := u1.heap.size) (sgC a1 a2 s (.slice A1 pl.length c1)).toList (grew_alloc (grew_refl u1) _) (Nat.le_refl _)
        have K2 := K1.grew g5
        have M2 := M1.grew g5
        have G2 := grew_trans G1 g5
        have r2 := r1.gr g5
        have z8 := z6.grew g5
        obtain ⟨g1, hg1⟩ : ∃ g, sgC a1 a2 s (.slice A1 pl.length c1) = g := ⟨_, rfl⟩
        rw [hg1] at HSI1 HSL1 HON1 CO HTH z7 K2 M2 G2 r2 z8 ⊢
        obtain ⟨u2, hu2⟩ : ∃ v, (u1.alloc (.cells (#[.int .i64 0, .int .i64 0, .int .u64 0, .int .u64 0, .int .u64 0, .int .u64 0, .int .u64 0, .int .u64 0, .int .u64 0, .int .u64 0, .int .u64 0, .int .u64 0, .int .u64 0, .int .u64 0, .int .u64 0, .int .u64 0, .int .u64 0, .int .u64 0, .int .u64 0, .int .u64 0, .slice none 0 0]) 39)).setCells u1.heap.size 0 g1.toList = v := ⟨_, rfl⟩
        rw [hu2] at z7 K2 M2 G2 r2 z8
        have HW2 := Lib.hid hu2
        have hq1m : u1.heap.size ≠ bm := by have := M1.lt; omega
        have HA1 : Hid (pl.length = 0 ∨ ∀ ad, A1 = some ad → ad.block < u1.heap.size) := Lib.hid (by
          by_cases h0 : pl.length = 0
          · exact .inl h0
          · refine .inr (fun ad h => ?_)
            obtain ⟨ad', e, hb, _⟩ := r1 0 (by simp [u64L]; omega)
            rw [h] at e
            cases e
            exact hb)
        clear hu2 hg1 zt g5 K1 M1 G1 r1 z6
        have cd2 : u2.cell? ⟨wr.heap.size, 2, none⟩ = some (.int .u64 z) := by simpa using z8.cell 2 _ rfl
        go_wp2_with (with_reducible refine wpList_store_mid rfl 39 (.tmp 15) (.tmp 75) rfl u1.heap.size 0 g1 rfl rfl HTH.out HSI1.out HON1.out ?_; rw [HW2.out]; clear HW2 HTH; generalize u1.heap.size = q1 at *)
        refine (CR.out u2 M2).mono ?_
        rintro e u3 ⟨⟨A2, c2, rfl, r3, hA2⟩, t3, M3⟩
        have K3 := K2.tn t3 hgm hpm
        have G3 := grew_tn G2 t3 hwm
        have z9 := z7.kp (kp_tn t3) hq1m
        have r4 := (r2.kp (kp_tn t3) (Nat.le_refl _) (fun ad h1 h2 h3 => HG1.out ad h1 h3)).more t3.size
        clear CR K2 M2 G2 r2 z7 z8 cd2 t3
        have HSI2 : Hid ((Tryz.prog.info? 45).map (·.size) = some (sgC a1 a2 s (.slice A2 pl.length c2)).size) := Lib.hid rg_info
        have HSL2 : Hid ((Tryz.prog.info? 45).map (·.size) = some (sgC a1 a2 s (.slice A2 pl.length c2)).toList.length) := Lib.hid rg_info
        have HON2 := Lib.hid (sgC_one a1 a2 s A2 pl.length c2)
        have CSS := Lib.hid (fun A' c' W h1 h2 => rsame_ok a1 a2 s A' A2 c' c2 pl (by omega) W h1 h2)
        have zt := Ag.new u3 45 (#[.int .i64 0, .int .i64 0, .int .u64 0, .int .u64 0, .int .u64 0, .int .u64 0, .int .u64 0, .int .u64 0, .int .u64 0, .int .u64 0, .int .u64 0, .int .u64 0, .int .u64 0, .int .u64 0, .int .u64 0, .int .u64 0, .int .u64 0, .int .u64 0, .int .u64 0, .int .u64 0, .slice none 0 0])
        have HTH : Hid ((u3.alloc (.cells (#[.int .i64 0, .int .i64 0, .int .u64 0, .int .u64 0, .int .u64 0, .int .u64 0, .int .u64 0, .int .u64 0, .int .u64 0, .int .u64 0, .int .u64 0, .int .u64 0, .int .u64 0, .int .u64 0, .int .u64 0, .int .u64 0, .int .u64 0, .int .u64 0, .int .u64 0, .int .u64 0, .slice none 0 0]) 45)).there u3.heap.size 0 (sgC a1 a2 s (.slice A2 pl.length c2)).size) := Lib.hid (zt.thereN 21 rfl)
        have z10 := Ag.set (vs := (sgC a1 a2 s (.slice A2 pl.length c2)).toList) zt rfl
        have g5 : Grew u3 ((u3.alloc (.cells (#[.int .i64 0, .int .i64 0, .int .u64 0, .int .u64 0, .int .u64 0, .int .u64 0, .int .u64 0, .int .u64 0, .int .u64 0, .int .u64 0, .int .u64 0, .int .u64 0, .int .u64 0, .int .u64 0, .int .u64 0, .int .u64 0, .int .u64 0, .int .u64 0, .int .u64 0, .int .u64 0, .slice none 0 0]) 45)).setCells u3.heap.size 0 (sgC a1 a2 s (.slice A2 pl.length c2)).toList) := setCells_grew (o := 0) (b := u3.heap.size) (sgC a1 a2 s (.slice A2 pl.length c2)).toList (grew_alloc (grew_refl u3) _) (Nat.le_refl _)
        have K4 := K3.grew g5
        have M4 := M3.grew g5
        have G4 := grew_trans G3 g5
        have r5 := r3.gr g5
        have r6 := r4.gr g5
        have z11 := z9.grew g5
        obtain ⟨g2, hg2⟩ : ∃ g, sgC a1 a2 s (.slice A2 pl.length c2) = g := ⟨_, rfl⟩
        rw [hg2] at HSI2 HSL2 HON2 CSS HTH z10 K4 M4 G4 r5 r6 z11 ⊢
        obtain ⟨v4, hv4⟩ : ∃ v, (u3.alloc (.cells (#[.int .i64 0, .int .i64 0, .int .u64 0, .int .u64 0, .int .u64 0, .int .u64 0, .int .u64 0, .int .u64 0, .int .u64 0, .int .u64 0, .int .u64 0, .int .u64 0, .int .u64 0, .int .u64 0, .int .u64 0, .int .u64 0, .int .u64 0, .int .u64 0, .int .u64 0, .int .u64 0, .slice none 0 0]) 45)).setCells u3.heap.size 0 g2.toList = v := ⟨_, rfl⟩
        rw [hv4] at z10 K4 M4 G4 r5 r6 z11
        have HW4 := Lib.hid hv4
        clear hv4 hg2 zt g5 K3 M3 G3 r3 r4 z9 hA2
        go_wp2_with (with_reducible refine wpList_store_mid rfl 45 (.tmp 17) (.tmp 82) rfl u3.heap.size 0 g2 rfl rfl HTH.out HSI2.out HON2.out ?_; rw [HW4.out]; clear HW4 HTH; generalize u3.heap.size = q2 at *)
        have ea : (er != er) = false := by simp
        have HM1 : Hid (∀ y, Grew v4 y → y.rangeAt q1 0 g1.toList) := Lib.hid (fun y g => (z11.grew g).cell)
        have HM2 : Hid (∀ y, Grew v4 y → y.rangeAt q2 0 g2.toList) := Lib.hid (fun y g => (z10.grew g).cell)
        have HR1 := Lib.hid (fun y (g : Grew v4 y) => r6.gr g)
        have HR2 := Lib.hid (fun y (g : Grew v4 y) => r5.gr g)
        clear z10 z11 r5 r6
        refine wp_region_rel 9 (fun i => match i with
            | 0 => fun v _ => v = .int .i64 er
            | 1 => fun v _ => v = .int .i64 er
            | 2 => fun v _ => v = .bool false
            | 3 => fun v _ => v = .bool false
            | 4 => fun v _ => v = .agg g1
            | 5 => fun v w => AgS w 0 a1 a2 s pl v
            | 6 => fun v _ => v = .agg g2
            | 7 => fun v _ => v = .bool true
            | 8 => fun v _ => v = .bool false
            | _ => fun _ _ => True) (by kernel_rfl) (by kernel_rfl) ?_ ?_ ?_
        · intro i v x y h hg
          match i, h with
          | 0, h | 1, h | 2, h | 3, h | 4, h | 6, h | 7, h | 8, h => exact h
          | 5, h => exact AgS.gr h hg
          | m + 9, _ => trivial
        · refine ⟨?_, ?_, ?_, ?_, ?_, ?_, ?_, ?_, ?_, trivial⟩
          · intro vs y hg hd
            simp only [actOf, List.take_succ_cons, List.take_zero, List.drop_succ_cons, List.drop_zero, Act.put, List.setIfInBounds_toArray, List.set_cons_succ, List.set_cons_zero, Nat.reduceAdd]
            go_wp2_with fail
            exact ⟨rfl, _, rfl, grew_refl _, rfl⟩
          · intro vs y hg hd
            simp only [actOf, List.take_succ_cons, List.take_zero, List.drop_succ_cons, List.drop_zero, Act.put, List.setIfInBounds_toArray, List.set_cons_succ, List.set_cons_zero, Nat.reduceAdd]
            go_wp2_with fail
            exact ⟨rfl, _, rfl, grew_refl _, rfl⟩
          · intro vs y hg hd
            obtain ⟨h0, h1, _⟩ := hd
            replace h0 := h0 rfl
            replace h1 := h1 rfl
            simp only [actOf, List.take_succ_cons, List.take_zero, List.drop_succ_cons, List.drop_zero, Act.put, List.setIfInBounds_toArray, List.set_cons_succ, List.set_cons_zero, Nat.reduceAdd]
            rw [show vs 0 = _ from h0, show vs 1 = _ from h1]
            go_wp2_with fail
            exact ⟨rfl, _, rfl, grew_refl _, rfl⟩
          · intro vs y hg hd
            obtain ⟨h2, _⟩ := hd
            replace h2 := h2 rfl
            simp only [actOf, List.take_succ_cons, List.take_zero, List.drop_succ_cons, List.drop_zero, Act.put, List.setIfInBounds_toArray, List.set_cons_succ, List.set_cons_zero, Nat.reduceAdd]
            rw [show vs 2 = _ from h2]
            go_wp2_with fail
            exact ⟨rfl, _, rfl, grew_refl _, rfl⟩
          · intro vs y hg hd
            have hx : (Region.binds .any { on := 3, ground := .guard } = true → vs 3 = .bool false) ∧ True := hd
            have h3 : vs 3 = .bool false := hx.1 rfl
            clear hx
            simp only [actOf, List.take_succ_cons, List.take_zero, List.drop_succ_cons, List.drop_zero, Act.put, List.setIfInBounds_toArray, List.set_cons_succ, List.set_cons_zero, Nat.reduceAdd]
            rw [show vs 3 = _ from h3]
            have hm := HM1.out y hg
            go_wp2_with (refine wpList_load_mid_want (by rfl) 39 (.tmp 15) rfl q1 0 rfl g1.toList _ hm hus rfl HSL1.out ?_; simp only [Array.toArray_toList])
            exact ⟨rfl, _, rfl, grew_refl _, rfl⟩
          · intro vs y hg hd
            have hx : (Region.binds .any { on := 4, ground := .data } = true → vs 4 = .agg g1) ∧ (Region.binds .any { on := 3, ground := .chain } = true → vs 3 = .bool false) ∧ (Region.binds .any { on := 3, ground := .guard } = true → vs 3 = .bool false) ∧ True := hd
            have h4 : vs 4 = .agg g1 := hx.1 rfl
            have h3 : vs 3 = .bool false := hx.2.2.1 rfl
            clear hx
            simp only [actOf, List.take_succ_cons, List.take_zero, List.drop_succ_cons, List.drop_zero, Act.put, List.setIfInBounds_toArray, List.set_cons_succ, List.set_cons_zero, Nat.reduceAdd]
            rw [show vs 4 = _ from h4, show vs 3 = _ from h3]
            go_wp2_with (go_at_call 15; refine (CO.out y (HR1.out y hg)).mono ?_; rintro e z ⟨A3, c3, rfl, hr9, gz⟩)
            exact ⟨rfl, _, rfl, gz, ⟨A3, c3, rfl, hr9, fun ad h => Nat.zero_le _⟩⟩
          · intro vs y hg hd
            have hx : (Region.binds .any { on := 3, ground := .guard } = true → vs 3 = .bool false) ∧ True := hd
            have h3 : vs 3 = .bool false := hx.1 rfl
            clear hx
            simp only [actOf, List.take_succ_cons, List.take_zero, List.drop_succ_cons, List.drop_zero, Act.put, List.setIfInBounds_toArray, List.set_cons_succ, List.set_cons_zero, Nat.reduceAdd]
            rw [show vs 3 = _ from h3]
            have hm := HM2.out y hg
            go_wp2_with (refine wpList_load_mid_want (by rfl) 45 (.tmp 17) rfl q2 0 rfl g2.toList _ hm hur rfl HSL2.out ?_; simp only [Array.toArray_toList])
            exact ⟨rfl, _, rfl, grew_refl _, rfl⟩
          · intro vs y hg hd
            have hx : (Region.binds .any { on := 5, ground := .data } = true → (fun v w => AgS w 0 a1 a2 s pl v) (vs 5) y) ∧ (Region.binds .any { on := 6, ground := .data } = true → vs 6 = .agg g2) ∧ (Region.binds .any { on := 5, ground := .chain } = true → (fun v w => AgS w 0 a1 a2 s pl v) (vs 5) y) ∧ (Region.binds .any { on := 3, ground := .guard } = true → vs 3 = .bool false) ∧ True := hd
            have h5 : (fun v w => AgS w 0 a1 a2 s pl v) (vs 5) y := hx.1 rfl
            have h6 : vs 6 = .agg g2 := hx.2.1 rfl
            have h3 : vs 3 = .bool false := hx.2.2.2.1 rfl
            clear hx
            simp only [actOf, List.take_succ_cons, List.take_zero, List.drop_succ_cons, List.drop_zero, Act.put, List.setIfInBounds_toArray, List.set_cons_succ, List.set_cons_zero, Nat.reduceAdd]
            rw [show vs 6 = _ from h6, show vs 3 = _ from h3]
            obtain ⟨A3, c3, hv, hr9, hb9⟩ := AgS.out h5
            rw [hv]
            have hr2 := HR2.out y hg
            go_wp2_with (go_at_call 14; refine (CSS.out A3 c3 y hr9 hr2).mono ?_; rintro e z ⟨rfl, gz⟩)
            exact ⟨rfl, _, rfl, gz, rfl⟩
          · intro vs y hg hd
            have hx : (Region.binds .any { on := 7, ground := .data } = true → vs 7 = .bool true) ∧ (Region.binds .any { on := 3, ground := .guard } = true → vs 3 = .bool false) ∧ True := hd
            have h7 : vs 7 = .bool true := hx.1 rfl
            have h3 : vs 3 = .bool false := hx.2.1 rfl
            clear hx
            simp only [actOf, List.take_succ_cons, List.take_zero, List.drop_succ_cons, List.drop_zero, Act.put, List.setIfInBounds_toArray, List.set_cons_succ, List.set_cons_zero, Nat.reduceAdd]
            rw [show vs 7 = _ from h7, show vs 3 = _ from h3]
            go_wp2_with fail
            exact ⟨rfl, _, rfl, grew_refl _, rfl⟩
        · intro vs y hg hJ
          have j0 : vs 0 = .int .i64 er := hJ 0 (by decide)
          have j1 : vs 1 = .int .i64 er := hJ 1 (by decide)
          have j2 : vs 2 = .bool false := hJ 2 (by decide)
          have j3 : vs 3 = .bool false := hJ 3 (by decide)
          have j4 : vs 4 = .agg g1 := hJ 4 (by decide)
          have j6 : vs 6 = .agg g2 := hJ 6 (by decide)
          have j7 : vs 7 = .bool true := hJ 7 (by decide)
          have j8 : vs 8 = .bool false := hJ 8 (by decide)
          have s89 := hJ 5 (by decide)
          clear hJ
          simp only [actOf, List.take_succ_cons, List.take_zero, List.drop_succ_cons, List.drop_zero, Act.put, List.setIfInBounds_toArray, List.set_cons_succ, List.set_cons_zero, Nat.reduceAdd]
          rw [j8, j3]
          clear j0 j1 j2 j3 j4 j6 j7 j8 s89 HM1 HM2 HR1 HR2
          have K5 := K4.grew hg
          have M5 := M4.grew hg
          have G5 := grew_trans G4 hg
          clear K4 M4 G4 hg
          go_wp2_with fail
          obtain ⟨A9, c9, zm, rm⟩ := M5.out
          have m3 : ∀ y : Gr y, y.val.cell? ⟨bm, 3, none⟩ = some (.slice A9 P.length c9) := fun y => by simpa using (zm.grew y.ok).cell 3 _ rfl
          have m4 : ∀ y : Gr y, y.val.cell? ⟨bm, 4, none⟩ = some (.int .i64 ((n2 : Nat) : Int)) := fun y => by simpa using (zm.grew y.ok).cell 4 _ rfl
          have CX := Lib.hid (fun (y : Gr y) => next_ok g p who seed P (n2) (rs) y.val (K5.grew y.ok))
          have CL := Lib.hid (fun (y : Gr y) => left_ok g p who seed P (n2) (rs) hpl hnn y.val (K5.grew y.ok))
          have CR := Lib.hid (fun (y : Gr y) => keyroot_ok g p who seed P (n2) (rs) hpl HLV.out HLT.out y.val (K5.grew y.ok))
          have CM := Lib.hid (fun (y : Gr y) => rkroot_ok bm _ who seed h P (n2) (rs) hpl HLV.out HLT.out y.val (M5.grew y.ok))
          have ew : IntKind.i64.wrap ((P.length : Int) - ((n2 : Nat) : Int)) = (P.length : Int) - ((n2 : Nat) : Int) := IntWalk.i64_in _ (by have := hnn; omega)
          clear zm rm
          refine wp_region_grew (grew_refl y) (by kernel_rfl) (by kernel_rfl) ?_
          repeat (go_big_quiet_step (first
            | (go_at_call 21; exact callS (CX.out _))
            | (go_at_call 22; exact callG (CL.out _))
            | (go_at_call 23; exact callG (CR.out _))
            | (go_at_call 24; exact callG (CM.out _))))
          refine wpQuiet_nil ?_
          rintro w8 ⟨⟨w8', g8⟩, rfl⟩
          have K8 := K5.grew g8
          have M8 := M5.grew g8
          have G8 := grew_trans G5 g8
          clear m3 m4 CX CL CR CM ew
          go_wp2_with fail
          go_roundw
          case rel => exact ⟨k + 1, g, n2, rs, by have := HK.out; omega, by go_num, rfl, hnn, hrs, K8, M8, hgm, hwg, G8⟩
          case measure => have := HK.out; simp [intOf]; omega
      by_cases hx2 : x = 2
      · subst hx2; clear hx1
        have CS := Lib.hid (fun W h1 => rres_any bm (fun i => i = bm ∨ i = g) (.inl rfl) who seed h P nx rs hpl hnx hrs y W h1)
        have CT := Lib.hid (kres_any g p who seed P nx rs hpl hnx hrs y vq Kq)
        have hrr := reR_le P rs y hrs
        obtain ⟨v1, hv1⟩ : ∃ v, reV P rs y = v := ⟨_, rfl⟩
        obtain ⟨v2, hv2⟩ : ∃ v, reE P rs y = v := ⟨_, rfl⟩
        obtain ⟨v3, hv3⟩ : ∃ v, reR P rs y = v := ⟨_, rfl⟩
        rw [hv3] at hrr
        simp only [hv1, hv2, hv3] at CS
        rw [hv1, hv2, hv3] at CT
        clear hv1 hv2 hv3
        go_wp2_with (first
          | (with_reducible refine wpList_load_at rfl 33 (.tmp 64) rfl (ad.add (k * 3)) rfl (act3 (2, y, z)) _ HC.out hua rfl HSL.out ?_)
          | (with_reducible refine wpList_store_mid rfl 33 (.tmp 14) (.tmp 65) rfl wr.heap.size 0 (#[.int .i64 2, .int .i64 y, .int .u64 z]) rfl rfl HTH.out HSA.out HON.out ?_; rw [HWA.out]))
        refine CT.out.mono ?_
        rintro e u1 ⟨rfl, t1, K1⟩
        have M1 := Mq.kp (kp_tn t1) (fun e => hgm e.symm) (fun i e => .inr e)
        have G1 := grew_tn Gq t1 hwg
        have z6 := z5.kp (kp_tn t1) hqg
        have cn1 : u1.cell? ⟨wr.heap.size, 1, none⟩ = some (.int .i64 y) := by simpa using z6.cell 1 _ rfl
        clear CT Kq Mq Gq z5 co cn cd t1
        go_wp2_with fail
        refine (CS.out u1 M1).mono ?_
        rintro e u2 ⟨rfl, t2, M2⟩
        have K2 := K1.tn t2 hgm hpm
        have G2 := grew_tn G1 t2 hwm
        clear CS K1 M1 G1 z6 cn1 t2
        have ea : (v1 != v1) = false := by simp
        have eb : (v2 != v2) = false := by simp
        go_wp2_with fail
        obtain ⟨A9, c9, zm, rm⟩ := M2.out
        have m3 : ∀ y : Gr u2, y.val.cell? ⟨bm, 3, none⟩ = some (.slice A9 P.length c9) := fun y => by simpa using (zm.grew y.ok).cell 3 _ rfl
        have m4 : ∀ y : Gr u2, y.val.cell? ⟨bm, 4, none⟩ = some (.int .i64 ((nx : Nat) : Int)) := fun y => by simpa using (zm.grew y.ok).cell 4 _ rfl
        have CX := Lib.hid (fun (y : Gr u2) => next_ok g p who seed P (nx) (v3) y.val (K2.grew y.ok))
        have CL := Lib.hid (fun (y : Gr u2) => left_ok g p who seed P (nx) (v3) hpl hnx y.val (K2.grew y.ok))
        have CR := Lib.hid (fun (y : Gr u2) => keyroot_ok g p who seed P (nx) (v3) hpl HLV.out HLT.out y.val (K2.grew y.ok))
        have CM := Lib.hid (fun (y : Gr u2) => rkroot_ok bm _ who seed h P (nx) (v3) hpl HLV.out HLT.out y.val (M2.grew y.ok))
        have ew : IntKind.i64.wrap ((P.length : Int) - ((nx : Nat) : Int)) = (P.length : Int) - ((nx : Nat) : Int) := IntWalk.i64_in _ (by have := hnx; omega)
        clear zm rm
        refine wp_region_grew (grew_refl u2) (by kernel_rfl) (by kernel_rfl) ?_
        repeat (go_big_quiet_step (first
          | (go_at_call 21; exact callS (CX.out _))
          | (go_at_call 22; exact callG (CL.out _))
          | (go_at_call 23; exact callG (CR.out _))
          | (go_at_call 24; exact callG (CM.out _))))
        refine wpQuiet_nil ?_
        rintro w8 ⟨⟨w8', g8⟩, rfl⟩
        have K8 := K2.grew g8
        have M8 := M2.grew g8
        have G8 := grew_trans G2 g8
        clear m3 m4 CX CL CR CM ew
        go_wp2_with fail
        go_roundw
        case rel => exact ⟨k + 1, g, nx, v3, by have := HK.out; omega, by go_num, rfl, hnx, hrr, K8, M8, hgm, hwg, G8⟩
        case measure => have := HK.out; simp [intOf]; omega
      by_cases hx3 : x = 3
      · subst hx3; clear hx1 hx2
        have CS := Lib.hid (fun W h1 => rskip_any bm (fun i => i = bm ∨ i = g) (.inl rfl) who seed h P nx rs hpl hnx hrs y W h1)
        have CT := Lib.hid (fun W h1 => kskip_any g p who seed P nx rs hpl hnx hrs y W h1)
        have hnn := skN_le P nx y hnx
        have hrr := skR_le P nx rs y hrs
        obtain ⟨v1, hv1⟩ : ∃ v, skE P nx y = v := ⟨_, rfl⟩
        obtain ⟨v2, hv2⟩ : ∃ v, skN P nx y = v := ⟨_, rfl⟩
        obtain ⟨v3, hv3⟩ : ∃ v, skR P nx rs y = v := ⟨_, rfl⟩
        rw [hv2] at hnn
        rw [hv3] at hrr
        simp only [hv1, hv2, hv3] at CS CT
        clear hv1 hv2 hv3
        go_wp2_with (first
          | (with_reducible refine wpList_load_at rfl 33 (.tmp 64) rfl (ad.add (k * 3)) rfl (act3 (3, y, z)) _ HC.out hua rfl HSL.out ?_)
          | (with_reducible refine wpList_store_mid rfl 33 (.tmp 14) (.tmp 65) rfl wr.heap.size 0 (#[.int .i64 3, .int .i64 y, .int .u64 z]) rfl rfl HTH.out HSA.out HON.out ?_; rw [HWA.out]))
        generalize wr.heap.size = q at *
        have ea : (v1 != v1) = false := by simp
        refine wp_region_rel2 8 (fun k => bif Nat.beq k 3 then Tn g else bif Nat.beq k 7 then Tn bm else Grew)
          (fun k yw => Ag yw q (#[.int .i64 3, .int .i64 y, .int .u64 z] : Array Value).toList ∧ (k = 3 → KyAt yw g p who seed P nx rs) ∧ (k = 7 → RkAt yw bm (fun i => i = bm ∨ i = g) who seed h P nx rs))
          (fun yw => Kp (fun i => i = g ∨ i = bm) vq yw ∧ Ag yw q (#[.int .i64 3, .int .i64 y, .int .u64 z] : Array Value).toList)
          (fun i => match i with
            | 0 => fun v _ => v = .pointer (some ⟨g, 0, none⟩)
            | 1 => fun v _ => v = .pointer (some ⟨q, 1, none⟩)
            | 2 => fun v _ => v = .int .i64 y
            | 3 => fun v w => SkK p who seed P v1 g v2 v3 w v
            | 4 => fun v _ => v = .pointer (some ⟨bm, 0, none⟩)
            | 5 => fun v _ => v = .pointer (some ⟨q, 1, none⟩)
            | 6 => fun v _ => v = .int .i64 y
            | 7 => fun v w => SkM bm (fun i => i = bm ∨ i = g) who seed h P v1 v2 v3 w v
            | _ => fun _ _ => True) (by kernel_rfl) (by kernel_rfl) ?_ ?_ ?_ ?_ ?_ ?_ ?_
        · exact fun i => ⟨z5.grew (grew_drewN (grew_refl _) 1), fun _ => Kq.grew (grew_drewN (grew_refl _) 1), fun _ => Mq.grew (grew_drewN (grew_refl _) 1)⟩
        · exact ⟨kp_drew (kp_refl _ _), z5.grew (grew_drewN (grew_refl _) 1)⟩
        · intro i k y1 y2 hik hT hI hR
          have hk : Kp (fun i => i = g ∨ i = bm) y1 y2 := stepGM hR
          refine ⟨hI.1.kp hk (fun e => by rcases e with e | e; exact hqg e; exact hqm e), fun e => ?_, fun e => ?_⟩
          · have hk3 : Nat.beq k 3 = false := by cases hk3 : Nat.beq k 3; rfl; exact absurd (e.trans (Nat.eq_of_beq_eq_true hk3).symm) hik
            rw [hk3] at hR
            cases hk7 : Nat.beq k 7
            · rw [hk7] at hR; exact (hI.2.1 e).grew hR
            · rw [hk7] at hR; exact (hI.2.1 e).tn hR hgm hpm
          · have hk7 : Nat.beq k 7 = false := by cases hk7 : Nat.beq k 7; rfl; exact absurd (e.trans (Nat.eq_of_beq_eq_true hk7).symm) hik
            rw [hk7] at hR
            cases hk3 : Nat.beq k 3
            · rw [hk3] at hR; exact (hI.2.2 e).grew hR
            · rw [hk3] at hR; exact (hI.2.2 e).kp (kp_tn hR) (fun e => hgm e.symm) (fun i e => .inr e)
        · intro k y1 y2 hT hR
          have hk : Kp (fun i => i = g ∨ i = bm) y1 y2 := stepGM hR
          exact ⟨kp_trans hT.1 hk, hT.2.kp hk (fun e => by rcases e with e | e; exact hqg e; exact hqm e)⟩
        · intro i k v y1 y2 hik hT h hR
          match i, h with
          | 0, h | 1, h | 2, h | 4, h | 5, h | 6, h => exact h
          | 3, h =>
            have hk3 : Nat.beq k 3 = false := by cases hk3 : Nat.beq k 3; rfl; exact absurd (Nat.eq_of_beq_eq_true hk3).symm hik
            rw [hk3] at hR
            refine ⟨h.val, ?_⟩
            cases hk7 : Nat.beq k 7
            · rw [hk7] at hR; exact h.key.grew hR
            · rw [hk7] at hR; exact h.key.tn hR hgm hpm
          | 7, h =>
            have hk7 : Nat.beq k 7 = false := by cases hk7 : Nat.beq k 7; rfl; exact absurd (Nat.eq_of_beq_eq_true hk7).symm hik
            rw [hk7] at hR
            refine ⟨h.val, ?_⟩
            cases hk3 : Nat.beq k 3
            · rw [hk3] at hR; exact h.key.grew hR
            · rw [hk3] at hR; exact h.key.kp (kp_tn hR) (fun e => hgm e.symm) (fun i e => .inr e)
          | m + 8, _ => trivial
        · refine ⟨?_, ?_, ?_, ?_, ?_, ?_, ?_, ?_, trivial⟩
          · intro vs yy hg hd
            simp only [actOf, List.take_succ_cons, List.take_zero, List.drop_succ_cons, List.drop_zero, Act.put, List.setIfInBounds_toArray, List.set_cons_succ, List.set_cons_zero, Nat.reduceAdd]
            go_wp2_with fail
            exact ⟨rfl, _, rfl, grew_refl _, rfl⟩
          · intro vs yy hg hd
            simp only [actOf, List.take_succ_cons, List.take_zero, List.drop_succ_cons, List.drop_zero, Act.put, List.setIfInBounds_toArray, List.set_cons_succ, List.set_cons_zero, Nat.reduceAdd]
            go_wp2_with fail
            exact ⟨rfl, _, rfl, grew_refl _, rfl⟩
          · intro vs yy hg hd
            obtain ⟨h1, _⟩ := hd
            replace h1 := h1 rfl
            simp only [actOf, List.take_succ_cons, List.take_zero, List.drop_succ_cons, List.drop_zero, Act.put, List.setIfInBounds_toArray, List.set_cons_succ, List.set_cons_zero, Nat.reduceAdd]
            rw [show vs 1 = _ from h1]
            have hc : yy.cell? ⟨q, 1, none⟩ = some (.int .i64 y) := by simpa using hg.1.cell 1 _ rfl
            go_wp2_with fail
            exact ⟨rfl, _, rfl, grew_refl _, rfl⟩
          · intro vs yy hg hd
            obtain ⟨h0, h2, _⟩ := hd
            replace h0 := h0 rfl
            replace h2 := h2 rfl
            simp only [actOf, List.take_succ_cons, List.take_zero, List.drop_succ_cons, List.drop_zero, Act.put, List.setIfInBounds_toArray, List.set_cons_succ, List.set_cons_zero, Nat.reduceAdd]
            rw [show vs 0 = _ from h0, show vs 2 = _ from h2]
            have kk := hg.2.1 rfl
            go_wp2_with (go_at_call 18; refine (CT.out yy kk).mono ?_; rintro e u1 ⟨rfl, t1, K1⟩)
            exact ⟨rfl, _, rfl, t1, ⟨rfl, K1⟩⟩
          · intro vs yy hg hd
            simp only [actOf, List.take_succ_cons, List.take_zero, List.drop_succ_cons, List.drop_zero, Act.put, List.setIfInBounds_toArray, List.set_cons_succ, List.set_cons_zero, Nat.reduceAdd]
            go_wp2_with fail
            exact ⟨rfl, _, rfl, grew_refl _, rfl⟩
          · intro vs yy hg hd
            simp only [actOf, List.take_succ_cons, List.take_zero, List.drop_succ_cons, List.drop_zero, Act.put, List.setIfInBounds_toArray, List.set_cons_succ, List.set_cons_zero, Nat.reduceAdd]
            go_wp2_with fail
            exact ⟨rfl, _, rfl, grew_refl _, rfl⟩
          · intro vs yy hg hd
            obtain ⟨h5, _⟩ := hd
            replace h5 := h5 rfl
            simp only [actOf, List.take_succ_cons, List.take_zero, List.drop_succ_cons, List.drop_zero, Act.put, List.setIfInBounds_toArray, List.set_cons_succ, List.set_cons_zero, Nat.reduceAdd]
            rw [show vs 5 = _ from h5]
            have hc : yy.cell? ⟨q, 1, none⟩ = some (.int .i64 y) := by simpa using hg.1.cell 1 _ rfl
            go_wp2_with fail
            exact ⟨rfl, _, rfl, grew_refl _, rfl⟩
          · intro vs yy hg hd
            obtain ⟨h4, h6, _⟩ := hd
            replace h4 := h4 rfl
            replace h6 := h6 rfl
            simp only [actOf, List.take_succ_cons, List.take_zero, List.drop_succ_cons, List.drop_zero, Act.put, List.setIfInBounds_toArray, List.set_cons_succ, List.set_cons_zero, Nat.reduceAdd]
            rw [show vs 4 = _ from h4, show vs 6 = _ from h6]
            have kk := hg.2.2 rfl
            go_wp2_with (go_at_call 19; refine (CS.out yy kk).mono ?_; rintro e u1 ⟨rfl, t1, K1⟩)
            exact ⟨rfl, _, rfl, t1, ⟨rfl, K1⟩⟩
        · intro vs u2 hT hJ
          have j0 : vs 0 = .pointer (some ⟨g, 0, none⟩) := hJ 0 (by decide)
          have j1 : vs 1 = .pointer (some ⟨q, 1, none⟩) := hJ 1 (by decide)
          have j2 : vs 2 = .int .i64 y := hJ 2 (by decide)
          have j4 : vs 4 = .pointer (some ⟨bm, 0, none⟩) := hJ 4 (by decide)
          have j5 : vs 5 = .pointer (some ⟨q, 1, none⟩) := hJ 5 (by decide)
          have j6 : vs 6 = .int .i64 y := hJ 6 (by decide)
          obtain ⟨j3, K2⟩ := (show SkK p who seed P v1 g v2 v3 u2 (vs 3) from hJ 3 (by decide))
          obtain ⟨j7, M2⟩ := (show SkM bm (fun i => i = bm ∨ i = g) who seed h P v1 v2 v3 u2 (vs 7) from hJ 7 (by decide))
          have G2 : Grew w u2 := below_kp Gq hT.1 Gq.size (fun i e => by rcases e with e | e <;> omega)
          clear hJ hT
          simp only [actOf, List.take_succ_cons, List.take_zero, List.drop_succ_cons, List.drop_zero, Act.put, List.setIfInBounds_toArray, List.set_cons_succ, List.set_cons_zero, Nat.reduceAdd]
          rw [j0, j1, j2, j3, j4, j5, j6, j7]
          clear j0 j1 j2 j3 j4 j5 j6 j7 CS CT Kq Mq Gq z5 co cn cd
          go_wp2_with fail
          obtain ⟨A9, c9, zm, rm⟩ := M2.out
          have m3 : ∀ y : Gr u2, y.val.cell? ⟨bm, 3, none⟩ = some (.slice A9 P.length c9) := fun y => by simpa using (zm.grew y.ok).cell 3 _ rfl
          have m4 : ∀ y : Gr u2, y.val.cell? ⟨bm, 4, none⟩ = some (.int .i64 ((v2 : Nat) : Int)) := fun y => by simpa using (zm.grew y.ok).cell 4 _ rfl
          have CX := Lib.hid (fun (y : Gr u2) => next_ok g p who seed P (v2) (v3) y.val (K2.grew y.ok))
          have CL := Lib.hid (fun (y : Gr u2) => left_ok g p who seed P (v2) (v3) hpl hnn y.val (K2.grew y.ok))
          have CR := Lib.hid (fun (y : Gr u2) => keyroot_ok g p who seed P (v2) (v3) hpl HLV.out HLT.out y.val (K2.grew y.ok))
          have CM := Lib.hid (fun (y : Gr u2) => rkroot_ok bm _ who seed h P (v2) (v3) hpl HLV.out HLT.out y.val (M2.grew y.ok))
          have ew : IntKind.i64.wrap ((P.length : Int) - ((v2 : Nat) : Int)) = (P.length : Int) - ((v2 : Nat) : Int) := IntWalk.i64_in _ (by have := hnn; omega)
          clear zm rm
          refine wp_region_grew (grew_refl u2) (by kernel_rfl) (by kernel_rfl) ?_
          repeat (go_big_quiet_step (first
            | (go_at_call 21; exact callS (CX.out _))
            | (go_at_call 22; exact callG (CL.out _))
            | (go_at_call 23; exact callG (CR.out _))
            | (go_at_call 24; exact callG (CM.out _))))
          refine wpQuiet_nil ?_
          rintro w8 ⟨⟨w8', g8⟩, rfl⟩
          have K8 := K2.grew g8
          have M8 := M2.grew g8
          have G8 := grew_trans G2 g8
          clear m3 m4 CX CL CR CM ew
          go_wp2_with fail
          go_roundw
          case rel => exact ⟨k + 1, g, v2, v3, by have := HK.out; omega, by go_num, rfl, hnn, hrr, K8, M8, hgm, hwg, G8⟩
          case measure => have := HK.out; simp [intOf]; omega
      by_cases hx4 : x = 4
      · subst hx4; clear hx1 hx2 hx3
        have CW := Lib.hid (twin_ok g p who seed P nx rs vq Kq)
        have hrr := reR_le P rs 1 hrs
        have Mc : RkAt vq bm (fun i => i = bm ∨ i = g ∨ i = vq.heap.size) who seed h P nx rs := Mq.chg (fun i hi e => by rcases e with e | e | e; exact .inl e; exact .inr e; omega)
        have htg : vq.heap.size ≠ g := by have := Kq.key.lt; omega
        have htm : vq.heap.size ≠ bm := by have := Mq.lt; omega
        have htp : p ≠ vq.heap.size := by have := Kq.pub.lt; omega
        have hwt : w.heap.size ≤ vq.heap.size := Gq.size
        go_wp2_with (first
          | (with_reducible refine wpList_load_at rfl 33 (.tmp 64) rfl (ad.add (k * 3)) rfl (act3 (4, y, z)) _ HC.out hua rfl HSL.out ?_)
          | (with_reducible refine wpList_store_mid rfl 33 (.tmp 14) (.tmp 65) rfl wr.heap.size 0 (#[.int .i64 4, .int .i64 y, .int .u64 z]) rfl rfl HTH.out HSA.out HON.out ?_; rw [HWA.out]))
        refine CW.out.mono ?_
        rintro e u1 ⟨rfl, t1, T1, -⟩
        have K1 := Kq.grew t1
        have M1 := Mc.grew t1
        have G1 := grew_trans Gq t1
        clear CW Kq Mq Mc Gq z5 co cn cd t1
        generalize vq.heap.size = tb at *
        go_wp2_with fail
        refine (kres_any g p who seed P nx rs hpl hnx hrs 1 u1 K1).mono ?_
        rintro e u2 ⟨rfl, t2, K2⟩
        have T2 := T1.tn t2 htg (fun e => K1.ne e)
        have M2 := M1.kp (kp_tn t2) (fun e => hgm e.symm) (fun i e => .inr (.inl e))
        have G2 := grew_tn G1 t2 hwg
        clear K1 T1 M1 G1 t2
        obtain ⟨a1, ha1⟩ : ∃ v, reV P rs 1 = v := ⟨_, rfl⟩
        obtain ⟨a2, ha2⟩ : ∃ v, reE P rs 1 = v := ⟨_, rfl⟩
        rw [ha1, ha2]
        clear ha1 ha2
        go_wp2_with fail
        refine (ksign_any g p who seed P nx _ hpl hnx hrr 7 HLV.out HLT.out HSD.out ⟨by omega, by omega⟩ u2 K2).mono ?_
        rintro e u3 ⟨⟨A1, c1, rfl, r1, hA1⟩, t3, K3⟩
        have T3 := T2.tn t3 htg (fun e => K2.ne e)
        have M3 := M2.kp (kp_tn t3) (fun e => hgm e.symm) (fun i e => .inr (.inl e))
        have M4 := M3.chg (N' := fun i => i = bm ∨ i = tb) (fun i _ e => by rcases e with e | e; exact .inl e; exact .inr (.inr e))
        have G3 := grew_tn G2 t3 hwg
        clear K2 T2 M2 G2 t3 K3 M3 r1 hA1
        obtain ⟨a3, ha3⟩ : ∃ v, sgC (soW P nx (reR P rs 1) who) (soL P nx (reR P rs 1)) (soS P nx (reR P rs 1) seed 7) (.slice A1 (soP P nx (reR P rs 1)).length c1) = v := ⟨_, rfl⟩
        obtain ⟨a4, ha4⟩ : ∃ v, soE P nx (reR P rs 1) = v := ⟨_, rfl⟩
        rw [ha3, ha4]
        clear ha3 ha4 hrr
        go_wp2_with fail
        obtain ⟨A9, c9, zm, rm⟩ := M4.out
        have m3 : ∀ y : Gr u3, y.val.cell? ⟨bm, 3, none⟩ = some (.slice A9 P.length c9) := fun y => by simpa using (zm.grew y.ok).cell 3 _ rfl
        have m4 : ∀ y : Gr u3, y.val.cell? ⟨bm, 4, none⟩ = some (.int .i64 ((nx : Nat) : Int)) := fun y => by simpa using (zm.grew y.ok).cell 4 _ rfl
        have CX := Lib.hid (fun (y : Gr u3) => next_ok tb p who seed P (nx) (rs) y.val (T3.grew y.ok))
        have CL := Lib.hid (fun (y : Gr u3) => left_ok tb p who seed P (nx) (rs) hpl hnx y.val (T3.grew y.ok))
        have CR := Lib.hid (fun (y : Gr u3) => keyroot_ok tb p who seed P (nx) (rs) hpl HLV.out HLT.out y.val (T3.grew y.ok))
        have CM := Lib.hid (fun (y : Gr u3) => rkroot_ok bm _ who seed h P (nx) (rs) hpl HLV.out HLT.out y.val (M4.grew y.ok))
        have ew : IntKind.i64.wrap ((P.length : Int) - ((nx : Nat) : Int)) = (P.length : Int) - ((nx : Nat) : Int) := IntWalk.i64_in _ (by have := hnx; omega)
        clear zm rm
        refine wp_region_grew (grew_refl u3) (by kernel_rfl) (by kernel_rfl) ?_
        repeat (go_big_quiet_step (first
          | (go_at_call 21; exact callS (CX.out _))
          | (go_at_call 22; exact callG (CL.out _))
          | (go_at_call 23; exact callG (CR.out _))
          | (go_at_call 24; exact callG (CM.out _))))
        refine wpQuiet_nil ?_
        rintro w8 ⟨⟨w8', g8⟩, rfl⟩
        have K8 := T3.grew g8
        have M8 := M4.grew g8
        have G8 := grew_trans G3 g8
        clear m3 m4 CX CL CR CM ew
        go_wp2_with fail
        go_roundw
        case rel => exact ⟨k + 1, tb, nx, rs, by have := HK.out; omega, by go_num, rfl, hnx, hrs, K8, M8, htm, hwt, G8⟩
        case measure => have := HK.out; simp [intOf]; omega
      have n1 : (x == 1) = false := beq_eq_false_iff_ne.2 (by omega)
      have n2 : (x == 2) = false := beq_eq_false_iff_ne.2 (by omega)
      have n3 : (x == 3) = false := beq_eq_false_iff_ne.2 (by omega)
      have n4 : (x == 4) = false := beq_eq_false_iff_ne.2 (by omega)
      go_wp2_with (first
        | (with_reducible refine wpList_load_at rfl 33 (.tmp 64) rfl (ad.add (k * 3)) rfl (act3 (x, y, z)) _ HC.out hua rfl HSL.out ?_)
        | (with_reducible refine wpList_store_mid rfl 33 (.tmp 14) (.tmp 65) rfl wr.heap.size 0 (#[.int .i64 x, .int .i64 y, .int .u64 z]) rfl rfl HTH.out HSA.out HON.out ?_; rw [HWA.out]))
      obtain ⟨A9, c9, zm, rm⟩ := Mq.out
      have m3 : ∀ y : Gr vq, y.val.cell? ⟨bm, 3, none⟩ = some (.slice A9 P.length c9) := fun y => by simpa using (zm.grew y.ok).cell 3 _ rfl
      have m4 : ∀ y : Gr vq, y.val.cell? ⟨bm, 4, none⟩ = some (.int .i64 ((nx : Nat) : Int)) := fun y => by simpa using (zm.grew y.ok).cell 4 _ rfl
      have CX := Lib.hid (fun (y : Gr vq) => next_ok g p who seed P (nx) (rs) y.val (Kq.grew y.ok))
      have CL := Lib.hid (fun (y : Gr vq) => left_ok g p who seed P (nx) (rs) hpl hnx y.val (Kq.grew y.ok))
      have CR := Lib.hid (fun (y : Gr vq) => keyroot_ok g p who seed P (nx) (rs) hpl HLV.out HLT.out y.val (Kq.grew y.ok))
      have CM := Lib.hid (fun (y : Gr vq) => rkroot_ok bm _ who seed h P (nx) (rs) hpl HLV.out HLT.out y.val (Mq.grew y.ok))
      have ew : IntKind.i64.wrap ((P.length : Int) - ((nx : Nat) : Int)) = (P.length : Int) - ((nx : Nat) : Int) := IntWalk.i64_in _ (by have := hnx; omega)
      clear zm rm
      refine wp_region_grew (grew_refl vq) (by kernel_rfl) (by kernel_rfl) ?_
      repeat (go_big_quiet_step (first
        | (go_at_call 21; exact callS (CX.out _))
        | (go_at_call 22; exact callG (CL.out _))
        | (go_at_call 23; exact callG (CR.out _))
        | (go_at_call 24; exact callG (CM.out _))))
      refine wpQuiet_nil ?_
      rintro w8 ⟨⟨w8', g8⟩, rfl⟩
      have K8 := Kq.grew g8
      have M8 := Mq.grew g8
      have G8 := grew_trans Gq g8
      clear m3 m4 CX CL CR CM ew
      go_wp2_with fail
      go_roundw
      case rel => exact ⟨k + 1, g, nx, rs, by have := HK.out; omega, by go_num, rfl, hnx, hrs, K8, M8, hgm, hwg, G8⟩
      case measure => have := HK.out; simp [intOf]; omega
    · obtain rfl : k = l.length := by omega
      go_wp2_with fail
      go_ret
      exact ⟨rfl, G⟩
end Go.Proofs.YtpgbfglfgcidaaaGreatDoor
