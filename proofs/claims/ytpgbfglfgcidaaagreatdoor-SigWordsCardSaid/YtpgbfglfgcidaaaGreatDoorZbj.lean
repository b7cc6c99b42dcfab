/- SigWords: the law's body. -/
import Derived.Test.YtpgbfglfgcidaaaGreatDoorZbh
import Derived.Test.YtpgbfglfgcidaaaGreatDoorZbi
namespace Go.Proofs.YtpgbfglfgcidaaaGreatDoor
set_option linter.unusedSimpArgs false
set_option linter.unusedVariables false
open Go.RowKit
set_option linter.unusedVariables false
set_option linter.unusedSimpArgs false
set_option maxRecDepth 100000 in
set_option maxHeartbeats 10000000 in
theorem sigWords_law2 (tj : ByteArray) (hx : sgE (sigP tj.data.toList) = 2) (who leaf : Int) (hw : in64 who) (hlf : in64 leaf) (A3 A4 : Option Addr) (c3 c4 : Nat) (one path : List Nat) (ho : ∀ n ∈ one, n < 18446744073709551616) (hp : ∀ n ∈ path, n < 18446744073709551616) (w : World) (hS : Std w) (hr3 : Rd w w.heap.size A3 (u64L one)) (hr4 : Rd w w.heap.size A4 (u64L path)) :
    Calls Tryz.prog 5 #[.string tj, .int .i64 who, .int .i64 leaf, .slice A3 one.length c3, .slice A4 path.length c4] w fun e w' => e = .returned (.bool true) ∧ Grew w w' := by
  have CK := Lib.hid (kknown_ok w hS)
  have HS := Lib.hid hS
  have HO := Lib.hid ho
  have HP := Lib.hid hp
  have HW := Lib.hid hw
  have HLF := Lib.hid hlf
  clear ho hp hw hlf hS
  go_enter Tryz.func5, Tryz.ntmps5
  go_wp2_with fail
  refine (CK.out).mono ?_
  rintro e w1 ⟨rfl, G1⟩
  clear CK
  cases E1 : decide (1000 < (tj.size : Int))
  case true =>
    go_wp2_with fail
    go_ret
    exact ⟨rfl, G1⟩
  case false =>
  cases E2 : decide ((one.length : Int) < 18)
  case true =>
    go_wp2_with fail
    go_ret
    exact ⟨rfl, G1⟩
  case false =>
  cases E3 : decide (20 < (path.length : Int))
  case true =>
    go_wp2_with fail
    go_ret
    exact ⟨rfl, G1⟩
  case false =>
  go_upto_region 4 with fail
  simp only [decide_eq_false_iff_not] at E1 E2 E3
  have HE := Lib.hid (show tj.size ≤ 1000 ∧ 18 ≤ one.length ∧ path.length ≤ 20 from ⟨by omega, by omega, by omega⟩)
  clear E1 E2 E3
  have CA := Lib.hid (kparse_any tj (by have := HE.out.1; omega) w1 (HS.out.grew G1))
  have CB := Lib.hid (fun W => rps_any tj (by have := HE.out.1; omega) W)
  have HIN := Lib.hid (sgO_in tj.data.toList)
  have HBK : Hid (sgE (sigP tj.data.toList) = 0 → sgT (sgO (sigP tj.data.toList)).1.1 (sgO (sigP tj.data.toList)).1.2 (sgO (sigP tj.data.toList)).2.1 (sgO (sigP tj.data.toList)).2.2 = tj.data.toList) := Lib.hid (fun h => sgO_back (by
    unfold sgE at h
    cases hs : (sigP tj.data.toList).isSome with
    | true => rfl
    | false => rw [hs] at h; simp at h))
  generalize sgE (sigP tj.data.toList) = ex at *
  have HX := Lib.hid hx
  clear hx
  generalize sgO (sigP tj.data.toList) = X at *
  obtain ⟨⟨wx, lx⟩, sx, px⟩ := X
  dsimp only at CA CB HIN HBK
  have hur := Tryz.underlying45
  have huk := Tryz.underlying39
  refine (CA.out).mono ?_
  rintro e w2 ⟨⟨A5, c5, rfl, r5⟩, g2⟩
  clear CA
  have G2 := grew_trans G1 g2
  obtain ⟨v2, hv2, th2, gs2, z2⟩ := put_ksig w2 (sgC wx lx sx (.slice A5 px.length c5)) rfl
  have HV2 := Lib.hid hv2
  have TH2 := Lib.hid th2
  have SI2 : Hid ((Tryz.prog.info? 39).map (·.size) = some (sgC wx lx sx (.slice A5 px.length c5)).size) := Lib.hid sg_info
  have ON2 := Lib.hid (sgC_one wx lx sx A5 px.length c5)
  clear hv2 th2 g2 G1
  go_wp2_with (with_reducible refine wpList_store_mid rfl 39 (.tmp 11) (.tmp 41) rfl w2.heap.size 0 (sgC wx lx sx (.slice A5 px.length c5)) rfl rfl TH2.out SI2.out ON2.out ?_; rw [HV2.out])
  clear HV2 TH2 SI2 ON2
  have H2 := grew_trans G2 gs2
  have r5' := r5.gr gs2
  clear r5
  refine (CB.out v2).mono ?_
  rintro e w3 ⟨⟨A6, c6, rfl, r6⟩, g3⟩
  clear CB
  obtain ⟨v3, hv3, th3, gs3, z3⟩ := put_rsig w3 (sgC wx lx sx (.slice A6 px.length c6)) rfl
  have HV3 := Lib.hid hv3
  have TH3 := Lib.hid th3
  have SI3 : Hid ((Tryz.prog.info? 45).map (·.size) = some (sgC wx lx sx (.slice A6 px.length c6)).size) := Lib.hid rg_info
  have ON3 := Lib.hid (sgC_one wx lx sx A6 px.length c6)
  clear hv3 th3
  obtain ⟨v4, hv4, th4, gs4, z4⟩ := put_rsig v3 (sgC who leaf (fun _ => 0) (.slice A4 path.length c4)) rfl
  have HV4 := Lib.hid hv4
  have TH4 := Lib.hid th4
  have SI4 : Hid ((Tryz.prog.info? 45).map (·.size) = some (sgC who leaf (fun _ => 0) (.slice A4 path.length c4)).size) := Lib.hid rg_info
  have ON4 := Lib.hid (sgC_one who leaf (fun _ => 0) A4 path.length c4)
  have HBU := Lib.hid (rg_built3 who leaf A4 path.length c4)
  clear hv4 th4
  go_wp2_with (first
    | (with_reducible refine wpList_store_mid rfl 45 (.tmp 13) (.tmp 46) rfl w3.heap.size 0 (sgC wx lx sx (.slice A6 px.length c6)) rfl rfl TH3.out SI3.out ON3.out ?_; rw [HV3.out])
    | (with_reducible refine wpList_build_is rfl 45 #[(0, .tmp 48), (1, .tmp 49), (3, .tmp 50)] rfl (sgC who leaf (fun _ => 0) (.slice A4 path.length c4)) ?_ ?_; · simpa [Act.eval, Act.put] using HBU.out)
    | (with_reducible refine wpList_store_mid rfl 45 (.tmp 15) (.tmp 51) rfl v3.heap.size 0 (sgC who leaf (fun _ => 0) (.slice A4 path.length c4)) rfl rfl TH4.out SI4.out ON4.out ?_; rw [HV4.out]))
  clear HV3 TH3 SI3 ON3 HV4 TH4 SI4 ON4 HBU
  have H3 := grew_trans H2 (grew_trans g3 gs3)
  have q2 := z2.grew (grew_trans g3 gs3)
  have r5 := r5'.gr (grew_trans g3 gs3)
  have r6' := r6.gr gs3
  have q3 := hr3.gr H3
  have q4 := hr4.gr H3
  clear z2 r5' r6 hr3 hr4 H2 g3 gs3 gs2 G2
  rw [← sgC_none who leaf (fun k => one.getD k 0)] at z4
  go_loopw [16] (fun i wr => ∃ k : Nat, k ≤ 18 ∧ i = .int .i64 k ∧ Ag wr v3.heap.size (sgC who leaf (fillS (fun k => one.getD k 0) k) (.slice A4 path.length c4)).toList ∧ Grew v3 wr) (fun i _ => 18 - (intOf i).toNat)
  case atStart => exact ⟨0, Nat.zero_le _, rfl, z4, gs4⟩
  case round =>
    clear z4 gs4
    obtain ⟨k, hk, rfl, hn, hg⟩ := hrel
    by_cases hlt : k < 18
    · have hko : k < one.length := by have := HE.out.2.1; omega
      obtain ⟨ad, hA, -, hc0⟩ := rd_u64 (q3.gr hg) k hko
      rw [show one[k] = (fun k => one.getD k 0) k by simp [List.getD_eq_getElem?_getD, hko]] at hc0
      generalize (fun k => one.getD k 0) = sg at *
      have hk0 : (0 : Int) ≤ (k : Int) := by omega
      have hk1 : (k : Int) < 18 := by omega
      have hk2 : (k : Int) < (one.length : Int) := by omega
      have hc2 := sg_at hn k hlt
      have hf2 := (hn.there (2 + k) (by rw [sgC_len]; omega)).2
      rw [Nat.zero_add] at hf2
      have m := hn.set1 (2 + k) (.int .u64 (sg k : Nat)) (by rw [sgC_len]; omega)
      rw [sgC_put who leaf sg _ k hlt] at m
      have M1 := Lib.hid m
      have M5 := Lib.hid (setCells_grew (o := 2 + k) (b := v3.heap.size) [.int .u64 (sg k : Nat)] hg (Nat.le_refl _))
      clear m hn hg
      subst hA
      go_wp2_with fail
      go_roundw
      case rel => exact ⟨k + 1, by omega, by go_num, M1.out, M5.out⟩
      case measure => simp [intOf]; omega
    · obtain rfl : k = 18 := by omega
      rw [sgC_full] at hn
      have HSG : Hid (∀ k, k < 18 → (fun k => one.getD k 0) k < 18446744073709551616) := Lib.hid (fun k hk => by
        have hko : k < one.length := by have := HE.out.2.1; omega
        have := HO.out (one[k]) (List.getElem_mem hko)
        simpa [List.getD_eq_getElem?_getD, hko] using this)
      generalize (fun k => one.getD k 0) = sg at *
      clear hlt hk q3 HO
      have hg3 := grew_trans H3 hg
      have q4' := q4.gr hg
      have q2' := q2.grew hg
      have z3' := z3.grew hg
      have r5' := r5.gr hg
      have r6'' := r6'.gr hg
      clear q4 q2 z3 r5 r6' hg H3
      have hpl : path.length ≤ 20 := HE.out.2.2
      have HM := Lib.hid hn.cell
      have HL : Hid ((Tryz.prog.info? 45).map (·.size) = some (sgC who leaf sg (.slice A4 path.length c4)).toList.length) := Lib.hid rg_info
      have CT := Lib.hid (kto_ok who leaf sg A4 c4 path (by omega) wr q4')
      have CX := Lib.hid (fun A7 c7 W hW hR => ktext_ok who leaf sg A7 c7 path HW.out HLF.out (by omega) HSG.out HP.out W hW hR)
      have hsz : (⟨(sgT who leaf sg path).toArray⟩ : ByteArray).size ≤ 1000000 := by
        have h1 := itoa_len HW.out.1 HW.out.2
        have h2 := itoa_len HLF.out.1 HLF.out.2
        have h3 := digs_len (oneL sg)
        rw [oneL_length] at h3
        have h4 := digs_len path
        have f1 := fld_len (Lib.itoa who)
        have f2 := fld_len (Lib.itoa leaf)
        have f3 := fld_len (digs (oneL sg))
        have f4 := fld_len (digs path)
        show (sgT who leaf sg path).toArray.size ≤ _
        rw [List.size_toArray]
        unfold sgT
        simp only [joinF, List.flatMap_cons, List.flatMap_nil, List.length_append, List.length_cons, List.length_nil]
        omega
      have CA := Lib.hid (fun W hW => kparse_any ⟨(sgT who leaf sg path).toArray⟩ hsz W hW)
      have CB := Lib.hid (fun W => rps_any ⟨(sgT who leaf sg path).toArray⟩ hsz W)
      have CS := Lib.hid (fun A8 c8 W hR => rsigtext_ok who leaf sg A8 c8 path HW.out HLF.out (by omega) HSG.out HP.out W hR)
      have hsp := sigP_sgT who leaf sg path HW.out HLF.out HSG.out HP.out
      rw [show (⟨(sgT who leaf sg path).toArray⟩ : ByteArray).data.toList = sgT who leaf sg path from by simp] at CA CB
      have HPZ := Lib.hid hsp
      have HZN : Hid ((sgO (sigP (sgT who leaf sg path))).2.2.length ≤ 8) := Lib.hid (sgO_in _).2.2.2.2
      clear hsp hsz
      generalize (⟨(sgT who leaf sg path).toArray⟩ : ByteArray) = tt at *
      generalize sigP (sgT who leaf sg path) = Z at *
      go_wp2_with (with_reducible refine wpList_load_mid rfl 45 (.tmp 15) rfl v3.heap.size 0 rfl (sgC who leaf sg (.slice A4 path.length c4)).toList _ HM.out hur rfl HL.out ?_; simp only [Array.toArray_toList])
      refine (CT.out).mono ?_
      rintro e w5 ⟨A7, c7, rfl, r7, g5⟩
      go_wp2_with fail
      refine (CX.out A7 c7 w5 (HS.out.grew (grew_trans hg3 g5)) r7).mono ?_
      rintro e w6 ⟨rfl, g6⟩
      clear CT CX HM HL r7
      have g56 := grew_trans g5 g6
      have G6 := grew_trans hg3 g56
      have q4 := q4'.gr g56
      have q2 := q2'.grew g56
      have z3 := z3'.grew g56
      have r5 := r5'.gr g56
      have r6 := r6''.gr g56
      have z4 := hn.grew g56
      clear q4' q2' z3' r5' r6'' hn g56 g5 g6 hg3
      go_wp2_with fail
      refine (CA.out _ (HS.out.grew G6)).mono ?_
      rintro e w7 ⟨⟨A8, c8, rfl, r8⟩, g7⟩
      have HQ : Hid ((sigB who leaf path.length = true → sgE Z = 0 ∧ (∀ pv, sgC (sgO Z).1.1 (sgO Z).1.2 (sgO Z).2.1 pv = sgC who leaf sg pv) ∧ (sgO Z).2.2 = path) ∧ (sigB who leaf path.length = false → sgE Z = 2)) := Lib.hid (by
        rw [HPZ.out]
        refine ⟨fun h => ?_, fun h => ?_⟩
        · rw [if_pos h]
          exact ⟨rfl, fun pv => sgC_oneL who leaf sg pv, rfl⟩
        · rw [h]; rfl)
      have CB7 := Lib.hid (fun W => CB.out W)
      clear CA CB HPZ
      generalize sgE Z = ez at *
      generalize sgO Z = Y at *
      obtain ⟨⟨wz, lz⟩, sz, pz⟩ := Y
      dsimp only at CB7 HQ HZN
      dsimp only
      obtain ⟨v7, hv7, th7, gs7, z7⟩ := put_ksig w7 (sgC wz lz sz (.slice A8 pz.length c8)) rfl
      have HV7 := Lib.hid hv7
      have TH7 := Lib.hid th7
      have SI7 : Hid ((Tryz.prog.info? 39).map (·.size) = some (sgC wz lz sz (.slice A8 pz.length c8)).size) := Lib.hid sg_info
      have ON7 := Lib.hid (sgC_one wz lz sz A8 pz.length c8)
      clear hv7 th7
      go_wp2_with (with_reducible refine wpList_store_mid rfl 39 (.tmp 18) (.tmp 69) rfl w7.heap.size 0 (sgC wz lz sz (.slice A8 pz.length c8)) rfl rfl TH7.out SI7.out ON7.out ?_; rw [HV7.out])
      clear HV7 TH7 SI7 ON7
      refine (CB7.out v7).mono ?_
      rintro e w8 ⟨⟨A9, c9, rfl, r9⟩, g8⟩
      clear CB7
      obtain ⟨v8, hv8, th8, gs8, z8⟩ := put_rsig w8 (sgC wz lz sz (.slice A9 pz.length c9)) rfl
      have HV8 := Lib.hid hv8
      have TH8 := Lib.hid th8
      have SI8 : Hid ((Tryz.prog.info? 45).map (·.size) = some (sgC wz lz sz (.slice A9 pz.length c9)).size) := Lib.hid rg_info
      have ON8 := Lib.hid (sgC_one wz lz sz A9 pz.length c9)
      clear hv8 th8
      have g78 := grew_trans (grew_trans g7 gs7) (grew_trans g8 gs8)
      have G8 := grew_trans G6 g78
      have F4 := Lib.hid (q4.gr g78)
      have F2 := Lib.hid (q2.grew g78)
      have F3 := Lib.hid (z3.grew g78)
      have F5 := Lib.hid (r5.gr g78)
      have F6 := Lib.hid (r6.gr g78)
      have FG := Lib.hid (z4.grew g78)
      have F8 := Lib.hid (r8.gr (grew_trans gs7 (grew_trans g8 gs8)))
      have F7 := Lib.hid (z7.grew (grew_trans g8 gs8))
      have F9 := Lib.hid (r9.gr gs8)
      have FU := Lib.hid z8
      clear q4 q2 z3 r5 r6 z4 r8 z7 r9 z8 g78 G6 g7 gs7 g8 gs8
      go_upto_region 14 with (with_reducible refine wpList_store_mid rfl 45 (.tmp 20) (.tmp 74) rfl w8.heap.size 0 (sgC wz lz sz (.slice A9 pz.length c9)) rfl rfl TH8.out SI8.out ON8.out ?_; rw [HV8.out])
      clear HV8 TH8 SI8 ON8
      have CO1 := Lib.hid (fun W hR => kof_ok wx lx sx A5 c5 px (by have := HIN.out.2.2.2.2; omega) W hR)
      have CO7 := Lib.hid (fun W hR => kof_ok wz lz sz A8 c8 pz (by have := HZN.out; omega) W hR)
      have CS1 := Lib.hid (fun A3 c3 W h1 h2 => rsame_ok wx lx sx A3 A6 c3 c6 px (by have := HIN.out.2.2.2.2; omega) W h1 h2)
      have CS7 := Lib.hid (fun A3 c3 W h1 h2 => rsame_ok wz lz sz A3 A9 c3 c9 pz (by have := HZN.out; omega) W h1 h2)
      have CT3 := Lib.hid (fun W hR => CS.out A4 c4 W hR)
      have CX1 := Lib.hid (fun W hW hR => ktext_ok wx lx sx A5 c5 px HIN.out.1 HIN.out.2.1 (by have := HIN.out.2.2.2.2; omega) HIN.out.2.2.1 HIN.out.2.2.2.1 W hW hR)
      have HM1 := Lib.hid (fun y (g : Grew v8 y) => (F2.out.grew g).cell)
      have HM2 := Lib.hid (fun y (g : Grew v8 y) => (F3.out.grew g).cell)
      have HM3 := Lib.hid (fun y (g : Grew v8 y) => (FG.out.grew g).cell)
      have HM7 := Lib.hid (fun y (g : Grew v8 y) => (F7.out.grew g).cell)
      have HM8 := Lib.hid (fun y (g : Grew v8 y) => (FU.out.grew g).cell)
      have R4 := Lib.hid (fun y (g : Grew v8 y) => F4.out.gr g)
      have R5 := Lib.hid (fun y (g : Grew v8 y) => F5.out.gr g)
      have R6 := Lib.hid (fun y (g : Grew v8 y) => F6.out.gr g)
      have R8 := Lib.hid (fun y (g : Grew v8 y) => F8.out.gr g)
      have R9 := Lib.hid (fun y (g : Grew v8 y) => F9.out.gr g)
      have SL1 : Hid ((Tryz.prog.info? 39).map (·.size) = some (sgC wx lx sx (.slice A5 px.length c5)).toList.length) := Lib.hid sg_info
      have SL2 : Hid ((Tryz.prog.info? 45).map (·.size) = some (sgC wx lx sx (.slice A6 px.length c6)).toList.length) := Lib.hid rg_info
      have SL3 : Hid ((Tryz.prog.info? 45).map (·.size) = some (sgC who leaf sg (.slice A4 path.length c4)).toList.length) := Lib.hid rg_info
      have SL7 : Hid ((Tryz.prog.info? 39).map (·.size) = some (sgC wz lz sz (.slice A8 pz.length c8)).toList.length) := Lib.hid sg_info
      have SL8 : Hid ((Tryz.prog.info? 45).map (·.size) = some (sgC wz lz sz (.slice A9 pz.length c9)).toList.length) := Lib.hid rg_info
      generalize sgC wx lx sx (.slice A5 px.length c5) = g1 at *
      generalize sgC wx lx sx (.slice A6 px.length c6) = g2 at *
      obtain ⟨g3, hg3⟩ : ∃ g3, sgC who leaf sg (.slice A4 path.length c4) = g3 := ⟨_, rfl⟩
      rw [hg3] at HM3 SL3 CT3
      have HG3 := Lib.hid hg3
      clear hg3
      generalize sgC wz lz sz (.slice A9 pz.length c9) = g8 at *
      obtain ⟨g7, hg7⟩ : ∃ g7, sgC wz lz sz (.slice A8 pz.length c8) = g7 := ⟨_, rfl⟩
      rw [hg7] at CO7 HM7 SL7
      have HG7 := Lib.hid hg7
      clear hg7
      have hez : (ez != ez) = false := by simp
      obtain hx := HX.out
      subst hx
      clear HX
      refine wp_region_rel 37 (fun i => match i with
          | 0 => fun v _ => v = .int .i64 2
          | 1 => fun v _ => v = .int .i64 2
          | 2 => fun v _ => v = .bool false
          | 3 => fun v _ => v = .bool false
          | 4 => fun v _ => v = .agg g1
          | 5 => fun v w => AgS w 0 wx lx sx px v
          | 6 => fun v _ => v = .agg g2
          | 7 => fun v _ => v = .bool true
          | 8 => fun v _ => v = .bool false
          | 9 => fun v _ => v = .bool false
          | 10 => fun v _ => v = .bool false
          | 11 => fun v _ => v = .int .i64 2
          | 12 => fun v _ => v = .bool false
          | 13 => fun v _ => v = .bool false
          | 14 => fun v _ => v = undef
          | 15 => fun v _ => v = undef
          | 16 => fun v _ => v = undef
          | 17 => fun v _ => v = undef
          | 18 => fun v _ => v = .bool false
          | 19 => fun v _ => v = .bool false
          | 20 => fun v _ => v = .bool false
          | 21 => fun v _ => v = .string tt
          | 22 => fun v _ => v = .agg g3
          | 23 => fun v _ => v = .string tt
          | 24 => fun v _ => v = .bool false
          | 25 => fun v _ => v = .bool false
          | 26 => fun v _ => v = .bool false
          | 27 => fun v _ => v = .int .i64 ez
          | 28 => fun v _ => v = .int .i64 ez
          | 29 => fun v _ => v = .bool false
          | 30 => fun v _ => v = .bool false
          | 31 => fun v _ => v = .bool false
          | 32 => fun v _ => v = .agg g7
          | 33 => fun v w => AgS w 0 wz lz sz pz v
          | 34 => fun v _ => v = .agg g8
          | 35 => fun v _ => v = .bool true
          | 36 => fun v _ => v = .bool false
          | _ => fun _ _ => True) (by kernel_rfl) (by kernel_rfl) ?_ ?_ ?_
      · intro i v x y h hg
        match i, h with
        | 0, h | 1, h | 2, h | 3, h | 4, h | 6, h | 7, h | 8, h | 9, h | 10, h | 11, h | 12, h | 13, h | 14, h | 15, h | 16, h | 17, h | 18, h | 19, h | 20, h | 21, h | 22, h | 23, h | 24, h | 25, h | 26, h | 27, h | 28, h | 29, h | 30, h | 31, h | 32, h | 34, h | 35, h | 36, h => exact h
        | 5, h => exact AgS.gr h hg
        | 33, h => exact AgS.gr h hg
        | m + 37, _ => trivial
      · refine ⟨?_, ?_, ?_, ?_, ?_, ?_, ?_, ?_, ?_, ?_, ?_, ?_, ?_, ?_, ?_, ?_, ?_, ?_, ?_, ?_, ?_, ?_, ?_, ?_, ?_, ?_, ?_, ?_, ?_, ?_, ?_, ?_, ?_, ?_, ?_, ?_, ?_, trivial⟩
        · intro vs y hg hd
          simp only [actOf, List.take_succ_cons, List.take_zero, List.drop_succ_cons, List.drop_zero, Act.put, List.setIfInBounds_toArray, List.set_cons_succ, List.set_cons_zero, Nat.reduceAdd]
          go_wp2_with fail
          exact ⟨rfl, _, rfl, grew_refl _, rfl⟩
        · intro vs y hg hd
          simp only [actOf, List.take_succ_cons, List.take_zero, List.drop_succ_cons, List.drop_zero, Act.put, List.setIfInBounds_toArray, List.set_cons_succ, List.set_cons_zero, Nat.reduceAdd]
          go_wp2_with fail
          exact ⟨rfl, _, rfl, grew_refl _, rfl⟩
        · intro vs y hg hd
          obtain ⟨h0, h1, _⟩ := hd
          replace h0 := h0 rfl
          replace h1 := h1 rfl
          simp only [actOf, List.take_succ_cons, List.take_zero, List.drop_succ_cons, List.drop_zero, Act.put, List.setIfInBounds_toArray, List.set_cons_succ, List.set_cons_zero, Nat.reduceAdd]
          rw [show vs 0 = _ from h0, show vs 1 = _ from h1]
          go_wp2_with fail
          exact ⟨rfl, _, rfl, grew_refl _, rfl⟩
        · intro vs y hg hd
          obtain ⟨h2, _⟩ := hd
          replace h2 := h2 rfl
          simp only [actOf, List.take_succ_cons, List.take_zero, List.drop_succ_cons, List.drop_zero, Act.put, List.setIfInBounds_toArray, List.set_cons_succ, List.set_cons_zero, Nat.reduceAdd]
          rw [show vs 2 = _ from h2]
          go_wp2_with fail
          exact ⟨rfl, _, rfl, grew_refl _, rfl⟩
        · intro vs y hg hd
          have hx : (Region.binds .any { on := 3, ground := .guard } = true → vs 3 = .bool false) ∧ True := hd
          have h3 : vs 3 = .bool false := hx.1 rfl
          clear hx
          simp only [actOf, List.take_succ_cons, List.take_zero, List.drop_succ_cons, List.drop_zero, Act.put, List.setIfInBounds_toArray, List.set_cons_succ, List.set_cons_zero, Nat.reduceAdd]
          rw [show vs 3 = _ from h3]
          have hm := HM1.out y hg
          go_wp2_with (refine wpList_load_mid_want (by rfl) 39 (.tmp 11) rfl w2.heap.size 0 rfl g1.toList _ hm huk rfl SL1.out ?_; simp only [Array.toArray_toList])
          exact ⟨rfl, _, rfl, grew_refl _, rfl⟩
        · intro vs y hg hd
          have hx : (Region.binds .any { on := 4, ground := .data } = true → vs 4 = .agg g1) ∧ (Region.binds .any { on := 3, ground := .chain } = true → vs 3 = .bool false) ∧ (Region.binds .any { on := 3, ground := .guard } = true → vs 3 = .bool false) ∧ True := hd
          have h4 : vs 4 = .agg g1 := hx.1 rfl
          have h3 : vs 3 = .bool false := hx.2.2.1 rfl
          clear hx
          simp only [actOf, List.take_succ_cons, List.take_zero, List.drop_succ_cons, List.drop_zero, Act.put, List.setIfInBounds_toArray, List.set_cons_succ, List.set_cons_zero, Nat.reduceAdd]
          rw [show vs 4 = _ from h4, show vs 3 = _ from h3]
          go_wp2_with (go_at_call 15; refine (CO1.out y (R5.out y hg)).mono ?_; rintro e z ⟨A3, c3, rfl, hr9, gz⟩)
          exact ⟨rfl, _, rfl, gz, ⟨A3, c3, rfl, hr9, fun ad h => Nat.zero_le _⟩⟩
        · intro vs y hg hd
          have hx : (Region.binds .any { on := 3, ground := .guard } = true → vs 3 = .bool false) ∧ True := hd
          have h3 : vs 3 = .bool false := hx.1 rfl
          clear hx
          simp only [actOf, List.take_succ_cons, List.take_zero, List.drop_succ_cons, List.drop_zero, Act.put, List.setIfInBounds_toArray, List.set_cons_succ, List.set_cons_zero, Nat.reduceAdd]
          rw [show vs 3 = _ from h3]
          have hm := HM2.out y hg
          go_wp2_with (refine wpList_load_mid_want (by rfl) 45 (.tmp 13) rfl w3.heap.size 0 rfl g2.toList _ hm hur rfl SL2.out ?_; simp only [Array.toArray_toList])
          exact ⟨rfl, _, rfl, grew_refl _, rfl⟩
        · intro vs y hg hd
          have hx : (Region.binds .any { on := 5, ground := .data } = true → (fun v w => AgS w 0 wx lx sx px v) (vs 5) y) ∧ (Region.binds .any { on := 6, ground := .data } = true → vs 6 = .agg g2) ∧ (Region.binds .any { on := 5, ground := .chain } = true → (fun v w => AgS w 0 wx lx sx px v) (vs 5) y) ∧ (Region.binds .any { on := 3, ground := .guard } = true → vs 3 = .bool false) ∧ True := hd
          have h5 : (fun v w => AgS w 0 wx lx sx px v) (vs 5) y := hx.1 rfl
          have h6 : vs 6 = .agg g2 := hx.2.1 rfl
          have h3 : vs 3 = .bool false := hx.2.2.2.1 rfl
          clear hx
          simp only [actOf, List.take_succ_cons, List.take_zero, List.drop_succ_cons, List.drop_zero, Act.put, List.setIfInBounds_toArray, List.set_cons_succ, List.set_cons_zero, Nat.reduceAdd]
          rw [show vs 6 = _ from h6, show vs 3 = _ from h3]
          obtain ⟨A3, c3, hv, hr9, hb9⟩ := AgS.out h5
          rw [hv]
          have hr2 := R6.out y hg
          go_wp2_with (go_at_call 14; refine (CS1.out A3 c3 y hr9 hr2).mono ?_; rintro e z ⟨rfl, gz⟩)
          exact ⟨rfl, _, rfl, gz, rfl⟩
        · intro vs y hg hd
          have hx : (Region.binds .any { on := 7, ground := .data } = true → vs 7 = .bool true) ∧ (Region.binds .any { on := 3, ground := .guard } = true → vs 3 = .bool false) ∧ True := hd
          have h7 : vs 7 = .bool true := hx.1 rfl
          have h3 : vs 3 = .bool false := hx.2.1 rfl
          clear hx
          simp only [actOf, List.take_succ_cons, List.take_zero, List.drop_succ_cons, List.drop_zero, Act.put, List.setIfInBounds_toArray, List.set_cons_succ, List.set_cons_zero, Nat.reduceAdd]
          rw [show vs 7 = _ from h7, show vs 3 = _ from h3]
          go_wp2_with fail
          exact ⟨rfl, _, rfl, grew_refl _, rfl⟩
        · intro vs y hg hd
          obtain ⟨h3, h8, _⟩ := hd
          replace h3 := h3 rfl
          replace h8 := h8 rfl
          simp only [actOf, List.take_succ_cons, List.take_zero, List.drop_succ_cons, List.drop_zero, Act.put, List.setIfInBounds_toArray, List.set_cons_succ, List.set_cons_zero, Nat.reduceAdd]
          rw [show vs 3 = _ from h3, show vs 8 = _ from h8]
          go_wp2_with fail
          exact ⟨rfl, _, rfl, grew_refl _, rfl⟩
        · intro vs y hg hd
          obtain ⟨h9, _⟩ := hd
          replace h9 := h9 rfl
          simp only [actOf, List.take_succ_cons, List.take_zero, List.drop_succ_cons, List.drop_zero, Act.put, List.setIfInBounds_toArray, List.set_cons_succ, List.set_cons_zero, Nat.reduceAdd]
          rw [show vs 9 = _ from h9]
          go_wp2_with fail
          exact ⟨rfl, _, rfl, grew_refl _, rfl⟩
        · intro vs y hg hd
          have hx : (Region.binds .any { on := 10, ground := .guard } = true → vs 10 = .bool false) ∧ True := hd
          have h10 : vs 10 = .bool false := hx.1 rfl
          clear hx
          simp only [actOf, List.take_succ_cons, List.take_zero, List.drop_succ_cons, List.drop_zero, Act.put, List.setIfInBounds_toArray, List.set_cons_succ, List.set_cons_zero, Nat.reduceAdd]
          rw [show vs 10 = _ from h10]
          go_wp2_with fail
          exact ⟨rfl, _, rfl, grew_refl _, rfl⟩
        · intro vs y hg hd
          have hx : (Region.binds .any { on := 11, ground := .data } = true → vs 11 = .int .i64 2) ∧ (Region.binds .any { on := 10, ground := .guard } = true → vs 10 = .bool false) ∧ True := hd
          have h11 : vs 11 = .int .i64 2 := hx.1 rfl
          have h10 : vs 10 = .bool false := hx.2.1 rfl
          clear hx
          simp only [actOf, List.take_succ_cons, List.take_zero, List.drop_succ_cons, List.drop_zero, Act.put, List.setIfInBounds_toArray, List.set_cons_succ, List.set_cons_zero, Nat.reduceAdd]
          rw [show vs 11 = _ from h11, show vs 10 = _ from h10]
          go_wp2_with fail
          exact ⟨rfl, _, rfl, grew_refl _, rfl⟩
        · intro vs y hg hd
          have hx : (Region.binds .any { on := 12, ground := .data } = true → vs 12 = .bool false) ∧ (Region.binds .any { on := 10, ground := .chain } = true → vs 10 = .bool false) ∧ (Region.binds .any { on := 10, ground := .guard } = true → vs 10 = .bool false) ∧ True := hd
          have h12 : vs 12 = .bool false := hx.1 rfl
          have h10 : vs 10 = .bool false := hx.2.2.1 rfl
          clear hx
          simp only [actOf, List.take_succ_cons, List.take_zero, List.drop_succ_cons, List.drop_zero, Act.put, List.setIfInBounds_toArray, List.set_cons_succ, List.set_cons_zero, Nat.reduceAdd]
          rw [show vs 12 = _ from h12, show vs 10 = _ from h10]
          go_wp2_with fail
          exact ⟨rfl, _, rfl, grew_refl _, rfl⟩
        · intro vs y hg hd
          have hx : (Region.binds .any { on := 13, ground := .guard } = true → vs 13 = .bool false) ∧ True := hd
          have h13 : vs 13 = .bool false := hx.1 rfl
          clear hx
          simp only [actOf, List.take_succ_cons, List.take_zero, List.drop_succ_cons, List.drop_zero, Act.put, List.setIfInBounds_toArray, List.set_cons_succ, List.set_cons_zero, Nat.reduceAdd]
          rw [show vs 13 = _ from h13]
          go_wp2_with fail
          exact ⟨rfl, _, rfl, grew_refl _, rfl⟩
        · intro vs y hg hd
          have hx : (Region.binds .any { on := 14, ground := .data } = true → vs 14 = undef) ∧ (Region.binds .any { on := 13, ground := .chain } = true → vs 13 = .bool false) ∧ (Region.binds .any { on := 13, ground := .guard } = true → vs 13 = .bool false) ∧ True := hd
          have h14 : vs 14 = undef := hx.1 rfl
          have h13 : vs 13 = .bool false := hx.2.2.1 rfl
          clear hx
          simp only [actOf, List.take_succ_cons, List.take_zero, List.drop_succ_cons, List.drop_zero, Act.put, List.setIfInBounds_toArray, List.set_cons_succ, List.set_cons_zero, Nat.reduceAdd]
          rw [show vs 14 = _ from h14, show vs 13 = _ from h13]
          go_wp2_with fail
          exact ⟨rfl, _, rfl, grew_refl _, rfl⟩
        · intro vs y hg hd
          have hx : (Region.binds .any { on := 13, ground := .guard } = true → vs 13 = .bool false) ∧ True := hd
          have h13 : vs 13 = .bool false := hx.1 rfl
          clear hx
          simp only [actOf, List.take_succ_cons, List.take_zero, List.drop_succ_cons, List.drop_zero, Act.put, List.setIfInBounds_toArray, List.set_cons_succ, List.set_cons_zero, Nat.reduceAdd]
          rw [show vs 13 = _ from h13]
          go_wp2_with fail
          exact ⟨rfl, _, rfl, grew_refl _, rfl⟩
        · intro vs y hg hd
          have hx : (Region.binds .any { on := 15, ground := .data } = true → vs 15 = undef) ∧ (Region.binds .any { on := 16, ground := .data } = true → vs 16 = undef) ∧ (Region.binds .any { on := 13, ground := .guard } = true → vs 13 = .bool false) ∧ True := hd
          have h15 : vs 15 = undef := hx.1 rfl
          have h16 : vs 16 = undef := hx.2.1 rfl
          have h13 : vs 13 = .bool false := hx.2.2.1 rfl
          clear hx
          simp only [actOf, List.take_succ_cons, List.take_zero, List.drop_succ_cons, List.drop_zero, Act.put, List.setIfInBounds_toArray, List.set_cons_succ, List.set_cons_zero, Nat.reduceAdd]
          rw [show vs 15 = _ from h15, show vs 16 = _ from h16, show vs 13 = _ from h13]
          go_wp2_with fail
          exact ⟨rfl, _, rfl, grew_refl _, rfl⟩
        · intro vs y hg hd
          have hx : (Region.binds .any { on := 13, ground := .data } = true → vs 13 = .bool false) ∧ (Region.binds .any { on := 17, ground := .data } = true → vs 17 = undef) ∧ (Region.binds .any { on := 10, ground := .guard } = true → vs 10 = .bool false) ∧ True := hd
          have h13 : vs 13 = .bool false := hx.1 rfl
          have h17 : vs 17 = undef := hx.2.1 rfl
          have h10 : vs 10 = .bool false := hx.2.2.1 rfl
          clear hx
          simp only [actOf, List.take_succ_cons, List.take_zero, List.drop_succ_cons, List.drop_zero, Act.put, List.setIfInBounds_toArray, List.set_cons_succ, List.set_cons_zero, Nat.reduceAdd]
          rw [show vs 13 = _ from h13, show vs 17 = _ from h17, show vs 10 = _ from h10]
          go_wp2_with fail
          exact ⟨rfl, _, rfl, grew_refl _, rfl⟩
        · intro vs y hg hd
          obtain ⟨h10, h18, _⟩ := hd
          replace h10 := h10 rfl
          replace h18 := h18 rfl
          simp only [actOf, List.take_succ_cons, List.take_zero, List.drop_succ_cons, List.drop_zero, Act.put, List.setIfInBounds_toArray, List.set_cons_succ, List.set_cons_zero, Nat.reduceAdd]
          rw [show vs 10 = _ from h10, show vs 18 = _ from h18]
          go_wp2_with fail
          exact ⟨rfl, _, rfl, grew_refl _, rfl⟩
        · intro vs y hg hd
          obtain ⟨h19, _⟩ := hd
          replace h19 := h19 rfl
          simp only [actOf, List.take_succ_cons, List.take_zero, List.drop_succ_cons, List.drop_zero, Act.put, List.setIfInBounds_toArray, List.set_cons_succ, List.set_cons_zero, Nat.reduceAdd]
          rw [show vs 19 = _ from h19]
          go_wp2_with fail
          exact ⟨rfl, _, rfl, grew_refl _, rfl⟩
        · intro vs y hg hd
          have hx : (Region.binds .any { on := 20, ground := .guard } = true → vs 20 = .bool false) ∧ True := hd
          have h20 : vs 20 = .bool false := hx.1 rfl
          clear hx
          simp only [actOf, List.take_succ_cons, List.take_zero, List.drop_succ_cons, List.drop_zero, Act.put, List.setIfInBounds_toArray, List.set_cons_succ, List.set_cons_zero, Nat.reduceAdd]
          rw [show vs 20 = _ from h20]
          go_wp2_with fail
          exact ⟨rfl, _, rfl, grew_refl _, rfl⟩
        · intro vs y hg hd
          have hx : (Region.binds .any { on := 20, ground := .guard } = true → vs 20 = .bool false) ∧ True := hd
          have h20 : vs 20 = .bool false := hx.1 rfl
          clear hx
          simp only [actOf, List.take_succ_cons, List.take_zero, List.drop_succ_cons, List.drop_zero, Act.put, List.setIfInBounds_toArray, List.set_cons_succ, List.set_cons_zero, Nat.reduceAdd]
          rw [show vs 20 = _ from h20]
          have hm := HM3.out y hg
          go_wp2_with (refine wpList_load_mid_want (by rfl) 45 (.tmp 15) rfl v3.heap.size 0 rfl g3.toList _ hm hur rfl SL3.out ?_; simp only [Array.toArray_toList])
          exact ⟨rfl, _, rfl, grew_refl _, rfl⟩
        · intro vs y hg hd
          have hx : (Region.binds .any { on := 22, ground := .data } = true → vs 22 = .agg g3) ∧ (Region.binds .any { on := 20, ground := .chain } = true → vs 20 = .bool false) ∧ (Region.binds .any { on := 20, ground := .guard } = true → vs 20 = .bool false) ∧ True := hd
          have h22 : vs 22 = .agg g3 := hx.1 rfl
          have h20 : vs 20 = .bool false := hx.2.2.1 rfl
          clear hx
          simp only [actOf, List.take_succ_cons, List.take_zero, List.drop_succ_cons, List.drop_zero, Act.put, List.setIfInBounds_toArray, List.set_cons_succ, List.set_cons_zero, Nat.reduceAdd]
          rw [show vs 22 = _ from h22, show vs 20 = _ from h20]
          go_wp2_with (go_at_call 31; refine (CT3.out y (R4.out y hg)).mono ?_; rintro e z ⟨rfl, gz⟩)
          exact ⟨rfl, _, rfl, gz, rfl⟩
        · intro vs y hg hd
          have hx : (Region.binds .any { on := 21, ground := .data } = true → vs 21 = .string tt) ∧ (Region.binds .any { on := 23, ground := .data } = true → vs 23 = .string tt) ∧ (Region.binds .any { on := 20, ground := .guard } = true → vs 20 = .bool false) ∧ True := hd
          have h21 : vs 21 = .string tt := hx.1 rfl
          have h23 : vs 23 = .string tt := hx.2.1 rfl
          have h20 : vs 20 = .bool false := hx.2.2.1 rfl
          clear hx
          simp only [actOf, List.take_succ_cons, List.take_zero, List.drop_succ_cons, List.drop_zero, Act.put, List.setIfInBounds_toArray, List.set_cons_succ, List.set_cons_zero, Nat.reduceAdd]
          rw [show vs 21 = _ from h21, show vs 23 = _ from h23, show vs 20 = _ from h20]
          go_wp2_with fail
          exact ⟨rfl, _, rfl, grew_refl _, rfl⟩
        · intro vs y hg hd
          obtain ⟨h20, h24, _⟩ := hd
          replace h20 := h20 rfl
          replace h24 := h24 rfl
          simp only [actOf, List.take_succ_cons, List.take_zero, List.drop_succ_cons, List.drop_zero, Act.put, List.setIfInBounds_toArray, List.set_cons_succ, List.set_cons_zero, Nat.reduceAdd]
          rw [show vs 20 = _ from h20, show vs 24 = _ from h24]
          go_wp2_with fail
          exact ⟨rfl, _, rfl, grew_refl _, rfl⟩
        · intro vs y hg hd
          obtain ⟨h25, _⟩ := hd
          replace h25 := h25 rfl
          simp only [actOf, List.take_succ_cons, List.take_zero, List.drop_succ_cons, List.drop_zero, Act.put, List.setIfInBounds_toArray, List.set_cons_succ, List.set_cons_zero, Nat.reduceAdd]
          rw [show vs 25 = _ from h25]
          go_wp2_with fail
          exact ⟨rfl, _, rfl, grew_refl _, rfl⟩
        · intro vs y hg hd
          have hx : (Region.binds .any { on := 26, ground := .guard } = true → vs 26 = .bool false) ∧ True := hd
          have h26 : vs 26 = .bool false := hx.1 rfl
          clear hx
          simp only [actOf, List.take_succ_cons, List.take_zero, List.drop_succ_cons, List.drop_zero, Act.put, List.setIfInBounds_toArray, List.set_cons_succ, List.set_cons_zero, Nat.reduceAdd]
          rw [show vs 26 = _ from h26]
          go_wp2_with fail
          exact ⟨rfl, _, rfl, grew_refl _, rfl⟩
        · intro vs y hg hd
          have hx : (Region.binds .any { on := 26, ground := .guard } = true → vs 26 = .bool false) ∧ True := hd
          have h26 : vs 26 = .bool false := hx.1 rfl
          clear hx
          simp only [actOf, List.take_succ_cons, List.take_zero, List.drop_succ_cons, List.drop_zero, Act.put, List.setIfInBounds_toArray, List.set_cons_succ, List.set_cons_zero, Nat.reduceAdd]
          rw [show vs 26 = _ from h26]
          go_wp2_with fail
          exact ⟨rfl, _, rfl, grew_refl _, rfl⟩
        · intro vs y hg hd
          have hx : (Region.binds .any { on := 27, ground := .data } = true → vs 27 = .int .i64 ez) ∧ (Region.binds .any { on := 28, ground := .data } = true → vs 28 = .int .i64 ez) ∧ (Region.binds .any { on := 26, ground := .guard } = true → vs 26 = .bool false) ∧ True := hd
          have h27 : vs 27 = .int .i64 ez := hx.1 rfl
          have h28 : vs 28 = .int .i64 ez := hx.2.1 rfl
          have h26 : vs 26 = .bool false := hx.2.2.1 rfl
          clear hx
          simp only [actOf, List.take_succ_cons, List.take_zero, List.drop_succ_cons, List.drop_zero, Act.put, List.setIfInBounds_toArray, List.set_cons_succ, List.set_cons_zero, Nat.reduceAdd]
          rw [show vs 27 = _ from h27, show vs 28 = _ from h28, show vs 26 = _ from h26]
          go_wp2_with fail
          exact ⟨rfl, _, rfl, grew_refl _, rfl⟩
        · intro vs y hg hd
          obtain ⟨h26, h29, _⟩ := hd
          replace h26 := h26 rfl
          replace h29 := h29 rfl
          simp only [actOf, List.take_succ_cons, List.take_zero, List.drop_succ_cons, List.drop_zero, Act.put, List.setIfInBounds_toArray, List.set_cons_succ, List.set_cons_zero, Nat.reduceAdd]
          rw [show vs 26 = _ from h26, show vs 29 = _ from h29]
          go_wp2_with fail
          exact ⟨rfl, _, rfl, grew_refl _, rfl⟩
        · intro vs y hg hd
          obtain ⟨h30, _⟩ := hd
          replace h30 := h30 rfl
          simp only [actOf, List.take_succ_cons, List.take_zero, List.drop_succ_cons, List.drop_zero, Act.put, List.setIfInBounds_toArray, List.set_cons_succ, List.set_cons_zero, Nat.reduceAdd]
          rw [show vs 30 = _ from h30]
          go_wp2_with fail
          exact ⟨rfl, _, rfl, grew_refl _, rfl⟩
        · intro vs y hg hd
          have hx : (Region.binds .any { on := 31, ground := .guard } = true → vs 31 = .bool false) ∧ True := hd
          have h31 : vs 31 = .bool false := hx.1 rfl
          clear hx
          simp only [actOf, List.take_succ_cons, List.take_zero, List.drop_succ_cons, List.drop_zero, Act.put, List.setIfInBounds_toArray, List.set_cons_succ, List.set_cons_zero, Nat.reduceAdd]
          rw [show vs 31 = _ from h31]
          have hm := HM7.out y hg
          go_wp2_with (refine wpList_load_mid_want (by rfl) 39 (.tmp 18) rfl w7.heap.size 0 rfl g7.toList _ hm huk rfl SL7.out ?_; simp only [Array.toArray_toList])
          exact ⟨rfl, _, rfl, grew_refl _, rfl⟩
        · intro vs y hg hd
          have hx : (Region.binds .any { on := 32, ground := .data } = true → vs 32 = .agg g7) ∧ (Region.binds .any { on := 31, ground := .chain } = true → vs 31 = .bool false) ∧ (Region.binds .any { on := 31, ground := .guard } = true → vs 31 = .bool false) ∧ True := hd
          have h32 : vs 32 = .agg g7 := hx.1 rfl
          have h31 : vs 31 = .bool false := hx.2.2.1 rfl
          clear hx
          simp only [actOf, List.take_succ_cons, List.take_zero, List.drop_succ_cons, List.drop_zero, Act.put, List.setIfInBounds_toArray, List.set_cons_succ, List.set_cons_zero, Nat.reduceAdd]
          rw [show vs 32 = _ from h32, show vs 31 = _ from h31]
          go_wp2_with (go_at_call 15; refine (CO7.out y (R8.out y hg)).mono ?_; rintro e z ⟨A3, c3, rfl, hr9, gz⟩)
          exact ⟨rfl, _, rfl, gz, ⟨A3, c3, rfl, hr9, fun ad h => Nat.zero_le _⟩⟩
        · intro vs y hg hd
          have hx : (Region.binds .any { on := 31, ground := .guard } = true → vs 31 = .bool false) ∧ True := hd
          have h31 : vs 31 = .bool false := hx.1 rfl
          clear hx
          simp only [actOf, List.take_succ_cons, List.take_zero, List.drop_succ_cons, List.drop_zero, Act.put, List.setIfInBounds_toArray, List.set_cons_succ, List.set_cons_zero, Nat.reduceAdd]
          rw [show vs 31 = _ from h31]
          have hm := HM8.out y hg
          go_wp2_with (refine wpList_load_mid_want (by rfl) 45 (.tmp 20) rfl w8.heap.size 0 rfl g8.toList _ hm hur rfl SL8.out ?_; simp only [Array.toArray_toList])
          exact ⟨rfl, _, rfl, grew_refl _, rfl⟩
        · intro vs y hg hd
          have hx : (Region.binds .any { on := 33, ground := .data } = true → (fun v w => AgS w 0 wz lz sz pz v) (vs 33) y) ∧ (Region.binds .any { on := 34, ground := .data } = true → vs 34 = .agg g8) ∧ (Region.binds .any { on := 33, ground := .chain } = true → (fun v w => AgS w 0 wz lz sz pz v) (vs 33) y) ∧ (Region.binds .any { on := 31, ground := .guard } = true → vs 31 = .bool false) ∧ True := hd
          have h33 : (fun v w => AgS w 0 wz lz sz pz v) (vs 33) y := hx.1 rfl
          have h34 : vs 34 = .agg g8 := hx.2.1 rfl
          have h31 : vs 31 = .bool false := hx.2.2.2.1 rfl
          clear hx
          simp only [actOf, List.take_succ_cons, List.take_zero, List.drop_succ_cons, List.drop_zero, Act.put, List.setIfInBounds_toArray, List.set_cons_succ, List.set_cons_zero, Nat.reduceAdd]
          rw [show vs 34 = _ from h34, show vs 31 = _ from h31]
          obtain ⟨A3, c3, hv, hr9, hb9⟩ := AgS.out h33
          rw [hv]
          have hr2 := R9.out y hg
          go_wp2_with (go_at_call 14; refine (CS7.out A3 c3 y hr9 hr2).mono ?_; rintro e z ⟨rfl, gz⟩)
          exact ⟨rfl, _, rfl, gz, rfl⟩
        · intro vs y hg hd
          have hx : (Region.binds .any { on := 35, ground := .data } = true → vs 35 = .bool true) ∧ (Region.binds .any { on := 31, ground := .guard } = true → vs 31 = .bool false) ∧ True := hd
          have h35 : vs 35 = .bool true := hx.1 rfl
          have h31 : vs 31 = .bool false := hx.2.1 rfl
          clear hx
          simp only [actOf, List.take_succ_cons, List.take_zero, List.drop_succ_cons, List.drop_zero, Act.put, List.setIfInBounds_toArray, List.set_cons_succ, List.set_cons_zero, Nat.reduceAdd]
          rw [show vs 35 = _ from h35, show vs 31 = _ from h31]
          go_wp2_with fail
          exact ⟨rfl, _, rfl, grew_refl _, rfl⟩
      · intro vs y1 hg1 hJ
        have j0 : vs 0 = .int .i64 2 := hJ 0 (by decide)
        have j1 : vs 1 = .int .i64 2 := hJ 1 (by decide)
        have j2 : vs 2 = .bool false := hJ 2 (by decide)
        have j3 : vs 3 = .bool false := hJ 3 (by decide)
        have j4 : vs 4 = .agg g1 := hJ 4 (by decide)
        have j6 : vs 6 = .agg g2 := hJ 6 (by decide)
        have j7 : vs 7 = .bool true := hJ 7 (by decide)
        have j8 : vs 8 = .bool false := hJ 8 (by decide)
        have j9 : vs 9 = .bool false := hJ 9 (by decide)
        have j10 : vs 10 = .bool false := hJ 10 (by decide)
        have j11 : vs 11 = .int .i64 2 := hJ 11 (by decide)
        have j12 : vs 12 = .bool false := hJ 12 (by decide)
        have j13 : vs 13 = .bool false := hJ 13 (by decide)
        have j14 : vs 14 = undef := hJ 14 (by decide)
        have j15 : vs 15 = undef := hJ 15 (by decide)
        have j16 : vs 16 = undef := hJ 16 (by decide)
        have j17 : vs 17 = undef := hJ 17 (by decide)
        have j18 : vs 18 = .bool false := hJ 18 (by decide)
        have j19 : vs 19 = .bool false := hJ 19 (by decide)
        have j20 : vs 20 = .bool false := hJ 20 (by decide)
        have j21 : vs 21 = .string tt := hJ 21 (by decide)
        have j22 : vs 22 = .agg g3 := hJ 22 (by decide)
        have j23 : vs 23 = .string tt := hJ 23 (by decide)
        have j24 : vs 24 = .bool false := hJ 24 (by decide)
        have j25 : vs 25 = .bool false := hJ 25 (by decide)
        have j26 : vs 26 = .bool false := hJ 26 (by decide)
        have j27 : vs 27 = .int .i64 ez := hJ 27 (by decide)
        have j28 : vs 28 = .int .i64 ez := hJ 28 (by decide)
        have j29 : vs 29 = .bool false := hJ 29 (by decide)
        have j30 : vs 30 = .bool false := hJ 30 (by decide)
        have j31 : vs 31 = .bool false := hJ 31 (by decide)
        have j32 : vs 32 = .agg g7 := hJ 32 (by decide)
        have j34 : vs 34 = .agg g8 := hJ 34 (by decide)
        have j35 : vs 35 = .bool true := hJ 35 (by decide)
        have j36 : vs 36 = .bool false := hJ 36 (by decide)
        have s81 := hJ 5 (by decide)
        have s109 := hJ 33 (by decide)
        clear hJ
        simp only [actOf, List.take_succ_cons, List.take_zero, List.drop_succ_cons, List.drop_zero, Act.put, List.setIfInBounds_toArray, List.set_cons_succ, List.set_cons_zero, Nat.reduceAdd]
        clear CS
        have CTO := Lib.hid (fun W hR => kto_ok who leaf sg A4 c4 path (by omega) W hR)
        have CSS := Lib.hid (fun A A' c c' W h1 h2 => ksame_ok who leaf sg A A' c c' path (by omega) W h1 h2)
        rw [HG3.out] at CTO
        cases hB : sigB who leaf path.length with
        | true =>
          obtain ⟨hq1, hq2, hq3⟩ := HQ.out.1 hB
          simp only [sigB, Bool.and_eq_true, decide_eq_true_eq] at hB
          obtain ⟨⟨⟨a0, a1⟩, a2⟩, a3⟩ := hB
          have a3' : (path.length : Int) ≤ 8 := by omega
          have hq4 := hq2 (.slice A8 pz.length c8)
          rw [HG7.out] at hq4
          replace hq3 := hq3.symm
          subst hq3
          have CSZ := Lib.hid (fun A c W h1 h2 => ksame_ok who leaf sg A8 A c8 c path (by omega) W h1 h2)
          rw [← hq4] at CSZ
          clear hq2 hq4 HQ
          subst hq1
          go_wp2_with fail
          refine wp_region_rel 21 (fun i => match i with
              | 0 => fun v _ => v = .int .i64 0
              | 1 => fun v _ => v = .bool true
              | 2 => fun v _ => v = .bool true
              | 3 => fun v _ => v = .bool true
              | 4 => fun v _ => v = .bool true
              | 5 => fun v _ => v = .bool true
              | 6 => fun v _ => v = .bool false
              | 7 => fun v _ => v = .bool false
              | 8 => fun v _ => v = .agg g7
              | 9 => fun v _ => v = .agg g3
              | 10 => fun v w => AgS w 0 who leaf sg path v
              | 11 => fun v _ => v = .bool true
              | 12 => fun v _ => v = .bool true
              | 13 => fun v _ => v = .bool true
              | 14 => fun v _ => v = .bool true
              | 15 => fun v _ => v = .agg g3
              | 16 => fun v w => AgS w 0 who leaf sg path v
              | 17 => fun v _ => v = .agg g3
              | 18 => fun v w => AgS w 0 who leaf sg path v
              | 19 => fun v _ => v = .bool true
              | 20 => fun v _ => v = .bool true
              | _ => fun _ _ => True) (by kernel_rfl) (by kernel_rfl) ?_ ?_ ?_
          · intro i v x y h hg
            match i, h with
            | 0, h | 1, h | 2, h | 3, h | 4, h | 5, h | 6, h | 7, h | 8, h | 9, h | 11, h | 12, h | 13, h | 14, h | 15, h | 17, h | 19, h | 20, h => exact h
            | 10, h => exact AgS.gr h hg
            | 16, h => exact AgS.gr h hg
            | 18, h => exact AgS.gr h hg
            | m + 21, _ => trivial
          · refine ⟨?_, ?_, ?_, ?_, ?_, ?_, ?_, ?_, ?_, ?_, ?_, ?_, ?_, ?_, ?_, ?_, ?_, ?_, ?_, ?_, ?_, trivial⟩
            · intro vs y hg hd
              simp only [actOf, List.take_succ_cons, List.take_zero, List.drop_succ_cons, List.drop_zero, Act.put, List.setIfInBounds_toArray, List.set_cons_succ, List.set_cons_zero, Nat.reduceAdd]
              go_wp2_with fail
              exact ⟨rfl, _, rfl, grew_refl _, rfl⟩
            · intro vs y hg hd
              obtain ⟨h0, _⟩ := hd
              replace h0 := h0 rfl
              simp only [actOf, List.take_succ_cons, List.take_zero, List.drop_succ_cons, List.drop_zero, Act.put, List.setIfInBounds_toArray, List.set_cons_succ, List.set_cons_zero, Nat.reduceAdd]
              rw [show vs 0 = _ from h0]
              go_wp2_with fail
              exact ⟨rfl, _, rfl, grew_refl _, rfl⟩
            · intro vs y hg hd
              simp only [actOf, List.take_succ_cons, List.take_zero, List.drop_succ_cons, List.drop_zero, Act.put, List.setIfInBounds_toArray, List.set_cons_succ, List.set_cons_zero, Nat.reduceAdd]
              go_wp2_with fail
              exact ⟨rfl, _, rfl, grew_refl _, rfl⟩
            · intro vs y hg hd
              obtain ⟨h1, h2, _⟩ := hd
              replace h1 := h1 rfl
              replace h2 := h2 rfl
              simp only [actOf, List.take_succ_cons, List.take_zero, List.drop_succ_cons, List.drop_zero, Act.put, List.setIfInBounds_toArray, List.set_cons_succ, List.set_cons_zero, Nat.reduceAdd]
              rw [show vs 1 = _ from h1, show vs 2 = _ from h2]
              go_wp2_with fail
              exact ⟨rfl, _, rfl, grew_refl _, rfl⟩
            · intro vs y hg hd
              obtain ⟨h3, _⟩ := hd
              replace h3 := h3 rfl
              simp only [actOf, List.take_succ_cons, List.take_zero, List.drop_succ_cons, List.drop_zero, Act.put, List.setIfInBounds_toArray, List.set_cons_succ, List.set_cons_zero, Nat.reduceAdd]
              rw [show vs 3 = _ from h3]
              go_wp2_with fail
              exact ⟨rfl, _, rfl, grew_refl _, rfl⟩
            · intro vs y hg hd
              have hx : (Region.binds .any { on := 4, ground := .guard } = true → vs 4 = .bool true) ∧ True := hd
              have h4 : vs 4 = .bool true := hx.1 rfl
              clear hx
              simp only [actOf, List.take_succ_cons, List.take_zero, List.drop_succ_cons, List.drop_zero, Act.put, List.setIfInBounds_toArray, List.set_cons_succ, List.set_cons_zero, Nat.reduceAdd]
              rw [show vs 4 = _ from h4]
              go_wp2_with fail
              exact ⟨rfl, _, rfl, grew_refl _, rfl⟩
            · intro vs y hg hd
              have hx : (Region.binds .any { on := 5, ground := .data } = true → vs 5 = .bool true) ∧ (Region.binds .any { on := 4, ground := .guard } = true → vs 4 = .bool true) ∧ True := hd
              have h5 : vs 5 = .bool true := hx.1 rfl
              have h4 : vs 4 = .bool true := hx.2.1 rfl
              clear hx
              simp only [actOf, List.take_succ_cons, List.take_zero, List.drop_succ_cons, List.drop_zero, Act.put, List.setIfInBounds_toArray, List.set_cons_succ, List.set_cons_zero, Nat.reduceAdd]
              rw [show vs 5 = _ from h5, show vs 4 = _ from h4]
              go_wp2_with fail
              exact ⟨rfl, _, rfl, grew_refl _, rfl⟩
            · intro vs y hg hd
              have hx : (Region.binds .any { on := 6, ground := .data } = true → vs 6 = .bool false) ∧ (Region.binds .any { on := 4, ground := .chain } = true → vs 4 = .bool true) ∧ (Region.binds .any { on := 4, ground := .guard } = true → vs 4 = .bool true) ∧ True := hd
              have h6 : vs 6 = .bool false := hx.1 rfl
              have h4 : vs 4 = .bool true := hx.2.2.1 rfl
              clear hx
              simp only [actOf, List.take_succ_cons, List.take_zero, List.drop_succ_cons, List.drop_zero, Act.put, List.setIfInBounds_toArray, List.set_cons_succ, List.set_cons_zero, Nat.reduceAdd]
              rw [show vs 6 = _ from h6, show vs 4 = _ from h4]
              go_wp2_with fail
              exact ⟨rfl, _, rfl, grew_refl _, rfl⟩
            · intro vs y hg hd
              have hx : (Region.binds .any { on := 7, ground := .guard } = true → vs 7 = .bool false) ∧ True := hd
              have h7 : vs 7 = .bool false := hx.1 rfl
              clear hx
              simp only [actOf, List.take_succ_cons, List.take_zero, List.drop_succ_cons, List.drop_zero, Act.put, List.setIfInBounds_toArray, List.set_cons_succ, List.set_cons_zero, Nat.reduceAdd]
              rw [show vs 7 = _ from h7]
              have hm := HM7.out y (grew_trans hg1 hg)
              go_wp2_with (refine wpList_load_mid_want (by rfl) 39 (.tmp 18) rfl w7.heap.size 0 rfl g7.toList _ hm huk rfl SL7.out ?_; simp only [Array.toArray_toList])
              exact ⟨rfl, _, rfl, grew_refl _, rfl⟩
            · intro vs y hg hd
              have hx : (Region.binds .any { on := 7, ground := .guard } = true → vs 7 = .bool false) ∧ True := hd
              have h7 : vs 7 = .bool false := hx.1 rfl
              clear hx
              simp only [actOf, List.take_succ_cons, List.take_zero, List.drop_succ_cons, List.drop_zero, Act.put, List.setIfInBounds_toArray, List.set_cons_succ, List.set_cons_zero, Nat.reduceAdd]
              rw [show vs 7 = _ from h7]
              have hm := HM3.out y (grew_trans hg1 hg)
              go_wp2_with (refine wpList_load_mid_want (by rfl) 45 (.tmp 15) rfl v3.heap.size 0 rfl g3.toList _ hm hur rfl SL3.out ?_; simp only [Array.toArray_toList])
              exact ⟨rfl, _, rfl, grew_refl _, rfl⟩
            · intro vs y hg hd
              have hx : (Region.binds .any { on := 9, ground := .data } = true → vs 9 = .agg g3) ∧ (Region.binds .any { on := 7, ground := .chain } = true → vs 7 = .bool false) ∧ (Region.binds .any { on := 7, ground := .guard } = true → vs 7 = .bool false) ∧ True := hd
              have h9 : vs 9 = .agg g3 := hx.1 rfl
              have h7 : vs 7 = .bool false := hx.2.2.1 rfl
              clear hx
              simp only [actOf, List.take_succ_cons, List.take_zero, List.drop_succ_cons, List.drop_zero, Act.put, List.setIfInBounds_toArray, List.set_cons_succ, List.set_cons_zero, Nat.reduceAdd]
              rw [show vs 9 = _ from h9, show vs 7 = _ from h7]
              go_wp2_with (go_at_call 30; refine (CTO.out y (R4.out y (grew_trans hg1 hg))).mono ?_; rintro e z ⟨A3, c3, rfl, hr9, gz⟩)
              exact ⟨rfl, _, rfl, gz, ⟨A3, c3, rfl, hr9, fun ad h => Nat.zero_le _⟩⟩
            · intro vs y hg hd
              have hx : (Region.binds .any { on := 8, ground := .data } = true → vs 8 = .agg g7) ∧ (Region.binds .any { on := 10, ground := .data } = true → (fun v w => AgS w 0 who leaf sg path v) (vs 10) y) ∧ (Region.binds .any { on := 10, ground := .chain } = true → (fun v w => AgS w 0 who leaf sg path v) (vs 10) y) ∧ (Region.binds .any { on := 7, ground := .guard } = true → vs 7 = .bool false) ∧ True := hd
              have h8 : vs 8 = .agg g7 := hx.1 rfl
              have h10 : (fun v w => AgS w 0 who leaf sg path v) (vs 10) y := hx.2.1 rfl
              have h7 : vs 7 = .bool false := hx.2.2.2.1 rfl
              clear hx
              simp only [actOf, List.take_succ_cons, List.take_zero, List.drop_succ_cons, List.drop_zero, Act.put, List.setIfInBounds_toArray, List.set_cons_succ, List.set_cons_zero, Nat.reduceAdd]
              rw [show vs 8 = _ from h8, show vs 7 = _ from h7]
              obtain ⟨A3, c3, hv, hr9, hb9⟩ := AgS.out h10
              rw [hv]
              go_wp2_with (go_at_call 32; refine (CSZ.out A3 c3 y (R8.out y (grew_trans hg1 hg)) hr9).mono ?_; rintro e z ⟨rfl, gz⟩)
              exact ⟨rfl, _, rfl, gz, rfl⟩
            · intro vs y hg hd
              have hx : (Region.binds .any { on := 7, ground := .data } = true → vs 7 = .bool false) ∧ (Region.binds .any { on := 11, ground := .data } = true → vs 11 = .bool true) ∧ (Region.binds .any { on := 4, ground := .guard } = true → vs 4 = .bool true) ∧ True := hd
              have h7 : vs 7 = .bool false := hx.1 rfl
              have h11 : vs 11 = .bool true := hx.2.1 rfl
              have h4 : vs 4 = .bool true := hx.2.2.1 rfl
              clear hx
              simp only [actOf, List.take_succ_cons, List.take_zero, List.drop_succ_cons, List.drop_zero, Act.put, List.setIfInBounds_toArray, List.set_cons_succ, List.set_cons_zero, Nat.reduceAdd]
              rw [show vs 7 = _ from h7, show vs 11 = _ from h11, show vs 4 = _ from h4]
              go_wp2_with fail
              exact ⟨rfl, _, rfl, grew_refl _, rfl⟩
            · intro vs y hg hd
              obtain ⟨h4, h12, _⟩ := hd
              replace h4 := h4 rfl
              replace h12 := h12 rfl
              simp only [actOf, List.take_succ_cons, List.take_zero, List.drop_succ_cons, List.drop_zero, Act.put, List.setIfInBounds_toArray, List.set_cons_succ, List.set_cons_zero, Nat.reduceAdd]
              rw [show vs 4 = _ from h4, show vs 12 = _ from h12]
              go_wp2_with fail
              exact ⟨rfl, _, rfl, grew_refl _, rfl⟩
            · intro vs y hg hd
              obtain ⟨h13, _⟩ := hd
              replace h13 := h13 rfl
              simp only [actOf, List.take_succ_cons, List.take_zero, List.drop_succ_cons, List.drop_zero, Act.put, List.setIfInBounds_toArray, List.set_cons_succ, List.set_cons_zero, Nat.reduceAdd]
              rw [show vs 13 = _ from h13]
              go_wp2_with fail
              exact ⟨rfl, _, rfl, grew_refl _, rfl⟩
            · intro vs y hg hd
              have hx : (Region.binds .any { on := 14, ground := .guard } = true → vs 14 = .bool true) ∧ True := hd
              have h14 : vs 14 = .bool true := hx.1 rfl
              clear hx
              simp only [actOf, List.take_succ_cons, List.take_zero, List.drop_succ_cons, List.drop_zero, Act.put, List.setIfInBounds_toArray, List.set_cons_succ, List.set_cons_zero, Nat.reduceAdd]
              rw [show vs 14 = _ from h14]
              have hm := HM3.out y (grew_trans hg1 hg)
              go_wp2_with (refine wpList_load_mid_want (by rfl) 45 (.tmp 15) rfl v3.heap.size 0 rfl g3.toList _ hm hur rfl SL3.out ?_; simp only [Array.toArray_toList])
              exact ⟨rfl, _, rfl, grew_refl _, rfl⟩
            · intro vs y hg hd
              have hx : (Region.binds .any { on := 15, ground := .data } = true → vs 15 = .agg g3) ∧ (Region.binds .any { on := 14, ground := .chain } = true → vs 14 = .bool true) ∧ (Region.binds .any { on := 14, ground := .guard } = true → vs 14 = .bool true) ∧ True := hd
              have h15 : vs 15 = .agg g3 := hx.1 rfl
              have h14 : vs 14 = .bool true := hx.2.2.1 rfl
              clear hx
              simp only [actOf, List.take_succ_cons, List.take_zero, List.drop_succ_cons, List.drop_zero, Act.put, List.setIfInBounds_toArray, List.set_cons_succ, List.set_cons_zero, Nat.reduceAdd]
              rw [show vs 15 = _ from h15, show vs 14 = _ from h14]
              go_wp2_with (go_at_call 30; refine (CTO.out y (R4.out y (grew_trans hg1 hg))).mono ?_; rintro e z ⟨A3, c3, rfl, hr9, gz⟩)
              exact ⟨rfl, _, rfl, gz, ⟨A3, c3, rfl, hr9, fun ad h => Nat.zero_le _⟩⟩
            · intro vs y hg hd
              have hx : (Region.binds .any { on := 14, ground := .guard } = true → vs 14 = .bool true) ∧ True := hd
              have h14 : vs 14 = .bool true := hx.1 rfl
              clear hx
              simp only [actOf, List.take_succ_cons, List.take_zero, List.drop_succ_cons, List.drop_zero, Act.put, List.setIfInBounds_toArray, List.set_cons_succ, List.set_cons_zero, Nat.reduceAdd]
              rw [show vs 14 = _ from h14]
              have hm := HM3.out y (grew_trans hg1 hg)
              go_wp2_with (refine wpList_load_mid_want (by rfl) 45 (.tmp 15) rfl v3.heap.size 0 rfl g3.toList _ hm hur rfl SL3.out ?_; simp only [Array.toArray_toList])
              exact ⟨rfl, _, rfl, grew_refl _, rfl⟩
            · intro vs y hg hd
              have hx : (Region.binds .any { on := 17, ground := .data } = true → vs 17 = .agg g3) ∧ (Region.binds .any { on := 16, ground := .chain } = true → (fun v w => AgS w 0 who leaf sg path v) (vs 16) y) ∧ (Region.binds .any { on := 14, ground := .guard } = true → vs 14 = .bool true) ∧ True := hd
              have h17 : vs 17 = .agg g3 := hx.1 rfl
              have h14 : vs 14 = .bool true := hx.2.2.1 rfl
              clear hx
              simp only [actOf, List.take_succ_cons, List.take_zero, List.drop_succ_cons, List.drop_zero, Act.put, List.setIfInBounds_toArray, List.set_cons_succ, List.set_cons_zero, Nat.reduceAdd]
              rw [show vs 17 = _ from h17, show vs 14 = _ from h14]
              go_wp2_with (go_at_call 30; refine (CTO.out y (R4.out y (grew_trans hg1 hg))).mono ?_; rintro e z ⟨A3, c3, rfl, hr9, gz⟩)
              exact ⟨rfl, _, rfl, gz, ⟨A3, c3, rfl, hr9, fun ad h => Nat.zero_le _⟩⟩
            · intro vs y hg hd
              have hx : (Region.binds .any { on := 16, ground := .data } = true → (fun v w => AgS w 0 who leaf sg path v) (vs 16) y) ∧ (Region.binds .any { on := 18, ground := .data } = true → (fun v w => AgS w 0 who leaf sg path v) (vs 18) y) ∧ (Region.binds .any { on := 18, ground := .chain } = true → (fun v w => AgS w 0 who leaf sg path v) (vs 18) y) ∧ (Region.binds .any { on := 14, ground := .guard } = true → vs 14 = .bool true) ∧ True := hd
              have h16 : (fun v w => AgS w 0 who leaf sg path v) (vs 16) y := hx.1 rfl
              have h18 : (fun v w => AgS w 0 who leaf sg path v) (vs 18) y := hx.2.1 rfl
              have h14 : vs 14 = .bool true := hx.2.2.2.1 rfl
              clear hx
              simp only [actOf, List.take_succ_cons, List.take_zero, List.drop_succ_cons, List.drop_zero, Act.put, List.setIfInBounds_toArray, List.set_cons_succ, List.set_cons_zero, Nat.reduceAdd]
              rw [show vs 14 = _ from h14]
              obtain ⟨A3, c3, hv, hr9, hb9⟩ := AgS.out h16
              rw [hv]
              obtain ⟨A7, c7, hv7, hr7, hb7⟩ := AgS.out h18
              rw [hv7]
              go_wp2_with (go_at_call 32; refine (CSS.out A3 A7 c3 c7 y hr9 hr7).mono ?_; rintro e z ⟨rfl, gz⟩)
              exact ⟨rfl, _, rfl, gz, rfl⟩
            · intro vs y hg hd
              obtain ⟨h14, h19, _⟩ := hd
              replace h14 := h14 rfl
              replace h19 := h19 rfl
              simp only [actOf, List.take_succ_cons, List.take_zero, List.drop_succ_cons, List.drop_zero, Act.put, List.setIfInBounds_toArray, List.set_cons_succ, List.set_cons_zero, Nat.reduceAdd]
              rw [show vs 14 = _ from h14, show vs 19 = _ from h19]
              go_wp2_with fail
              exact ⟨rfl, _, rfl, grew_refl _, rfl⟩
          · intro vs y2 hg2 hJ
            have j0 : vs 0 = .int .i64 0 := hJ 0 (by decide)
            have j1 : vs 1 = .bool true := hJ 1 (by decide)
            have j2 : vs 2 = .bool true := hJ 2 (by decide)
            have j3 : vs 3 = .bool true := hJ 3 (by decide)
            have j4 : vs 4 = .bool true := hJ 4 (by decide)
            have j5 : vs 5 = .bool true := hJ 5 (by decide)
            have j6 : vs 6 = .bool false := hJ 6 (by decide)
            have j7 : vs 7 = .bool false := hJ 7 (by decide)
            have j8 : vs 8 = .agg g7 := hJ 8 (by decide)
            have j9 : vs 9 = .agg g3 := hJ 9 (by decide)
            have j11 : vs 11 = .bool true := hJ 11 (by decide)
            have j12 : vs 12 = .bool true := hJ 12 (by decide)
            have j13 : vs 13 = .bool true := hJ 13 (by decide)
            have j14 : vs 14 = .bool true := hJ 14 (by decide)
            have j15 : vs 15 = .agg g3 := hJ 15 (by decide)
            have j17 : vs 17 = .agg g3 := hJ 17 (by decide)
            have j19 : vs 19 = .bool true := hJ 19 (by decide)
            have j20 : vs 20 = .bool true := hJ 20 (by decide)
            have s139 := hJ 10 (by decide)
            have s145 := hJ 16 (by decide)
            have s147 := hJ 18 (by decide)
            clear hJ
            simp only [actOf, List.take_succ_cons, List.take_zero, List.drop_succ_cons, List.drop_zero, Act.put, List.setIfInBounds_toArray, List.set_cons_succ, List.set_cons_zero, Nat.reduceAdd]
            go_wp2_with fail
            go_ret
            exact ⟨rfl, grew_trans G8 (grew_trans hg1 hg2)⟩
        | false =>
          have hq1 := HQ.out.2 hB
          clear HQ
          subst hq1
          rcases (show who < 0 ∨ (0 ≤ who ∧ 15 < who) ∨ (0 ≤ who ∧ who ≤ 15 ∧ leaf < 0) ∨ (0 ≤ who ∧ who ≤ 15 ∧ 0 ≤ leaf ∧ 8 < (path.length : Int)) from by
            simp only [sigB, Bool.and_eq_false_iff, decide_eq_false_iff_not] at hB
            omega) with a | ⟨a, b⟩ | ⟨a, b, c⟩ | ⟨a, b, c, d⟩
          all_goals go_wp2_with fail
          all_goals (try simp only [show decide ((path.length : Int) ≤ 8) = false from decide_eq_false (by omega)])
          all_goals (
            refine wp_region_rel 21 (fun i => match i with
                | 0 => fun v _ => v = .int .i64 2
                | 1 => fun v _ => v = .bool false
                | 2 => fun v _ => v = .bool false
                | 3 => fun v _ => v = .bool true
                | 4 => fun v _ => v = .bool true
                | 5 => fun v _ => v = .bool false
                | 6 => fun v _ => v = .bool true
                | 7 => fun v _ => v = .bool true
                | 8 => fun v _ => v = undef
                | 9 => fun v _ => v = undef
                | 10 => fun v _ => v = undef
                | 11 => fun v _ => v = undef
                | 12 => fun v _ => v = .bool true
                | 13 => fun v _ => v = .bool true
                | 14 => fun v _ => v = .bool true
                | 15 => fun v _ => v = .agg g3
                | 16 => fun v w => AgS w 0 who leaf sg path v
                | 17 => fun v _ => v = .agg g3
                | 18 => fun v w => AgS w 0 who leaf sg path v
                | 19 => fun v _ => v = .bool true
                | 20 => fun v _ => v = .bool true
                | _ => fun _ _ => True) (by kernel_rfl) (by kernel_rfl) ?_ ?_ ?_
            · intro i v x y h hg
              match i, h with
              | 0, h | 1, h | 2, h | 3, h | 4, h | 5, h | 6, h | 7, h | 8, h | 9, h | 10, h | 11, h | 12, h | 13, h | 14, h | 15, h | 17, h | 19, h | 20, h => exact h
              | 16, h => exact AgS.gr h hg
              | 18, h => exact AgS.gr h hg
              | m + 21, _ => trivial
            · refine ⟨?_, ?_, ?_, ?_, ?_, ?_, ?_, ?_, ?_, ?_, ?_, ?_, ?_, ?_, ?_, ?_, ?_, ?_, ?_, ?_, ?_, trivial⟩
              · intro vs y hg hd
                simp only [actOf, List.take_succ_cons, List.take_zero, List.drop_succ_cons, List.drop_zero, Act.put, List.setIfInBounds_toArray, List.set_cons_succ, List.set_cons_zero, Nat.reduceAdd]
                go_wp2_with fail
                exact ⟨rfl, _, rfl, grew_refl _, rfl⟩
              · intro vs y hg hd
                obtain ⟨h0, _⟩ := hd
                replace h0 := h0 rfl
                simp only [actOf, List.take_succ_cons, List.take_zero, List.drop_succ_cons, List.drop_zero, Act.put, List.setIfInBounds_toArray, List.set_cons_succ, List.set_cons_zero, Nat.reduceAdd]
                rw [show vs 0 = _ from h0]
                go_wp2_with fail
                exact ⟨rfl, _, rfl, grew_refl _, rfl⟩
              · intro vs y hg hd
                simp only [actOf, List.take_succ_cons, List.take_zero, List.drop_succ_cons, List.drop_zero, Act.put, List.setIfInBounds_toArray, List.set_cons_succ, List.set_cons_zero, Nat.reduceAdd]
                go_wp2_with fail
                exact ⟨rfl, _, rfl, grew_refl _, rfl⟩
              · intro vs y hg hd
                obtain ⟨h1, h2, _⟩ := hd
                replace h1 := h1 rfl
                replace h2 := h2 rfl
                simp only [actOf, List.take_succ_cons, List.take_zero, List.drop_succ_cons, List.drop_zero, Act.put, List.setIfInBounds_toArray, List.set_cons_succ, List.set_cons_zero, Nat.reduceAdd]
                rw [show vs 1 = _ from h1, show vs 2 = _ from h2]
                go_wp2_with fail
                exact ⟨rfl, _, rfl, grew_refl _, rfl⟩
              · intro vs y hg hd
                obtain ⟨h3, _⟩ := hd
                replace h3 := h3 rfl
                simp only [actOf, List.take_succ_cons, List.take_zero, List.drop_succ_cons, List.drop_zero, Act.put, List.setIfInBounds_toArray, List.set_cons_succ, List.set_cons_zero, Nat.reduceAdd]
                rw [show vs 3 = _ from h3]
                go_wp2_with fail
                exact ⟨rfl, _, rfl, grew_refl _, rfl⟩
              · intro vs y hg hd
                have hx : (Region.binds .any { on := 4, ground := .guard } = true → vs 4 = .bool true) ∧ True := hd
                have h4 : vs 4 = .bool true := hx.1 rfl
                clear hx
                simp only [actOf, List.take_succ_cons, List.take_zero, List.drop_succ_cons, List.drop_zero, Act.put, List.setIfInBounds_toArray, List.set_cons_succ, List.set_cons_zero, Nat.reduceAdd]
                rw [show vs 4 = _ from h4]
                go_wp2_with fail
                exact ⟨rfl, _, rfl, grew_refl _, rfl⟩
              · intro vs y hg hd
                have hx : (Region.binds .any { on := 5, ground := .data } = true → vs 5 = .bool false) ∧ (Region.binds .any { on := 4, ground := .guard } = true → vs 4 = .bool true) ∧ True := hd
                have h5 : vs 5 = .bool false := hx.1 rfl
                have h4 : vs 4 = .bool true := hx.2.1 rfl
                clear hx
                simp only [actOf, List.take_succ_cons, List.take_zero, List.drop_succ_cons, List.drop_zero, Act.put, List.setIfInBounds_toArray, List.set_cons_succ, List.set_cons_zero, Nat.reduceAdd]
                rw [show vs 5 = _ from h5, show vs 4 = _ from h4]
                go_wp2_with fail
                exact ⟨rfl, _, rfl, grew_refl _, rfl⟩
              · intro vs y hg hd
                have hx : (Region.binds .any { on := 6, ground := .data } = true → vs 6 = .bool true) ∧ (Region.binds .any { on := 4, ground := .chain } = true → vs 4 = .bool true) ∧ (Region.binds .any { on := 4, ground := .guard } = true → vs 4 = .bool true) ∧ True := hd
                have h6 : vs 6 = .bool true := hx.1 rfl
                have h4 : vs 4 = .bool true := hx.2.2.1 rfl
                clear hx
                simp only [actOf, List.take_succ_cons, List.take_zero, List.drop_succ_cons, List.drop_zero, Act.put, List.setIfInBounds_toArray, List.set_cons_succ, List.set_cons_zero, Nat.reduceAdd]
                rw [show vs 6 = _ from h6, show vs 4 = _ from h4]
                go_wp2_with fail
                exact ⟨rfl, _, rfl, grew_refl _, rfl⟩
              · intro vs y hg hd
                have hx : (Region.binds .any { on := 7, ground := .guard } = true → vs 7 = .bool true) ∧ True := hd
                have h7 : vs 7 = .bool true := hx.1 rfl
                clear hx
                simp only [actOf, List.take_succ_cons, List.take_zero, List.drop_succ_cons, List.drop_zero, Act.put, List.setIfInBounds_toArray, List.set_cons_succ, List.set_cons_zero, Nat.reduceAdd]
                rw [show vs 7 = _ from h7]
                go_wp2_with fail
                exact ⟨rfl, _, rfl, grew_refl _, rfl⟩
              · intro vs y hg hd
                have hx : (Region.binds .any { on := 7, ground := .guard } = true → vs 7 = .bool true) ∧ True := hd
                have h7 : vs 7 = .bool true := hx.1 rfl
                clear hx
                simp only [actOf, List.take_succ_cons, List.take_zero, List.drop_succ_cons, List.drop_zero, Act.put, List.setIfInBounds_toArray, List.set_cons_succ, List.set_cons_zero, Nat.reduceAdd]
                rw [show vs 7 = _ from h7]
                go_wp2_with fail
                exact ⟨rfl, _, rfl, grew_refl _, rfl⟩
              · intro vs y hg hd
                have hx : (Region.binds .any { on := 9, ground := .data } = true → vs 9 = undef) ∧ (Region.binds .any { on := 7, ground := .chain } = true → vs 7 = .bool true) ∧ (Region.binds .any { on := 7, ground := .guard } = true → vs 7 = .bool true) ∧ True := hd
                have h9 : vs 9 = undef := hx.1 rfl
                have h7 : vs 7 = .bool true := hx.2.2.1 rfl
                clear hx
                simp only [actOf, List.take_succ_cons, List.take_zero, List.drop_succ_cons, List.drop_zero, Act.put, List.setIfInBounds_toArray, List.set_cons_succ, List.set_cons_zero, Nat.reduceAdd]
                rw [show vs 9 = _ from h9, show vs 7 = _ from h7]
                go_wp2_with fail
                exact ⟨rfl, _, rfl, grew_refl _, rfl⟩
              · intro vs y hg hd
                have hx : (Region.binds .any { on := 8, ground := .data } = true → vs 8 = undef) ∧ (Region.binds .any { on := 10, ground := .data } = true → vs 10 = undef) ∧ (Region.binds .any { on := 10, ground := .chain } = true → vs 10 = undef) ∧ (Region.binds .any { on := 7, ground := .guard } = true → vs 7 = .bool true) ∧ True := hd
                have h8 : vs 8 = undef := hx.1 rfl
                have h10 : vs 10 = undef := hx.2.1 rfl
                have h7 : vs 7 = .bool true := hx.2.2.2.1 rfl
                clear hx
                simp only [actOf, List.take_succ_cons, List.take_zero, List.drop_succ_cons, List.drop_zero, Act.put, List.setIfInBounds_toArray, List.set_cons_succ, List.set_cons_zero, Nat.reduceAdd]
                rw [show vs 8 = _ from h8, show vs 10 = _ from h10, show vs 7 = _ from h7]
                go_wp2_with fail
                exact ⟨rfl, _, rfl, grew_refl _, rfl⟩
              · intro vs y hg hd
                have hx : (Region.binds .any { on := 7, ground := .data } = true → vs 7 = .bool true) ∧ (Region.binds .any { on := 11, ground := .data } = true → vs 11 = undef) ∧ (Region.binds .any { on := 4, ground := .guard } = true → vs 4 = .bool true) ∧ True := hd
                have h7 : vs 7 = .bool true := hx.1 rfl
                have h11 : vs 11 = undef := hx.2.1 rfl
                have h4 : vs 4 = .bool true := hx.2.2.1 rfl
                clear hx
                simp only [actOf, List.take_succ_cons, List.take_zero, List.drop_succ_cons, List.drop_zero, Act.put, List.setIfInBounds_toArray, List.set_cons_succ, List.set_cons_zero, Nat.reduceAdd]
                rw [show vs 7 = _ from h7, show vs 11 = _ from h11, show vs 4 = _ from h4]
                go_wp2_with fail
                exact ⟨rfl, _, rfl, grew_refl _, rfl⟩
              · intro vs y hg hd
                obtain ⟨h4, h12, _⟩ := hd
                replace h4 := h4 rfl
                replace h12 := h12 rfl
                simp only [actOf, List.take_succ_cons, List.take_zero, List.drop_succ_cons, List.drop_zero, Act.put, List.setIfInBounds_toArray, List.set_cons_succ, List.set_cons_zero, Nat.reduceAdd]
                rw [show vs 4 = _ from h4, show vs 12 = _ from h12]
                go_wp2_with fail
                exact ⟨rfl, _, rfl, grew_refl _, rfl⟩
              · intro vs y hg hd
                obtain ⟨h13, _⟩ := hd
                replace h13 := h13 rfl
                simp only [actOf, List.take_succ_cons, List.take_zero, List.drop_succ_cons, List.drop_zero, Act.put, List.setIfInBounds_toArray, List.set_cons_succ, List.set_cons_zero, Nat.reduceAdd]
                rw [show vs 13 = _ from h13]
                go_wp2_with fail
                exact ⟨rfl, _, rfl, grew_refl _, rfl⟩
              · intro vs y hg hd
                have hx : (Region.binds .any { on := 14, ground := .guard } = true → vs 14 = .bool true) ∧ True := hd
                have h14 : vs 14 = .bool true := hx.1 rfl
                clear hx
                simp only [actOf, List.take_succ_cons, List.take_zero, List.drop_succ_cons, List.drop_zero, Act.put, List.setIfInBounds_toArray, List.set_cons_succ, List.set_cons_zero, Nat.reduceAdd]
                rw [show vs 14 = _ from h14]
                have hm := HM3.out y (grew_trans hg1 hg)
                go_wp2_with (refine wpList_load_mid_want (by rfl) 45 (.tmp 15) rfl v3.heap.size 0 rfl g3.toList _ hm hur rfl SL3.out ?_; simp only [Array.toArray_toList])
                exact ⟨rfl, _, rfl, grew_refl _, rfl⟩
              · intro vs y hg hd
                have hx : (Region.binds .any { on := 15, ground := .data } = true → vs 15 = .agg g3) ∧ (Region.binds .any { on := 14, ground := .chain } = true → vs 14 = .bool true) ∧ (Region.binds .any { on := 14, ground := .guard } = true → vs 14 = .bool true) ∧ True := hd
                have h15 : vs 15 = .agg g3 := hx.1 rfl
                have h14 : vs 14 = .bool true := hx.2.2.1 rfl
                clear hx
                simp only [actOf, List.take_succ_cons, List.take_zero, List.drop_succ_cons, List.drop_zero, Act.put, List.setIfInBounds_toArray, List.set_cons_succ, List.set_cons_zero, Nat.reduceAdd]
                rw [show vs 15 = _ from h15, show vs 14 = _ from h14]
                go_wp2_with (go_at_call 30; refine (CTO.out y (R4.out y (grew_trans hg1 hg))).mono ?_; rintro e z ⟨A3, c3, rfl, hr9, gz⟩)
                exact ⟨rfl, _, rfl, gz, ⟨A3, c3, rfl, hr9, fun ad h => Nat.zero_le _⟩⟩
              · intro vs y hg hd
                have hx : (Region.binds .any { on := 14, ground := .guard } = true → vs 14 = .bool true) ∧ True := hd
                have h14 : vs 14 = .bool true := hx.1 rfl
                clear hx
                simp only [actOf, List.take_succ_cons, List.take_zero, List.drop_succ_cons, List.drop_zero, Act.put, List.setIfInBounds_toArray, List.set_cons_succ, List.set_cons_zero, Nat.reduceAdd]
                rw [show vs 14 = _ from h14]
                have hm := HM3.out y (grew_trans hg1 hg)
                go_wp2_with (refine wpList_load_mid_want (by rfl) 45 (.tmp 15) rfl v3.heap.size 0 rfl g3.toList _ hm hur rfl SL3.out ?_; simp only [Array.toArray_toList])
                exact ⟨rfl, _, rfl, grew_refl _, rfl⟩
              · intro vs y hg hd
                have hx : (Region.binds .any { on := 17, ground := .data } = true → vs 17 = .agg g3) ∧ (Region.binds .any { on := 16, ground := .chain } = true → (fun v w => AgS w 0 who leaf sg path v) (vs 16) y) ∧ (Region.binds .any { on := 14, ground := .guard } = true → vs 14 = .bool true) ∧ True := hd
                have h17 : vs 17 = .agg g3 := hx.1 rfl
                have h14 : vs 14 = .bool true := hx.2.2.1 rfl
                clear hx
                simp only [actOf, List.take_succ_cons, List.take_zero, List.drop_succ_cons, List.drop_zero, Act.put, List.setIfInBounds_toArray, List.set_cons_succ, List.set_cons_zero, Nat.reduceAdd]
                rw [show vs 17 = _ from h17, show vs 14 = _ from h14]
                go_wp2_with (go_at_call 30; refine (CTO.out y (R4.out y (grew_trans hg1 hg))).mono ?_; rintro e z ⟨A3, c3, rfl, hr9, gz⟩)
                exact ⟨rfl, _, rfl, gz, ⟨A3, c3, rfl, hr9, fun ad h => Nat.zero_le _⟩⟩
              · intro vs y hg hd
                have hx : (Region.binds .any { on := 16, ground := .data } = true → (fun v w => AgS w 0 who leaf sg path v) (vs 16) y) ∧ (Region.binds .any { on := 18, ground := .data } = true → (fun v w => AgS w 0 who leaf sg path v) (vs 18) y) ∧ (Region.binds .any { on := 18, ground := .chain } = true → (fun v w => AgS w 0 who leaf sg path v) (vs 18) y) ∧ (Region.binds .any { on := 14, ground := .guard } = true → vs 14 = .bool true) ∧ True := hd
                have h16 : (fun v w => AgS w 0 who leaf sg path v) (vs 16) y := hx.1 rfl
                have h18 : (fun v w => AgS w 0 who leaf sg path v) (vs 18) y := hx.2.1 rfl
                have h14 : vs 14 = .bool true := hx.2.2.2.1 rfl
                clear hx
                simp only [actOf, List.take_succ_cons, List.take_zero, List.drop_succ_cons, List.drop_zero, Act.put, List.setIfInBounds_toArray, List.set_cons_succ, List.set_cons_zero, Nat.reduceAdd]
                rw [show vs 14 = _ from h14]
                obtain ⟨A3, c3, hv, hr9, hb9⟩ := AgS.out h16
                rw [hv]
                obtain ⟨A7, c7, hv7, hr7, hb7⟩ := AgS.out h18
                rw [hv7]
                go_wp2_with (go_at_call 32; refine (CSS.out A3 A7 c3 c7 y hr9 hr7).mono ?_; rintro e z ⟨rfl, gz⟩)
                exact ⟨rfl, _, rfl, gz, rfl⟩
              · intro vs y hg hd
                obtain ⟨h14, h19, _⟩ := hd
                replace h14 := h14 rfl
                replace h19 := h19 rfl
                simp only [actOf, List.take_succ_cons, List.take_zero, List.drop_succ_cons, List.drop_zero, Act.put, List.setIfInBounds_toArray, List.set_cons_succ, List.set_cons_zero, Nat.reduceAdd]
                rw [show vs 14 = _ from h14, show vs 19 = _ from h19]
                go_wp2_with fail
                exact ⟨rfl, _, rfl, grew_refl _, rfl⟩
            · intro vs y2 hg2 hJ
              have j0 : vs 0 = .int .i64 2 := hJ 0 (by decide)
              have j1 : vs 1 = .bool false := hJ 1 (by decide)
              have j2 : vs 2 = .bool false := hJ 2 (by decide)
              have j3 : vs 3 = .bool true := hJ 3 (by decide)
              have j4 : vs 4 = .bool true := hJ 4 (by decide)
              have j5 : vs 5 = .bool false := hJ 5 (by decide)
              have j6 : vs 6 = .bool true := hJ 6 (by decide)
              have j7 : vs 7 = .bool true := hJ 7 (by decide)
              have j8 : vs 8 = undef := hJ 8 (by decide)
              have j9 : vs 9 = undef := hJ 9 (by decide)
              have j10 : vs 10 = undef := hJ 10 (by decide)
              have j11 : vs 11 = undef := hJ 11 (by decide)
              have j12 : vs 12 = .bool true := hJ 12 (by decide)
              have j13 : vs 13 = .bool true := hJ 13 (by decide)
              have j14 : vs 14 = .bool true := hJ 14 (by decide)
              have j15 : vs 15 = .agg g3 := hJ 15 (by decide)
              have j17 : vs 17 = .agg g3 := hJ 17 (by decide)
              have j19 : vs 19 = .bool true := hJ 19 (by decide)
              have j20 : vs 20 = .bool true := hJ 20 (by decide)
              have s145 := hJ 16 (by decide)
              have s147 := hJ 18 (by decide)
              clear hJ
              simp only [actOf, List.take_succ_cons, List.take_zero, List.drop_succ_cons, List.drop_zero, Act.put, List.setIfInBounds_toArray, List.set_cons_succ, List.set_cons_zero, Nat.reduceAdd]
              go_wp2_with fail
              go_ret
              exact ⟨rfl, grew_trans G8 (grew_trans hg1 hg2)⟩)
end Go.Proofs.YtpgbfglfgcidaaaGreatDoor

namespace Go.Proofs.YtpgbfglfgcidaaaGreatDoor
set_option linter.unusedSimpArgs false
set_option linter.unusedVariables false
open Go.RowKit
set_option linter.unusedVariables false
theorem sigWords_law (tj : ByteArray) (who leaf : Int) (hw : in64 who) (hlf : in64 leaf) (A3 A4 : Option Addr) (c3 c4 : Nat) (one path : List Nat) (ho : ∀ n ∈ one, n < 18446744073709551616) (hp : ∀ n ∈ path, n < 18446744073709551616) (w : World) (hS : Std w) (hr3 : Rd w w.heap.size A3 (u64L one)) (hr4 : Rd w w.heap.size A4 (u64L path)) :
    Calls Tryz.prog 5 #[.string tj, .int .i64 who, .int .i64 leaf, .slice A3 one.length c3, .slice A4 path.length c4] w fun e w' => e = .returned (.bool true) ∧ Grew w w' := by
  rcases (show sgE (sigP tj.data.toList) = 0 ∨ sgE (sigP tj.data.toList) = 2 from by unfold sgE; split; exact .inl rfl; exact .inr rfl) with h | h
  · exact sigWords_law0 tj h who leaf hw hlf A3 A4 c3 c4 one path ho hp w hS hr3 hr4
  · exact sigWords_law2 tj h who leaf hw hlf A3 A4 c3 c4 one path ho hp w hS hr3 hr4
end Go.Proofs.YtpgbfglfgcidaaaGreatDoor
