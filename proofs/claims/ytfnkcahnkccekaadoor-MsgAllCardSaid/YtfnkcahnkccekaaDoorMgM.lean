/- MsgAll: the law (mkmgm.py). -/
import Derived.Test.YtfnkcahnkccekaaDoorMgG
import Derived.Test.YtfnkcahnkccekaaDoorCmC
namespace Go.Proofs.YtfnkcahnkccekaaDoor
open Go.RowKit
set_option linter.unusedVariables false
set_option linter.unusedSimpArgs false
set_option maxRecDepth 100000 in
theorem mg_bm (k : Int) (g : Array Value) (o : Int) (hg : g = cm5 1 o 2 3 4) : Tryd.prog.built 55 [(0, .int .i64 (1 + k)), (1, .int .i64 99), (2, .int .i64 98), (3, .agg g), (7, .int .i64 3), (8, .int .i64 4)] = some (mgC ⟨1 + k, 99, 98, 1, o, 2, 3, 4, 3, 4⟩ (.slice none 0 0) (.slice none 0 0) (.slice none 0 0) (.slice none 0 0) (.slice none 0 0) (.slice none 0 0)) := by subst hg; kernel_rfl
set_option maxRecDepth 100000 in
set_option maxHeartbeats 8000000 in
theorem msgAll_law (a b c d : Int) (ha : 0 ≤ a ∧ a ≤ 255) (hb : 0 ≤ b ∧ b ≤ 255) (hc : 0 ≤ c ∧ c ≤ 255) (hd : 0 ≤ d ∧ d ≤ 255) (w : World) (hS : Std w) :
    Calls Tryd.prog 3 #[.int .u8 a, .int .u8 b, .int .u8 c, .int .u8 d] w fun e w' => e = .returned (.bool true) ∧ Grew w w' := by
  have HS := Lib.hid hS
  have CK := Lib.hid (known22 w)
  have CC := Lib.hid (mgc d)
  obtain ⟨n, hn⟩ : ∃ n : Nat, a % 12 = (n : Int) := ⟨(a % 12).toNat, by omega⟩
  obtain ⟨k, hk⟩ : ∃ k : Int, c % 9 = k := ⟨_, rfl⟩
  have HN : Hid (n < 12) := Lib.hid (by omega)
  have HK : Hid (0 ≤ k ∧ k ≤ 8) := Lib.hid (by omega)
  have et1 : a.tmod 12 = (n : Int) := by rw [Int.tmod_eq_emod_of_nonneg ha.1]; exact hn
  have et2 : c.tmod 9 = k := by rw [Int.tmod_eq_emod_of_nonneg hc.1]; exact hk
  go_enter Tryd.func3, Tryd.ntmps3
  go_wp2_with fail
  refine (CK.out).mono ?_
  rintro e w1 ⟨rfl, G1⟩
  go_wp2_with fail
  refine (CC.out w1).mono ?_
  rintro e w2 ⟨rfl, G2⟩
  obtain ⟨cg, hcg⟩ : ∃ g : Array Value, cm5 1 d 2 3 4 = g := ⟨_, rfl⟩
  have HCG := Lib.hid hcg
  obtain ⟨h, hh⟩ : ∃ h : MH, h = ⟨1 + k, 99, 98, 1, d, 2, 3, 4, 3, 4⟩ := ⟨_, rfl⟩
  have HH := Lib.hid hh
  obtain ⟨m0, hm0⟩ : ∃ g : Array Value, mgC h (.slice none 0 0) (.slice none 0 0) (.slice none 0 0) (.slice none 0 0) (.slice none 0 0) (.slice none 0 0) = g := ⟨_, rfl⟩
  have HM0 := Lib.hid hm0
  have HB := Lib.hid (mg_bm k cg d hcg.symm)
  rw [← hh, hm0] at HB
  have CA := Lib.hid (mgall h b n (by have := HN.out; omega))
  rw [hm0] at CA
  rw [hcg]
  have hut := Tryd.underlying55
  have hulT := Tryd.underlying56
  have huc := Tryd.underlying24
  have ezr := mg_zero
  have Z0 : Hid (m0.size = 147) := Lib.hid (by rw [← hm0]; rfl)
  clear hm0 hcg hh
  obtain ⟨w3, hw3, ht3, g3, z3⟩ := mgput w2 55 (#[.int .i64 0, .int .i64 0, .int .i64 0, .int .i64 0, .int .i64 0, .int .i64 0, .int .i64 0, .int .i64 0, .int .u64 0, .int .i64 0, .int .i64 0, .int .i64 0, .int .i64 0, .int .u64 0, .int .u64 0, .int .u64 0, .int .u64 0, .int .u64 0, .int .u64 0, .int .u64 0, .int .u64 0, .int .u64 0, .int .u64 0, .int .u64 0, .int .u64 0, .int .u64 0, .int .u64 0, .int .u64 0, .int .u64 0, .int .u64 0, .int .u64 0, .slice none 0 0, .int .i64 0, .int .i64 0, .int .i64 0, .int .i64 0, .int .i64 0, .slice none 0 0, .int .u64 0, .int .i64 0, .int .i64 0, .int .i64 0, .int .u64 0, .int .u64 0, .int .u64 0, .int .u64 0, .int .u64 0, .int .u64 0, .int .u64 0, .int .u64 0, .int .u64 0, .int .u64 0, .int .u64 0, .int .u64 0, .int .u64 0, .int .u64 0, .int .u64 0, .int .u64 0, .int .u64 0, .int .u64 0, .slice none 0 0, .int .i64 0, .int .i64 0, .int .i64 0, .int .i64 0, .int .i64 0, .slice none 0 0, .int .i64 0, .int .i64 0, .int .u64 0, .int .u64 0, .int .u64 0, .int .u64 0, .int .u64 0, .int .u64 0, .int .u64 0, .int .u64 0, .int .u64 0, .int .u64 0, .int .u64 0, .int .u64 0, .int .u64 0, .int .u64 0, .int .u64 0, .int .u64 0, .int .u64 0, .int .u64 0, .slice none 0 0, .int .i64 0, .int .u64 0, .int .i64 0, .int .u64 0, .slice none 0 0, .int .i64 0, .int .i64 0, .slice none 0 0, .int .i64 0, .int .u64 0, .int .i64 0, .int .i64 0, .int .i64 0, .int .u64 0, .int .u64 0, .int .u64 0, .int .u64 0, .int .u64 0, .int .u64 0, .int .u64 0, .int .u64 0, .int .u64 0, .int .u64 0, .int .u64 0, .int .u64 0, .int .u64 0, .int .u64 0, .int .u64 0, .int .u64 0, .int .u64 0, .int .u64 0, .slice none 0 0, .int .i64 0, .int .i64 0, .int .i64 0, .int .u64 0, .slice none 0 0, .int .i64 0, .int .i64 0, .int .u64 0, .int .u64 0, .int .u64 0, .int .u64 0, .int .u64 0, .int .u64 0, .int .u64 0, .int .u64 0, .int .u64 0, .int .u64 0, .int .u64 0, .int .u64 0, .int .u64 0, .int .u64 0, .int .u64 0, .int .u64 0, .int .u64 0, .int .u64 0, .slice none 0 0, .slice none 0 0] : Array Value) m0 (by rw [Z0.out]; rfl)
  have HW3 := Lib.hid hw3
  have HT3 := Lib.hid ht3
  have SI0 : Hid ((Tryd.prog.info? 55).map (·.size) = some m0.size) := Lib.hid (by rw [Z0.out]; exact mi_ms)
  have SL0 : Hid ((Tryd.prog.info? 55).map (·.size) = some m0.toList.length) := Lib.hid (by rw [Array.length_toList, Z0.out]; exact mi_ms)
  have ON0 : Hid (m0.all (·.oneCell') = true) := Lib.hid (by rw [← HM0.out]; exact mgC_one _ _ _ _ _ _ _ _ _ _ _ _ _ _ _ _ _ _ _)
  clear hw3 ht3
  go_upto_region 5 with (first
    | (with_reducible refine mgbuild_is rfl 55 #[(0, .tmp 23), (1, .const (.int .i64 99)), (2, .const (.int .i64 98)), (3, .tmp 26), (7, .const (.int .i64 3)), (8, .const (.int .i64 4))] rfl m0 ?_ ?_; · simpa [Act.eval, Act.put] using HB.out)
    | (with_reducible refine wpList_store_mid rfl 55 (.tmp 10) (.tmp 27) rfl w2.heap.size 0 m0 rfl rfl HT3.out SI0.out ON0.out ?_; rw [HW3.out]; clear HW3 HT3))
  have G3 := grew_trans (grew_trans G1 G2) g3
  clear G1 G2 g3 CC HB
  generalize w2.heap.size = q1 at *
  have hm3 := z3.cell
  go_wp2_with (with_reducible refine wpList_load_mid rfl 55 (.tmp 10) rfl q1 0 rfl m0.toList _ hm3 hut rfl SL0.out ?_; simp only [Array.toArray_toList])
  refine (CA.out w3).mono ?_
  rintro e w4 ⟨⟨v, R, rfl, hR, hrs, hown⟩, g4⟩
  clear CA hm3
  have G4 := grew_trans G3 g4
  have z4 := z3.grew g4
  obtain ⟨A, cp, rfl, hrd, hcp, -⟩ := own_rdM hown (fun l hl => by
    obtain ⟨i, hi, rfl⟩ := List.getElem_of_mem hl
    exact (hrs i hi).len) (by decide) hR
  have HRD := Lib.hid hrd
  have HRS := Lib.hid hrs
  have HR := Lib.hid hR
  have HZ4 := Lib.hid z4
  have HG4 := Lib.hid G4
  have HCP := Lib.hid hcp
  have HBB := Lib.hid hb
  have HDD := Lib.hid hd
  clear z3 z4 G3 G4 g4 hown hrd hrs hR hn hk et1 et2 ha hc hcp
  go_wp2_with fail
  go_loopw [12] (fun iv wr => ∃ i : Nat, i ≤ n ∧ iv = .int .i64 (i : Int) ∧ Grew w4 wr) (fun iv _ => n - (Go.RowKit.intOf iv).toNat)
  case atStart => exact ⟨0, Nat.zero_le _, rfl, grew_refl _⟩
  case round =>
    obtain ⟨i, hin, rfl, gr⟩ := hrel
    by_cases hlt : i < n
    · have hiR : i < R.length := by rw [HR.out]; exact hlt
      obtain ⟨q, hq, -, hri⟩ := HRD.out i hiR
      subst hq
      obtain ⟨A1, A2, A3, A4, A5, A6, a1, a2, a3, a4, a5, a6, e0⟩ := HRS.out i hiR
      rw [e0] at hri
      obtain ⟨li, hli⟩ : ∃ g : Array Value, mgC (h.at b i) (.slice A1 0 a1) (.slice A2 0 a2) (.slice A3 0 a3) (.slice A4 0 a4) (.slice A5 0 a5) (.slice A6 0 a6) = g := ⟨_, rfl⟩
      have HLI := Lib.hid hli
      have ZL : Hid (li.size = 147) := Lib.hid (by rw [← hli]; rfl)
      have SIL : Hid ((Tryd.prog.info? 55).map (·.size) = some li.size) := Lib.hid (by rw [ZL.out]; exact mi_ms)
      have SLL : Hid ((Tryd.prog.info? 55).map (·.size) = some li.toList.length) := Lib.hid (by rw [Array.length_toList, ZL.out]; exact mi_ms)
      have ONL : Hid (li.all (·.oneCell') = true) := Lib.hid (by rw [← hli]; exact mgC_one _ _ _ _ _ _ _ _ _ _ _ _ _ _ _ _ _ _ _)
      have KS := Lib.hid (mgsame_ms (h.at b i) A1 A2 A3 A4 A5 A6 none none none none none none a1 a2 a3 a4 a5 a6 0 0 0 0 0 0)
      obtain ⟨my, hmy⟩ : ∃ g : Array Value, mgC (h.at b i) (.slice none 0 0) (.slice none 0 0) (.slice none 0 0) (.slice none 0 0) (.slice none 0 0) (.slice none 0 0) = g := ⟨_, rfl⟩
      have HMY := Lib.hid hmy
      have ZY : Hid (my.size = 147) := Lib.hid (by rw [← hmy]; rfl)
      obtain ⟨r, t, CX, er, et⟩ : ∃ (r : Int) (t : Bool), Hid (∀ W, Calls Tryd.prog 7 #[.agg li, .int .i64 (n : Int)] W fun e w' => e = .returned (.int .i64 r) ∧ Grew W w') ∧ (r == 0) = t ∧ decide (b ≤ (n : Int)) = t := by
        have hk := HK.out
        have hb := HBB.out
        have e1 : (h.at b i).k = 1 + k := by rw [HH.out]; rfl
        have e2 : (h.at b i).f = b := rfl
        have e3 : (h.at b i).t = (i : Int) := rfl
        by_cases hbn : b ≤ (n : Int)
        · exact ⟨0, true, Lib.hid (by rw [← hli]; exact mgcheck_ok (h.at b i) _ _ _ _ _ A6 0 a6 n (by rw [e1]; omega) (by rw [e2]; omega) (by rw [e3]; omega) (by omega)), rfl, decide_eq_true hbn⟩
        · exact ⟨1, false, Lib.hid (by rw [← hli]; exact mgcheck_from (h.at b i) _ _ _ _ _ A6 0 a6 n (by rw [e1]; omega) (by rw [e2]; omega)), rfl, decide_eq_false hbn⟩
      rw [hli] at hri KS
      rw [hmy] at KS
      obtain ⟨ww5, hw5, ht5, g5, z5⟩ := mgput wr 55 (#[.int .i64 0, .int .i64 0, .int .i64 0, .int .i64 0, .int .i64 0, .int .i64 0, .int .i64 0, .int .i64 0, .int .u64 0, .int .i64 0, .int .i64 0, .int .i64 0, .int .i64 0, .int .u64 0, .int .u64 0, .int .u64 0, .int .u64 0, .int .u64 0, .int .u64 0, .int .u64 0, .int .u64 0, .int .u64 0, .int .u64 0, .int .u64 0, .int .u64 0, .int .u64 0, .int .u64 0, .int .u64 0, .int .u64 0, .int .u64 0, .int .u64 0, .slice none 0 0, .int .i64 0, .int .i64 0, .int .i64 0, .int .i64 0, .int .i64 0, .slice none 0 0, .int .u64 0, .int .i64 0, .int .i64 0, .int .i64 0, .int .u64 0, .int .u64 0, .int .u64 0, .int .u64 0, .int .u64 0, .int .u64 0, .int .u64 0, .int .u64 0, .int .u64 0, .int .u64 0, .int .u64 0, .int .u64 0, .int .u64 0, .int .u64 0, .int .u64 0, .int .u64 0, .int .u64 0, .int .u64 0, .slice none 0 0, .int .i64 0, .int .i64 0, .int .i64 0, .int .i64 0, .int .i64 0, .slice none 0 0, .int .i64 0, .int .i64 0, .int .u64 0, .int .u64 0, .int .u64 0, .int .u64 0, .int .u64 0, .int .u64 0, .int .u64 0, .int .u64 0, .int .u64 0, .int .u64 0, .int .u64 0, .int .u64 0, .int .u64 0, .int .u64 0, .int .u64 0, .int .u64 0, .int .u64 0, .int .u64 0, .slice none 0 0, .int .i64 0, .int .u64 0, .int .i64 0, .int .u64 0, .slice none 0 0, .int .i64 0, .int .i64 0, .slice none 0 0, .int .i64 0, .int .u64 0, .int .i64 0, .int .i64 0, .int .i64 0, .int .u64 0, .int .u64 0, .int .u64 0, .int .u64 0, .int .u64 0, .int .u64 0, .int .u64 0, .int .u64 0, .int .u64 0, .int .u64 0, .int .u64 0, .int .u64 0, .int .u64 0, .int .u64 0, .int .u64 0, .int .u64 0, .int .u64 0, .int .u64 0, .slice none 0 0, .int .i64 0, .int .i64 0, .int .i64 0, .int .u64 0, .slice none 0 0, .int .i64 0, .int .i64 0, .int .u64 0, .int .u64 0, .int .u64 0, .int .u64 0, .int .u64 0, .int .u64 0, .int .u64 0, .int .u64 0, .int .u64 0, .int .u64 0, .int .u64 0, .int .u64 0, .int .u64 0, .int .u64 0, .int .u64 0, .int .u64 0, .int .u64 0, .int .u64 0, .slice none 0 0, .slice none 0 0] : Array Value) li (by rw [ZL.out]; rfl)
      have HW5 := Lib.hid hw5
      have HT5 := Lib.hid ht5
      have hmi : wr.rangeAt q (i * 147) li.toList := fun j u hj => mgcell_gr (hri j u hj) gr
      have hi0 : (0 : Int) ≤ (i : Int) := by omega
      have hi1 : (i : Int) < (n : Int) := by omega
      have e41 : IntKind.i64.wrap ((i : Int) + 1) = (i : Int) + 1 := IntWalk.i64_in _ (by have := HN.out; omega)
      have HLT := Lib.hid hlt
      have HGR := Lib.hid gr
      have hcp9 := HCP.out
      clear hw5 ht5 hli hmy e0 hri gr hlt hiR hin
      go_upto_region 12 with (first
        | (with_reducible refine wpList_load_mid rfl 55 (.tmp 44) rfl q (i * 147) rfl li.toList _ hmi hut rfl SLL.out ?_; simp only [Array.toArray_toList])
        | (with_reducible refine wpList_store_mid rfl 55 (.tmp 13) (.tmp 45) rfl wr.heap.size 0 li rfl rfl HT5.out SIL.out ONL.out ?_; rw [HW5.out]; clear HW5 HT5))
      clear hmi
      generalize wr.heap.size = q2 at *
      have G5 := grew_trans HGR.out g5
      have zm := HZ4.out.grew G5
      have SIC : Hid ((Tryd.prog.info? 24).map (·.size) = some cg.toList.length) := Lib.hid (by rw [← HCG.out]; exact mi_cm)
      have ecm : ∀ W, (Op.equalIn 10000 24 (.agg cg) (.agg cg)).run Tryd.prog W = .ok true W := fun W => by rw [← HCG.out]; exact mg_cm 1 d 2 3 4 W
      have xr := z5.midOf (vs := cg.toList) 3 5 (by rw [← HLI.out, ← HCG.out, HH.out]; rfl)
      have yr := zm.midOf (vs := cg.toList) 3 5 (by rw [← HM0.out, ← HCG.out, HH.out]; rfl)
      have x0 := z5.cell 0 (.int .i64 (1 + k)) (by rw [← HLI.out, HH.out]; rfl)
      have x1 := z5.cell 1 (.int .i64 b) (by rw [← HLI.out, HH.out]; rfl)
      have x2 := z5.cell 2 (.int .i64 (i : Int)) (by rw [← HLI.out, HH.out]; rfl)
      have x61 := z5.cell 61 (.int .i64 3) (by rw [← HLI.out, HH.out]; rfl)
      have x62 := z5.cell 62 (.int .i64 4) (by rw [← HLI.out, HH.out]; rfl)
      have y0 := zm.cell 0 (.int .i64 (1 + k)) (by rw [← HM0.out, HH.out]; rfl)
      have xm := z5.cell
      simp only [Nat.zero_add] at x0 x1 x2 x61 x62 y0
      go_wp2_with (first
        | (refine mgload_want (by rfl) 24 (.tmp 65) rfl q2 3 rfl cg.toList _ xr huc rfl SIC.out ?_; simp only [Array.toArray_toList])
        | (refine mgload_want (by rfl) 24 (.tmp 67) rfl q1 3 rfl cg.toList _ yr huc rfl SIC.out ?_; simp only [Array.toArray_toList])
        | (refine mgload_want (by rfl) 55 (.tmp 13) rfl q2 0 rfl li.toList _ xm hut rfl SLL.out ?_; simp only [Array.toArray_toList]))
      refine (CX.out _).mono ?_
      rintro e w6 ⟨rfl, g6⟩
      clear xr yr x0 x1 x2 x61 x62 y0 xm ecm CX
      have z6 := z5.grew g6
      have G6 := grew_trans G5 g6
      have ett : (t != t) = false := by simp
      obtain ⟨w7, hw7, ht7, g7, z7⟩ := mgput w6 55 (#[.int .i64 0, .int .i64 0, .int .i64 0, .int .i64 0, .int .i64 0, .int .i64 0, .int .i64 0, .int .i64 0, .int .u64 0, .int .i64 0, .int .i64 0, .int .i64 0, .int .i64 0, .int .u64 0, .int .u64 0, .int .u64 0, .int .u64 0, .int .u64 0, .int .u64 0, .int .u64 0, .int .u64 0, .int .u64 0, .int .u64 0, .int .u64 0, .int .u64 0, .int .u64 0, .int .u64 0, .int .u64 0, .int .u64 0, .int .u64 0, .int .u64 0, .slice none 0 0, .int .i64 0, .int .i64 0, .int .i64 0, .int .i64 0, .int .i64 0, .slice none 0 0, .int .u64 0, .int .i64 0, .int .i64 0, .int .i64 0, .int .u64 0, .int .u64 0, .int .u64 0, .int .u64 0, .int .u64 0, .int .u64 0, .int .u64 0, .int .u64 0, .int .u64 0, .int .u64 0, .int .u64 0, .int .u64 0, .int .u64 0, .int .u64 0, .int .u64 0, .int .u64 0, .int .u64 0, .int .u64 0, .slice none 0 0, .int .i64 0, .int .i64 0, .int .i64 0, .int .i64 0, .int .i64 0, .slice none 0 0, .int .i64 0, .int .i64 0, .int .u64 0, .int .u64 0, .int .u64 0, .int .u64 0, .int .u64 0, .int .u64 0, .int .u64 0, .int .u64 0, .int .u64 0, .int .u64 0, .int .u64 0, .int .u64 0, .int .u64 0, .int .u64 0, .int .u64 0, .int .u64 0, .int .u64 0, .int .u64 0, .slice none 0 0, .int .i64 0, .int .u64 0, .int .i64 0, .int .u64 0, .slice none 0 0, .int .i64 0, .int .i64 0, .slice none 0 0, .int .i64 0, .int .u64 0, .int .i64 0, .int .i64 0, .int .i64 0, .int .u64 0, .int .u64 0, .int .u64 0, .int .u64 0, .int .u64 0, .int .u64 0, .int .u64 0, .int .u64 0, .int .u64 0, .int .u64 0, .int .u64 0, .int .u64 0, .int .u64 0, .int .u64 0, .int .u64 0, .int .u64 0, .int .u64 0, .int .u64 0, .slice none 0 0, .int .i64 0, .int .i64 0, .int .i64 0, .int .u64 0, .slice none 0 0, .int .i64 0, .int .i64 0, .int .u64 0, .int .u64 0, .int .u64 0, .int .u64 0, .int .u64 0, .int .u64 0, .int .u64 0, .int .u64 0, .int .u64 0, .int .u64 0, .int .u64 0, .int .u64 0, .int .u64 0, .int .u64 0, .int .u64 0, .int .u64 0, .int .u64 0, .int .u64 0, .slice none 0 0, .slice none 0 0] : Array Value) m0 (by rw [Z0.out]; rfl)
      have HW7 := Lib.hid hw7
      have HT7 := Lib.hid ht7
      have zm6 := zm.grew g6
      have hm6 := zm6.cell
      clear hw7 ht7 z5 zm G5 g5 g6
      go_upto_region 15 with (first
        | (with_reducible refine wpList_load_mid rfl 55 (.tmp 10) rfl q1 0 rfl m0.toList _ hm6 hut rfl SL0.out ?_; simp only [Array.toArray_toList])
        | (with_reducible refine wpList_store_mid rfl 55 (.tmp 14) (.tmp 92) rfl w6.heap.size 0 m0 rfl rfl HT7.out SI0.out ON0.out ?_; rw [HW7.out]; clear HW7 HT7))
      have HQ3 : Hid (w6.heap.size < w7.heap.size) := Lib.hid z7.lt
      have HQ2 : Hid (q2 < w6.heap.size) := Lib.hid z6.lt
      have HQ1 : Hid (q1 < w6.heap.size) := Lib.hid zm6.lt
      have z6 := z6.grew g7
      have zm7 := zm6.grew g7
      have HS6 : Hid (w4.heap.size ≤ w6.heap.size) := Lib.hid G6.size
      clear hm6 zm6
      have G7 := grew_trans G6 g7
      generalize w6.heap.size = q3 at *
      obtain ⟨g2, hg2⟩ : ∃ g : Array Value, mgC ⟨h.k, b, h.t, h.a, h.b, h.c, h.d, h.e, h.lo, h.hi⟩ (.slice none 0 0) (.slice none 0 0) (.slice none 0 0) (.slice none 0 0) (.slice none 0 0) (.slice none 0 0) = g := ⟨_, rfl⟩
      have c1 := z7.cell 1 (.int .i64 h.f) (by rw [← HM0.out]; rfl)
      have f1 := (z7.there 1 (by rw [Array.length_toList, Z0.out]; omega)).2
      have z8 := Ag.cell_set (g := m0) (g' := g2) (v := .int .i64 b) z7 1 (by rw [Z0.out]; omega) (by rw [← HM0.out, ← hg2]; rfl)
      have K8 := kp_set (S := fun i => i = q3) (kp_refl _ w7) (p := ⟨q3, 1, none⟩) (.inl rfl) (.int .i64 b)
      obtain ⟨w8, hw8⟩ : ∃ v, w7.setCell ⟨q3, 1, none⟩ (.int .i64 b) = v := ⟨_, rfl⟩
      rw [hw8] at z8 K8
      have c2 := z8.cell 2 (.int .i64 h.t) (by rw [← hg2]; rfl)
      have f2 := (z8.there 2 (by rw [Array.length_toList, ← hg2]; show 2 < 147; omega)).2
      have z9 := Ag.cell_set (g := g2) (g' := my) (v := .int .i64 (i : Int)) z8 2 (by rw [← hg2]; show _ ≤ 147; omega) (by rw [← hg2, ← HMY.out]; rfl)
      have K9 := kp_set (S := fun i => i = q3) K8 (p := ⟨q3, 2, none⟩) (.inl rfl) (.int .i64 (i : Int))
      simp only [Nat.zero_add] at c1 f1 c2 f2
      obtain ⟨w9, hw9⟩ : ∃ v, w8.setCell ⟨q3, 2, none⟩ (.int .i64 (i : Int)) = v := ⟨_, rfl⟩
      rw [hw9] at z9 K9
      have G9 : Grew w4 w9 := below_kp G7 K9 G7.size (fun i (hi : i = q3) => by have := HS6.out; omega)
      have zx := z6.kp K9 (show ¬ q2 = q3 by have := HQ2.out; omega)
      have zn := zm7.kp K9 (show ¬ q1 = q3 by have := HQ1.out; omega)
      clear z7 z8 K8 K9 hg2 g7 z6 zm7 G6 G7
      go_upto_region 16 with fail
      try rw [hw8]
      try rw [hw9]
      clear c1 f1 c2 f2 hw8 hw9 ett er et
      have SLY : Hid ((Tryd.prog.info? 55).map (·.size) = some my.toList.length) := Lib.hid (by rw [Array.length_toList, ZY.out]; exact mi_ms)
      have XL : Hid (∀ y, Grew w9 y → y.rangeAt q2 0 li.toList) := Lib.hid (fun y g => (zx.grew g).cell)
      have XY : Hid (∀ y, Grew w9 y → y.rangeAt q3 0 my.toList) := Lib.hid (fun y g => (z9.grew g).cell)
      have XC : Hid (∀ y, Grew w9 y → y.rangeAt q2 3 cg.toList) := Lib.hid (fun y g => (zx.grew g).midOf 3 5 (by rw [← HLI.out, ← HCG.out, HH.out]; rfl))
      have XD : Hid (∀ y, Grew w9 y → y.rangeAt q1 3 cg.toList) := Lib.hid (fun y g => (zn.grew g).midOf 3 5 (by rw [← HM0.out, ← HCG.out, HH.out]; rfl))
      obtain ⟨ts, hts⟩ : ∃ t : ByteArray, ⟨(txC ⟨1, d, 2, 3, 4⟩).toArray⟩ = t := ⟨_, rfl⟩
      have CT : Hid (∀ W, Std W → Calls Tryd.prog 9 #[.agg cg] W fun e w' => e = .returned (.string ts) ∧ Grew W w') := Lib.hid (fun W hW => by
        have hd := HDD.out
        have := text_ok ⟨1, d, 2, 3, 4⟩ (fun x hx => by
          simp only [Cm.l, List.mem_cons, List.not_mem_nil, or_false] at hx
          unfold in64
          rcases hx with rfl | rfl | rfl | rfl | rfl <;> omega) W hW
        rw [← HCG.out, ← hts]
        exact this)
      have HGW := Lib.hid (grew_trans HG4.out G9)
      clear zx zn z9 hts
      refine wp_region_rel 12 (fun ix9 => match ix9 with
          | 0 => fun v _ => v = .agg li
          | 1 => fun v _ => v = .agg my
          | 2 => fun v _ => v = .bool true
          | 3 => fun v _ => v = .bool false
          | 4 => fun v _ => v = .bool false
          | 5 => fun v _ => v = .pointer (some ⟨q2, 3, none⟩)
          | 6 => fun v _ => v = .agg cg
          | 7 => fun v _ => v = .string ts
          | 8 => fun v _ => v = .pointer (some ⟨q1, 3, none⟩)
          | 9 => fun v _ => v = .agg cg
          | 10 => fun v _ => v = .string ts
          | 11 => fun v _ => v = .bool false
          | _ => fun _ _ => True) (by kernel_rfl) (by kernel_rfl) ?_ ?_ ?_
      · intro i v x y h hg
        match i, h with
        | 0, h | 1, h | 2, h | 3, h | 4, h | 5, h | 6, h | 7, h | 8, h | 9, h | 10, h | 11, h => exact h
        | m + 12, _ => trivial
      · refine ⟨?_, ?_, ?_, ?_, ?_, ?_, ?_, ?_, ?_, ?_, ?_, ?_, trivial⟩
        · intro vs y hg hd
          simp only [actOf, List.take_succ_cons, List.take_zero, List.drop_succ_cons, List.drop_zero, Act.put, List.setIfInBounds_toArray, List.set_cons_succ, List.set_cons_zero, Nat.reduceAdd]
          have hm := XL.out y hg
          go_wp2_with (refine mgload_want (by rfl) 55 (.tmp 13) rfl q2 0 rfl li.toList _ hm hut rfl SLL.out ?_; simp only [Array.toArray_toList])
          exact ⟨rfl, _, rfl, grew_refl _, rfl⟩
        · intro vs y hg hd
          simp only [actOf, List.take_succ_cons, List.take_zero, List.drop_succ_cons, List.drop_zero, Act.put, List.setIfInBounds_toArray, List.set_cons_succ, List.set_cons_zero, Nat.reduceAdd]
          have hm := XY.out y hg
          go_wp2_with (refine mgload_want (by rfl) 55 (.tmp 14) rfl q3 0 rfl my.toList _ hm hut rfl SLY.out ?_; simp only [Array.toArray_toList])
          exact ⟨rfl, _, rfl, grew_refl _, rfl⟩
        · intro vs y hg hd
          obtain ⟨h0, h1, _⟩ := hd
          replace h0 := h0 rfl
          replace h1 := h1 rfl
          simp only [actOf, List.take_succ_cons, List.take_zero, List.drop_succ_cons, List.drop_zero, Act.put, List.setIfInBounds_toArray, List.set_cons_succ, List.set_cons_zero, Nat.reduceAdd]
          rw [show vs 0 = _ from h0, show vs 1 = _ from h1]
          go_wp2_with (go_at_call 8; refine (KS.out y).mono ?_; rintro e z ⟨rfl, gz⟩)
          exact ⟨rfl, _, rfl, gz, rfl⟩
        · intro vs y hg hd
          obtain ⟨h2, _⟩ := hd
          replace h2 := h2 rfl
          simp only [actOf, List.take_succ_cons, List.take_zero, List.drop_succ_cons, List.drop_zero, Act.put, List.setIfInBounds_toArray, List.set_cons_succ, List.set_cons_zero, Nat.reduceAdd]
          rw [show vs 2 = _ from h2]
          go_wp2_with fail
          exact ⟨rfl, _, rfl, grew_refl _, rfl⟩
        · intro vs y hg hd
          obtain ⟨h3, _⟩ := hd
          replace h3 := h3 rfl
          simp only [actOf, List.take_succ_cons, List.take_zero, List.drop_succ_cons, List.drop_zero, Act.put, List.setIfInBounds_toArray, List.set_cons_succ, List.set_cons_zero, Nat.reduceAdd]
          rw [show vs 3 = _ from h3]
          go_wp2_with fail
          exact ⟨rfl, _, rfl, grew_refl _, rfl⟩
        · intro vs y hg hd
          have hx : (Region.binds .any { on := 4, ground := .guard } = true → vs 4 = .bool false) ∧ True := hd
          have h4 : vs 4 = .bool false := hx.1 rfl
          clear hx
          simp only [actOf, List.take_succ_cons, List.take_zero, List.drop_succ_cons, List.drop_zero, Act.put, List.setIfInBounds_toArray, List.set_cons_succ, List.set_cons_zero, Nat.reduceAdd]
          rw [show vs 4 = _ from h4]
          go_wp2_with fail
          exact ⟨rfl, _, rfl, grew_refl _, rfl⟩
        · intro vs y hg hd
          have hx : (Region.binds .any { on := 5, ground := .data } = true → vs 5 = .pointer (some ⟨q2, 3, none⟩)) ∧ (Region.binds .any { on := 4, ground := .guard } = true → vs 4 = .bool false) ∧ True := hd
          have h5 : vs 5 = .pointer (some ⟨q2, 3, none⟩) := hx.1 rfl
          have h4 : vs 4 = .bool false := hx.2.1 rfl
          clear hx
          simp only [actOf, List.take_succ_cons, List.take_zero, List.drop_succ_cons, List.drop_zero, Act.put, List.setIfInBounds_toArray, List.set_cons_succ, List.set_cons_zero, Nat.reduceAdd]
          rw [show vs 5 = _ from h5, show vs 4 = _ from h4]
          have hm := XC.out y hg
          go_wp2_with (refine mgload_want (by rfl) 24 (.tmp 103) rfl q2 3 rfl cg.toList _ hm huc rfl SIC.out ?_; simp only [Array.toArray_toList])
          exact ⟨rfl, _, rfl, grew_refl _, rfl⟩
        · intro vs y hg hd
          have hx : (Region.binds .any { on := 6, ground := .data } = true → vs 6 = .agg cg) ∧ (Region.binds .any { on := 4, ground := .chain } = true → vs 4 = .bool false) ∧ (Region.binds .any { on := 4, ground := .guard } = true → vs 4 = .bool false) ∧ True := hd
          have h6 : vs 6 = .agg cg := hx.1 rfl
          have h4 : vs 4 = .bool false := hx.2.2.1 rfl
          clear hx
          simp only [actOf, List.take_succ_cons, List.take_zero, List.drop_succ_cons, List.drop_zero, Act.put, List.setIfInBounds_toArray, List.set_cons_succ, List.set_cons_zero, Nat.reduceAdd]
          rw [show vs 6 = _ from h6, show vs 4 = _ from h4]
          go_wp2_with (go_at_call 9; refine (CT.out y (HS.out.grew (grew_trans HGW.out hg))).mono ?_; rintro e z ⟨rfl, gz⟩)
          exact ⟨rfl, _, rfl, gz, rfl⟩
        · intro vs y hg hd
          have hx : (Region.binds .any { on := 4, ground := .guard } = true → vs 4 = .bool false) ∧ True := hd
          have h4 : vs 4 = .bool false := hx.1 rfl
          clear hx
          simp only [actOf, List.take_succ_cons, List.take_zero, List.drop_succ_cons, List.drop_zero, Act.put, List.setIfInBounds_toArray, List.set_cons_succ, List.set_cons_zero, Nat.reduceAdd]
          rw [show vs 4 = _ from h4]
          go_wp2_with fail
          exact ⟨rfl, _, rfl, grew_refl _, rfl⟩
        · intro vs y hg hd
          have hx : (Region.binds .any { on := 8, ground := .data } = true → vs 8 = .pointer (some ⟨q1, 3, none⟩)) ∧ (Region.binds .any { on := 4, ground := .guard } = true → vs 4 = .bool false) ∧ True := hd
          have h8 : vs 8 = .pointer (some ⟨q1, 3, none⟩) := hx.1 rfl
          have h4 : vs 4 = .bool false := hx.2.1 rfl
          clear hx
          simp only [actOf, List.take_succ_cons, List.take_zero, List.drop_succ_cons, List.drop_zero, Act.put, List.setIfInBounds_toArray, List.set_cons_succ, List.set_cons_zero, Nat.reduceAdd]
          rw [show vs 8 = _ from h8, show vs 4 = _ from h4]
          have hm := XD.out y hg
          go_wp2_with (refine mgload_want (by rfl) 24 (.tmp 106) rfl q1 3 rfl cg.toList _ hm huc rfl SIC.out ?_; simp only [Array.toArray_toList])
          exact ⟨rfl, _, rfl, grew_refl _, rfl⟩
        · intro vs y hg hd
          have hx : (Region.binds .any { on := 9, ground := .data } = true → vs 9 = .agg cg) ∧ (Region.binds .any { on := 7, ground := .chain } = true → vs 7 = .string ts) ∧ (Region.binds .any { on := 4, ground := .guard } = true → vs 4 = .bool false) ∧ True := hd
          have h9 : vs 9 = .agg cg := hx.1 rfl
          have h4 : vs 4 = .bool false := hx.2.2.1 rfl
          clear hx
          simp only [actOf, List.take_succ_cons, List.take_zero, List.drop_succ_cons, List.drop_zero, Act.put, List.setIfInBounds_toArray, List.set_cons_succ, List.set_cons_zero, Nat.reduceAdd]
          rw [show vs 9 = _ from h9, show vs 4 = _ from h4]
          go_wp2_with (go_at_call 9; refine (CT.out y (HS.out.grew (grew_trans HGW.out hg))).mono ?_; rintro e z ⟨rfl, gz⟩)
          exact ⟨rfl, _, rfl, gz, rfl⟩
        · intro vs y hg hd
          have hx : (Region.binds .any { on := 7, ground := .data } = true → vs 7 = .string ts) ∧ (Region.binds .any { on := 10, ground := .data } = true → vs 10 = .string ts) ∧ (Region.binds .any { on := 4, ground := .guard } = true → vs 4 = .bool false) ∧ True := hd
          have h7 : vs 7 = .string ts := hx.1 rfl
          have h10 : vs 10 = .string ts := hx.2.1 rfl
          have h4 : vs 4 = .bool false := hx.2.2.1 rfl
          clear hx
          simp only [actOf, List.take_succ_cons, List.take_zero, List.drop_succ_cons, List.drop_zero, Act.put, List.setIfInBounds_toArray, List.set_cons_succ, List.set_cons_zero, Nat.reduceAdd]
          rw [show vs 7 = _ from h7, show vs 10 = _ from h10, show vs 4 = _ from h4]
          go_wp2_with fail
          exact ⟨rfl, _, rfl, grew_refl _, by simp⟩
      · intro vs wa hg hJ
        have j0 : vs 0 = .agg li := hJ 0 (by decide)
        have j1 : vs 1 = .agg my := hJ 1 (by decide)
        have j2 : vs 2 = .bool true := hJ 2 (by decide)
        have j3 : vs 3 = .bool false := hJ 3 (by decide)
        have j4 : vs 4 = .bool false := hJ 4 (by decide)
        have j5 : vs 5 = .pointer (some ⟨q2, 3, none⟩) := hJ 5 (by decide)
        have j6 : vs 6 = .agg cg := hJ 6 (by decide)
        have j7 : vs 7 = .string ts := hJ 7 (by decide)
        have j8 : vs 8 = .pointer (some ⟨q1, 3, none⟩) := hJ 8 (by decide)
        have j9 : vs 9 = .agg cg := hJ 9 (by decide)
        have j10 : vs 10 = .string ts := hJ 10 (by decide)
        have j11 : vs 11 = .bool false := hJ 11 (by decide)
        clear hJ
        simp only [actOf, List.take_succ_cons, List.take_zero, List.drop_succ_cons, List.drop_zero, Act.put, List.setIfInBounds_toArray, List.set_cons_succ, List.set_cons_zero, Nat.reduceAdd]
        go_wp2_with fail
        go_roundw
        case rel => exact ⟨i + 1, by have := HLT.out; omega, by go_num, grew_trans G9 hg⟩
        case measure => have := HLT.out; simp [Go.RowKit.intOf] <;> omega
    · have GF := grew_trans HG4.out gr
      obtain rfl : i = n := by omega
      clear hlt
      go_wp2_with fail
      go_ret
      exact ⟨rfl, GF⟩
end Go.Proofs.YtfnkcahnkccekaaDoor
