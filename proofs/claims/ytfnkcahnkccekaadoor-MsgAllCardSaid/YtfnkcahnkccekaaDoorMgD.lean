/- A message's cells; Same, Check, Word (mkmgd.py). -/
import Derived.Test.YtfnkcahnkccekaaDoorMgC
namespace Go.Proofs.YtfnkcahnkccekaaDoor
open Go.RowKit
set_option linter.unusedVariables false
set_option linter.unusedSimpArgs false
/-- the head of a message -/
structure MH where
  k : Int
  f : Int
  t : Int
  a : Int
  b : Int
  c : Int
  d : Int
  e : Int
  lo : Int
  hi : Int
set_option maxRecDepth 100000 in
def mgC (h : MH) (v1 v2 v3 v4 v5 v6 : Value) : Array Value := #[.int .i64 h.k, .int .i64 h.f, .int .i64 h.t, .int .i64 h.a, .int .i64 h.b, .int .i64 h.c, .int .i64 h.d, .int .i64 h.e, .int .u64 0, .int .i64 0, .int .i64 0, .int .i64 0, .int .i64 0, .int .u64 0, .int .u64 0, .int .u64 0, .int .u64 0, .int .u64 0, .int .u64 0, .int .u64 0, .int .u64 0, .int .u64 0, .int .u64 0, .int .u64 0, .int .u64 0, .int .u64 0, .int .u64 0, .int .u64 0, .int .u64 0, .int .u64 0, .int .u64 0, .slice none 0 0, .int .i64 0, .int .i64 0, .int .i64 0, .int .i64 0, .int .i64 0, v1, .int .u64 0, .int .i64 0, .int .i64 0, .int .i64 0, .int .u64 0, .int .u64 0, .int .u64 0, .int .u64 0, .int .u64 0, .int .u64 0, .int .u64 0, .int .u64 0, .int .u64 0, .int .u64 0, .int .u64 0, .int .u64 0, .int .u64 0, .int .u64 0, .int .u64 0, .int .u64 0, .int .u64 0, .int .u64 0, .slice none 0 0, .int .i64 h.lo, .int .i64 h.hi, .int .i64 0, .int .i64 0, .int .i64 0, v2, .int .i64 0, .int .i64 0, .int .u64 0, .int .u64 0, .int .u64 0, .int .u64 0, .int .u64 0, .int .u64 0, .int .u64 0, .int .u64 0, .int .u64 0, .int .u64 0, .int .u64 0, .int .u64 0, .int .u64 0, .int .u64 0, .int .u64 0, .int .u64 0, .int .u64 0, .int .u64 0, .slice none 0 0, .int .i64 0, .int .u64 0, .int .i64 0, .int .u64 0, v3, .int .i64 0, .int .i64 0, v4, .int .i64 0, .int .u64 0, .int .i64 0, .int .i64 0, .int .i64 0, .int .u64 0, .int .u64 0, .int .u64 0, .int .u64 0, .int .u64 0, .int .u64 0, .int .u64 0, .int .u64 0, .int .u64 0, .int .u64 0, .int .u64 0, .int .u64 0, .int .u64 0, .int .u64 0, .int .u64 0, .int .u64 0, .int .u64 0, .int .u64 0, .slice none 0 0, .int .i64 0, .int .i64 0, .int .i64 0, .int .u64 0, v5, .int .i64 0, .int .i64 0, .int .u64 0, .int .u64 0, .int .u64 0, .int .u64 0, .int .u64 0, .int .u64 0, .int .u64 0, .int .u64 0, .int .u64 0, .int .u64 0, .int .u64 0, .int .u64 0, .int .u64 0, .int .u64 0, .int .u64 0, .int .u64 0, .int .u64 0, .int .u64 0, .slice none 0 0, v6]
set_option maxRecDepth 100000 in
theorem mgC_size (h : MH) (v1 v2 v3 v4 v5 v6 : Value) : (mgC h v1 v2 v3 v4 v5 v6).size = 147 := rfl
set_option maxRecDepth 100000 in
set_option maxHeartbeats 2000000 in
theorem mgsame_ms (h : MH) (A1 A2 A3 A4 A5 A6 B1 B2 B3 B4 B5 B6 : Option Addr) (c1 c2 c3 c4 c5 c6 d1 d2 d3 d4 d5 d6 : Nat) (w : World) : Calls Tryd.prog 8 #[.agg (mgC h (.slice A1 0 c1) (.slice A2 0 c2) (.slice A3 0 c3) (.slice A4 0 c4) (.slice A5 0 c5) (.slice A6 0 c6)), .agg (mgC h (.slice B1 0 d1) (.slice B2 0 d2) (.slice B3 0 d3) (.slice B4 0 d4) (.slice B5 0 d5) (.slice B6 0 d6))] w fun e w' => e = .returned (.bool true) ∧ Grew w w' := by
  obtain ⟨ga, hga⟩ : ∃ g : Array Value, (mgC h (.slice A1 0 c1) (.slice A2 0 c2) (.slice A3 0 c3) (.slice A4 0 c4) (.slice A5 0 c5) (.slice A6 0 c6)) = g := ⟨_, rfl⟩
  obtain ⟨gb, hgb⟩ : ∃ g : Array Value, (mgC h (.slice B1 0 d1) (.slice B2 0 d2) (.slice B3 0 d3) (.slice B4 0 d4) (.slice B5 0 d5) (.slice B6 0 d6)) = g := ⟨_, rfl⟩
  have HA : Hid (ga.toList = (mgC h (.slice A1 0 c1) (.slice A2 0 c2) (.slice A3 0 c3) (.slice A4 0 c4) (.slice A5 0 c5) (.slice A6 0 c6) : Array Value).toList) := Lib.hid (by rw [← hga])
  have HB : Hid (gb.toList = (mgC h (.slice B1 0 d1) (.slice B2 0 d2) (.slice B3 0 d3) (.slice B4 0 d4) (.slice B5 0 d5) (.slice B6 0 d6) : Array Value).toList) := Lib.hid (by rw [← hgb])
  rw [hga, hgb]
  clear hga hgb
  have zA := (Ag.new w 55 ga).grew (grew_alloc (grew_refl _) (.cells gb 55))
  have zB := Ag.new (w.alloc (.cells ga 55)) 55 gb
  rw [alloc_size] at zB
  have G := grew_alloc (grew_alloc (grew_refl w) (.cells ga 55)) (.cells gb 55)
  have hu_ak := Tryd.underlying39
  have hu_bl := Tryd.underlying48
  have hu_vo := Tryd.underlying50
  have hu_re := Tryd.underlying42
  have hu_ct := Tryd.underlying37
  have hu_nv := Tryd.underlying52
  have hu_st := Tryd.underlying34
  obtain ⟨ar, har⟩ : ∃ g : Array Value, (cm5 h.a h.b h.c h.d h.e) = g := ⟨_, rfl⟩
  have HAR := Lib.hid har
  have hu_ar := Tryd.underlying24
  have HLR : Hid ((Tryd.prog.info? 24).map (·.size) = some ar.toList.length) := Lib.hid (by rw [← har]; exact mi_cm)
  have ER := mg_cm h.a h.b h.c h.d h.e
  rw [har] at ER
  clear har
  obtain ⟨sa0, hsa0⟩ : ∃ g : Array Value, (stZ) = g := ⟨_, rfl⟩
  obtain ⟨sb0, hsb0⟩ : ∃ g : Array Value, (stZ) = g := ⟨_, rfl⟩
  have SA0 := Lib.hid hsa0
  have SB0 := Lib.hid hsb0
  have CON0 : Hid (∀ W, Calls Tryd.prog 12 #[.agg sa0, .agg sb0] W fun e w' => e = .returned (.bool true) ∧ Grew W w') := Lib.hid (by intro W; rw [← hsa0, ← hsb0]; exact mgsame_st W)
  have LA0 : Hid ((Tryd.prog.info? 34).map (·.size) = some sa0.toList.length) := Lib.hid (by rw [← hsa0]; exact mi_st)
  have LB0 : Hid ((Tryd.prog.info? 34).map (·.size) = some sb0.toList.length) := Lib.hid (by rw [← hsb0]; exact mi_st)
  clear hsa0 hsb0
  obtain ⟨sa1, hsa1⟩ : ∃ g : Array Value, (ctZ (.slice A1 0 c1)) = g := ⟨_, rfl⟩
  obtain ⟨sb1, hsb1⟩ : ∃ g : Array Value, (ctZ (.slice B1 0 d1)) = g := ⟨_, rfl⟩
  have SA1 := Lib.hid hsa1
  have SB1 := Lib.hid hsb1
  have CON1 : Hid (∀ W, Calls Tryd.prog 13 #[.agg sa1, .agg sb1] W fun e w' => e = .returned (.bool true) ∧ Grew W w') := Lib.hid (by intro W; rw [← hsa1, ← hsb1]; exact mgsame_ct A1 B1 c1 d1 W)
  have LA1 : Hid ((Tryd.prog.info? 37).map (·.size) = some sa1.toList.length) := Lib.hid (by rw [← hsa1]; exact mi_ct)
  have LB1 : Hid ((Tryd.prog.info? 37).map (·.size) = some sb1.toList.length) := Lib.hid (by rw [← hsb1]; exact mi_ct)
  clear hsa1 hsb1
  obtain ⟨sa2, hsa2⟩ : ∃ g : Array Value, (akZ) = g := ⟨_, rfl⟩
  obtain ⟨sb2, hsb2⟩ : ∃ g : Array Value, (akZ) = g := ⟨_, rfl⟩
  have SA2 := Lib.hid hsa2
  have SB2 := Lib.hid hsb2
  have CON2 : Hid (∀ W, Calls Tryd.prog 14 #[.agg sa2, .agg sb2] W fun e w' => e = .returned (.bool true) ∧ Grew W w') := Lib.hid (by intro W; rw [← hsa2, ← hsb2]; exact mgsame_ak W)
  have LA2 : Hid ((Tryd.prog.info? 39).map (·.size) = some sa2.toList.length) := Lib.hid (by rw [← hsa2]; exact mi_ak)
  have LB2 : Hid ((Tryd.prog.info? 39).map (·.size) = some sb2.toList.length) := Lib.hid (by rw [← hsb2]; exact mi_ak)
  clear hsa2 hsb2
  obtain ⟨sa3, hsa3⟩ : ∃ g : Array Value, (reZ (.slice A2 0 c2)) = g := ⟨_, rfl⟩
  obtain ⟨sb3, hsb3⟩ : ∃ g : Array Value, (reZ (.slice B2 0 d2)) = g := ⟨_, rfl⟩
  have SA3 := Lib.hid hsa3
  have SB3 := Lib.hid hsb3
  have CON3 : Hid (∀ W, Calls Tryd.prog 15 #[.agg sa3, .agg sb3] W fun e w' => e = .returned (.bool true) ∧ Grew W w') := Lib.hid (by intro W; rw [← hsa3, ← hsb3]; exact mgsame_re A2 B2 c2 d2 W)
  have LA3 : Hid ((Tryd.prog.info? 42).map (·.size) = some sa3.toList.length) := Lib.hid (by rw [← hsa3]; exact mi_re)
  have LB3 : Hid ((Tryd.prog.info? 42).map (·.size) = some sb3.toList.length) := Lib.hid (by rw [← hsb3]; exact mi_re)
  clear hsa3 hsb3
  obtain ⟨sa4, hsa4⟩ : ∃ g : Array Value, (blZ (.slice A3 0 c3) (.slice A4 0 c4)) = g := ⟨_, rfl⟩
  obtain ⟨sb4, hsb4⟩ : ∃ g : Array Value, (blZ (.slice B3 0 d3) (.slice B4 0 d4)) = g := ⟨_, rfl⟩
  have SA4 := Lib.hid hsa4
  have SB4 := Lib.hid hsb4
  have CON4 : Hid (∀ W, Calls Tryd.prog 16 #[.agg sa4, .agg sb4] W fun e w' => e = .returned (.bool true) ∧ Grew W w') := Lib.hid (by intro W; rw [← hsa4, ← hsb4]; exact mgsame_bl A3 B3 A4 B4 c3 d3 c4 d4 W)
  have LA4 : Hid ((Tryd.prog.info? 48).map (·.size) = some sa4.toList.length) := Lib.hid (by rw [← hsa4]; exact mi_bl)
  have LB4 : Hid ((Tryd.prog.info? 48).map (·.size) = some sb4.toList.length) := Lib.hid (by rw [← hsb4]; exact mi_bl)
  clear hsa4 hsb4
  obtain ⟨sa5, hsa5⟩ : ∃ g : Array Value, (voZ) = g := ⟨_, rfl⟩
  obtain ⟨sb5, hsb5⟩ : ∃ g : Array Value, (voZ) = g := ⟨_, rfl⟩
  have SA5 := Lib.hid hsa5
  have SB5 := Lib.hid hsb5
  have CON5 : Hid (∀ W, Calls Tryd.prog 17 #[.agg sa5, .agg sb5] W fun e w' => e = .returned (.bool true) ∧ Grew W w') := Lib.hid (by intro W; rw [← hsa5, ← hsb5]; exact mgsame_vo W)
  have LA5 : Hid ((Tryd.prog.info? 50).map (·.size) = some sa5.toList.length) := Lib.hid (by rw [← hsa5]; exact mi_vo)
  have LB5 : Hid ((Tryd.prog.info? 50).map (·.size) = some sb5.toList.length) := Lib.hid (by rw [← hsb5]; exact mi_vo)
  clear hsa5 hsb5
  obtain ⟨sa6, hsa6⟩ : ∃ g : Array Value, (nvZ (.slice A5 0 c5)) = g := ⟨_, rfl⟩
  obtain ⟨sb6, hsb6⟩ : ∃ g : Array Value, (nvZ (.slice B5 0 d5)) = g := ⟨_, rfl⟩
  have SA6 := Lib.hid hsa6
  have SB6 := Lib.hid hsb6
  have CON6 : Hid (∀ W, Calls Tryd.prog 18 #[.agg sa6, .agg sb6] W fun e w' => e = .returned (.bool true) ∧ Grew W w') := Lib.hid (by intro W; rw [← hsa6, ← hsb6]; exact mgsame_nv A5 B5 c5 d5 W)
  have LA6 : Hid ((Tryd.prog.info? 52).map (·.size) = some sa6.toList.length) := Lib.hid (by rw [← hsa6]; exact mi_nv)
  have LB6 : Hid ((Tryd.prog.info? 52).map (·.size) = some sb6.toList.length) := Lib.hid (by rw [← hsb6]; exact mi_nv)
  clear hsa6 hsb6
  have a0_0 := zA.cell 0 (.int .i64 h.k) (by rw [HA.out]; rfl)
  have b0_0 := zB.cell 0 (.int .i64 h.k) (by rw [HB.out]; rfl)
  simp only [Nat.zero_add] at a0_0 b0_0
  have a0_1 := zA.cell 1 (.int .i64 h.f) (by rw [HA.out]; rfl)
  have b0_1 := zB.cell 1 (.int .i64 h.f) (by rw [HB.out]; rfl)
  simp only [Nat.zero_add] at a0_1 b0_1
  have a0_2 := zA.cell 2 (.int .i64 h.t) (by rw [HA.out]; rfl)
  have b0_2 := zB.cell 2 (.int .i64 h.t) (by rw [HB.out]; rfl)
  simp only [Nat.zero_add] at a0_2 b0_2
  have a0_3 := zA.midOf (vs := ar.toList) 3 5 (by rw [HA.out, ← HAR.out]; rfl)
  have b0_3 := zB.midOf (vs := ar.toList) 3 5 (by rw [HB.out, ← HAR.out]; rfl)
  have a0_4 := zA.midOf (vs := sa0.toList) 8 24 (by rw [HA.out, ← SA0.out]; rfl)
  have b0_4 := zB.midOf (vs := sb0.toList) 8 24 (by rw [HB.out, ← SB0.out]; rfl)
  go_enter Tryd.func8, Tryd.ntmps8
  go_upto_region 1 with fail
  simp only [List.append_eq, List.cons_append, List.nil_append]
  go_wp2_with (first | (refine mgload_want (by rfl) 24 (.tmp 25) rfl w.heap.size 3 rfl ar.toList _ a0_3 hu_ar rfl HLR.out ?_; simp only [Array.toArray_toList]) | (refine mgload_want (by rfl) 24 (.tmp 27) rfl (w.heap.size + 1) 3 rfl ar.toList _ b0_3 hu_ar rfl HLR.out ?_; simp only [Array.toArray_toList]) | (refine mgload_want (by rfl) 34 (.tmp 32) rfl w.heap.size 8 rfl sa0.toList _ a0_4 hu_st rfl LA0.out ?_; simp only [Array.toArray_toList]) | (refine mgload_want (by rfl) 34 (.tmp 34) rfl (w.heap.size + 1) 8 rfl sb0.toList _ b0_4 hu_st rfl LB0.out ?_; simp only [Array.toArray_toList]))
  refine (CON0.out _).mono ?_
  rintro e w0 ⟨rfl, g0⟩
  clear a0_0 b0_0 a0_1 b0_1 a0_2 b0_2 a0_3 b0_3 a0_4 b0_4
  replace zA := zA.grew g0
  replace zB := zB.grew g0
  replace G := grew_trans G g0
  have a1_0 := zA.midOf (vs := sa1.toList) 32 6 (by rw [HA.out, ← SA1.out]; rfl)
  have b1_0 := zB.midOf (vs := sb1.toList) 32 6 (by rw [HB.out, ← SB1.out]; rfl)
  go_wp2_with (first | (refine mgload_want (by rfl) 37 (.tmp 39) rfl w.heap.size 32 rfl sa1.toList _ a1_0 hu_ct rfl LA1.out ?_; simp only [Array.toArray_toList]) | (refine mgload_want (by rfl) 37 (.tmp 41) rfl (w.heap.size + 1) 32 rfl sb1.toList _ b1_0 hu_ct rfl LB1.out ?_; simp only [Array.toArray_toList]))
  refine (CON1.out _).mono ?_
  rintro e w1 ⟨rfl, g1⟩
  clear a1_0 b1_0
  replace zA := zA.grew g1
  replace zB := zB.grew g1
  replace G := grew_trans G g1
  have a2_0 := zA.midOf (vs := sa2.toList) 38 23 (by rw [HA.out, ← SA2.out]; rfl)
  have b2_0 := zB.midOf (vs := sb2.toList) 38 23 (by rw [HB.out, ← SB2.out]; rfl)
  go_wp2_with (first | (refine mgload_want (by rfl) 39 (.tmp 46) rfl w.heap.size 38 rfl sa2.toList _ a2_0 hu_ak rfl LA2.out ?_; simp only [Array.toArray_toList]) | (refine mgload_want (by rfl) 39 (.tmp 48) rfl (w.heap.size + 1) 38 rfl sb2.toList _ b2_0 hu_ak rfl LB2.out ?_; simp only [Array.toArray_toList]))
  refine (CON2.out _).mono ?_
  rintro e w2 ⟨rfl, g2⟩
  clear a2_0 b2_0
  replace zA := zA.grew g2
  replace zB := zB.grew g2
  replace G := grew_trans G g2
  have a3_0 := zA.cell 61 (.int .i64 h.lo) (by rw [HA.out]; rfl)
  have b3_0 := zB.cell 61 (.int .i64 h.lo) (by rw [HB.out]; rfl)
  simp only [Nat.zero_add] at a3_0 b3_0
  have a3_1 := zA.cell 62 (.int .i64 h.hi) (by rw [HA.out]; rfl)
  have b3_1 := zB.cell 62 (.int .i64 h.hi) (by rw [HB.out]; rfl)
  simp only [Nat.zero_add] at a3_1 b3_1
  have a3_2 := zA.midOf (vs := sa3.toList) 63 25 (by rw [HA.out, ← SA3.out]; rfl)
  have b3_2 := zB.midOf (vs := sb3.toList) 63 25 (by rw [HB.out, ← SB3.out]; rfl)
  go_wp2_with (first | (refine mgload_want (by rfl) 42 (.tmp 67) rfl w.heap.size 63 rfl sa3.toList _ a3_2 hu_re rfl LA3.out ?_; simp only [Array.toArray_toList]) | (refine mgload_want (by rfl) 42 (.tmp 69) rfl (w.heap.size + 1) 63 rfl sb3.toList _ b3_2 hu_re rfl LB3.out ?_; simp only [Array.toArray_toList]))
  refine (CON3.out _).mono ?_
  rintro e w3 ⟨rfl, g3⟩
  clear a3_0 b3_0 a3_1 b3_1 a3_2 b3_2
  replace zA := zA.grew g3
  replace zB := zB.grew g3
  replace G := grew_trans G g3
  have a4_0 := zA.midOf (vs := sa4.toList) 88 8 (by rw [HA.out, ← SA4.out]; rfl)
  have b4_0 := zB.midOf (vs := sb4.toList) 88 8 (by rw [HB.out, ← SB4.out]; rfl)
  go_wp2_with (first | (refine mgload_want (by rfl) 48 (.tmp 74) rfl w.heap.size 88 rfl sa4.toList _ a4_0 hu_bl rfl LA4.out ?_; simp only [Array.toArray_toList]) | (refine mgload_want (by rfl) 48 (.tmp 76) rfl (w.heap.size + 1) 88 rfl sb4.toList _ b4_0 hu_bl rfl LB4.out ?_; simp only [Array.toArray_toList]))
  refine (CON4.out _).mono ?_
  rintro e w4 ⟨rfl, g4⟩
  clear a4_0 b4_0
  replace zA := zA.grew g4
  replace zB := zB.grew g4
  replace G := grew_trans G g4
  have a5_0 := zA.midOf (vs := sa5.toList) 96 24 (by rw [HA.out, ← SA5.out]; rfl)
  have b5_0 := zB.midOf (vs := sb5.toList) 96 24 (by rw [HB.out, ← SB5.out]; rfl)
  go_wp2_with (first | (refine mgload_want (by rfl) 50 (.tmp 81) rfl w.heap.size 96 rfl sa5.toList _ a5_0 hu_vo rfl LA5.out ?_; simp only [Array.toArray_toList]) | (refine mgload_want (by rfl) 50 (.tmp 83) rfl (w.heap.size + 1) 96 rfl sb5.toList _ b5_0 hu_vo rfl LB5.out ?_; simp only [Array.toArray_toList]))
  refine (CON5.out _).mono ?_
  rintro e w5 ⟨rfl, g5⟩
  clear a5_0 b5_0
  replace zA := zA.grew g5
  replace zB := zB.grew g5
  replace G := grew_trans G g5
  have a6_0 := zA.midOf (vs := sa6.toList) 120 26 (by rw [HA.out, ← SA6.out]; rfl)
  have b6_0 := zB.midOf (vs := sb6.toList) 120 26 (by rw [HB.out, ← SB6.out]; rfl)
  go_wp2_with (first | (refine mgload_want (by rfl) 52 (.tmp 88) rfl w.heap.size 120 rfl sa6.toList _ a6_0 hu_nv rfl LA6.out ?_; simp only [Array.toArray_toList]) | (refine mgload_want (by rfl) 52 (.tmp 90) rfl (w.heap.size + 1) 120 rfl sb6.toList _ b6_0 hu_nv rfl LB6.out ?_; simp only [Array.toArray_toList]))
  refine (CON6.out _).mono ?_
  rintro e w6 ⟨rfl, g6⟩
  clear a6_0 b6_0
  replace zA := zA.grew g6
  replace zB := zB.grew g6
  replace G := grew_trans G g6
  have a7_0 := zA.cell 146 (.slice A6 0 c6) (by rw [HA.out]; rfl)
  have b7_0 := zB.cell 146 (.slice B6 0 d6) (by rw [HB.out]; rfl)
  simp only [Nat.zero_add] at a7_0 b7_0
  go_wp2_with fail
  refine (mgsml_bl A6 B6 c6 d6 _).mono ?_
  rintro e w7 ⟨rfl, g7⟩
  clear a7_0 b7_0
  replace zA := zA.grew g7
  replace zB := zB.grew g7
  replace G := grew_trans G g7
  go_wp2_with fail
  go_ret
  exact ⟨rfl, G⟩
set_option maxRecDepth 100000 in
set_option maxHeartbeats 2000000 in
theorem mgdiff_ms (h h' : MH) (u1 u2 u3 u4 u5 u6 v1 v2 v3 v4 v5 v6 : Value) (hk : h'.k = h.k) (hf : h'.f = h.f) (ht : h.t ≠ h'.t) (w : World) : Calls Tryd.prog 8 #[.agg (mgC h u1 u2 u3 u4 u5 u6), .agg (mgC h' v1 v2 v3 v4 v5 v6)] w fun e w' => e = .returned (.bool false) ∧ Grew w w' := by
  have et : (h.t == h'.t) = false := by simpa using ht
  obtain ⟨ga, hga⟩ : ∃ g : Array Value, mgC h u1 u2 u3 u4 u5 u6 = g := ⟨_, rfl⟩
  obtain ⟨gb, hgb⟩ : ∃ g : Array Value, mgC h' v1 v2 v3 v4 v5 v6 = g := ⟨_, rfl⟩
  have zA := (Ag.new w 55 ga).grew (grew_alloc (grew_refl _) (.cells gb 55))
  have zB := Ag.new (w.alloc (.cells ga 55)) 55 gb
  rw [alloc_size] at zB
  have G := grew_alloc (grew_alloc (grew_refl w) (.cells ga 55)) (.cells gb 55)
  have a0 := zA.cell 0 (.int .i64 h.k) (by rw [← hga]; rfl)
  have a1 := zA.cell 1 (.int .i64 h.f) (by rw [← hga]; rfl)
  have a2 := zA.cell 2 (.int .i64 h.t) (by rw [← hga]; rfl)
  have b0 := zB.cell 0 (.int .i64 h.k) (by rw [← hgb, ← hk]; rfl)
  have b1 := zB.cell 1 (.int .i64 h.f) (by rw [← hgb, ← hf]; rfl)
  have b2 := zB.cell 2 (.int .i64 h'.t) (by rw [← hgb]; rfl)
  simp only [Nat.zero_add] at a0 a1 a2 b0 b1 b2
  rw [hga, hgb]
  clear hga hgb zA zB hk hf ht
  generalize h.k = k at *
  generalize h.f = f at *
  generalize h.t = t at *
  generalize h'.t = t' at *
  go_enter Tryd.func8, Tryd.ntmps8
  go_wp2_with fail
  go_ret
  exact ⟨rfl, G⟩
set_option maxRecDepth 100000 in
set_option maxHeartbeats 1000000 in
theorem mgcheck_ok (h : MH) (v1 v2 v3 v4 v5 : Value) (A : Option Addr) (m c : Nat) (n : Int) (h1 : 1 ≤ h.k ∧ h.k ≤ 9) (h2 : 0 ≤ h.f ∧ h.f ≤ n) (h3 : 0 ≤ h.t ∧ h.t ≤ n) (hm : m ≤ 256) (w : World) : Calls Tryd.prog 7 #[.agg (mgC h v1 v2 v3 v4 v5 (.slice A m c)), .int .i64 n] w fun e w' => e = .returned (.int .i64 0) ∧ Grew w w' := by
  have e0 : decide (h.k < 1) = false := decide_eq_false (by omega)
  have e1 : decide (9 < h.k) = false := decide_eq_false (by omega)
  have e2 : decide (h.f < 0) = false := decide_eq_false (by omega)
  have e3 : decide (n < h.f) = false := decide_eq_false (by omega)
  have e4 : decide (h.t < 0) = false := decide_eq_false (by omega)
  have e5 : decide (n < h.t) = false := decide_eq_false (by omega)
  have e6 : decide ((256 : Int) < (m : Int)) = false := decide_eq_false (by omega)
  obtain ⟨ga, hga⟩ : ∃ g : Array Value, mgC h v1 v2 v3 v4 v5 (.slice A m c) = g := ⟨_, rfl⟩
  have zA := Ag.new w 55 ga
  have G := grew_alloc (grew_refl w) (.cells ga 55)
  have a0 := zA.cell 0 (.int .i64 h.k) (by rw [← hga]; rfl)
  have a1 := zA.cell 1 (.int .i64 h.f) (by rw [← hga]; rfl)
  have a2 := zA.cell 2 (.int .i64 h.t) (by rw [← hga]; rfl)
  have a3 := zA.cell 146 (.slice A m c) (by rw [← hga]; rfl)
  simp only [Nat.zero_add] at a0 a1 a2 a3
  rw [hga]
  clear hga zA
  generalize h.k = k at *
  generalize h.f = f at *
  generalize h.t = t at *
  go_enter Tryd.func7, Tryd.ntmps7
  go_wp2_with fail
  go_ret
  exact ⟨rfl, G⟩
set_option maxRecDepth 100000 in
set_option maxHeartbeats 1000000 in
theorem mgcheck_long (h : MH) (v1 v2 v3 v4 v5 : Value) (A : Option Addr) (m c : Nat) (n : Int) (h1 : 1 ≤ h.k ∧ h.k ≤ 9) (h2 : 0 ≤ h.f ∧ h.f ≤ n) (h3 : 0 ≤ h.t ∧ h.t ≤ n) (hm : 256 < m) (w : World) : Calls Tryd.prog 7 #[.agg (mgC h v1 v2 v3 v4 v5 (.slice A m c)), .int .i64 n] w fun e w' => e = .returned (.int .i64 4) ∧ Grew w w' := by
  have e0 : decide (h.k < 1) = false := decide_eq_false (by omega)
  have e1 : decide (9 < h.k) = false := decide_eq_false (by omega)
  have e2 : decide (h.f < 0) = false := decide_eq_false (by omega)
  have e3 : decide (n < h.f) = false := decide_eq_false (by omega)
  have e4 : decide (h.t < 0) = false := decide_eq_false (by omega)
  have e5 : decide (n < h.t) = false := decide_eq_false (by omega)
  have e6 : decide ((256 : Int) < (m : Int)) = true := decide_eq_true (by omega)
  obtain ⟨ga, hga⟩ : ∃ g : Array Value, mgC h v1 v2 v3 v4 v5 (.slice A m c) = g := ⟨_, rfl⟩
  have zA := Ag.new w 55 ga
  have G := grew_alloc (grew_refl w) (.cells ga 55)
  have a0 := zA.cell 0 (.int .i64 h.k) (by rw [← hga]; rfl)
  have a1 := zA.cell 1 (.int .i64 h.f) (by rw [← hga]; rfl)
  have a2 := zA.cell 2 (.int .i64 h.t) (by rw [← hga]; rfl)
  have a3 := zA.cell 146 (.slice A m c) (by rw [← hga]; rfl)
  simp only [Nat.zero_add] at a0 a1 a2 a3
  rw [hga]
  clear hga zA
  generalize h.k = k at *
  generalize h.f = f at *
  generalize h.t = t at *
  go_enter Tryd.func7, Tryd.ntmps7
  go_wp2_with fail
  go_ret
  exact ⟨rfl, G⟩
set_option maxRecDepth 100000 in
set_option maxHeartbeats 1000000 in
theorem mgcheck_from (h : MH) (v1 v2 v3 v4 v5 : Value) (A : Option Addr) (m c : Nat) (n : Int) (h1 : 1 ≤ h.k ∧ h.k ≤ 9) (h2 : 0 ≤ h.f ∧ n < h.f) (w : World) : Calls Tryd.prog 7 #[.agg (mgC h v1 v2 v3 v4 v5 (.slice A m c)), .int .i64 n] w fun e w' => e = .returned (.int .i64 1) ∧ Grew w w' := by
  have e0 : decide (h.k < 1) = false := decide_eq_false (by omega)
  have e1 : decide (9 < h.k) = false := decide_eq_false (by omega)
  have e2 : decide (h.f < 0) = false := decide_eq_false (by omega)
  have e3 : decide (n < h.f) = true := decide_eq_true (by omega)
  obtain ⟨ga, hga⟩ : ∃ g : Array Value, mgC h v1 v2 v3 v4 v5 (.slice A m c) = g := ⟨_, rfl⟩
  have zA := Ag.new w 55 ga
  have G := grew_alloc (grew_refl w) (.cells ga 55)
  have a0 := zA.cell 0 (.int .i64 h.k) (by rw [← hga]; rfl)
  have a1 := zA.cell 1 (.int .i64 h.f) (by rw [← hga]; rfl)
  have a2 := zA.cell 2 (.int .i64 h.t) (by rw [← hga]; rfl)
  have a3 := zA.cell 146 (.slice A m c) (by rw [← hga]; rfl)
  simp only [Nat.zero_add] at a0 a1 a2 a3
  rw [hga]
  clear hga zA
  generalize h.k = k at *
  generalize h.f = f at *
  generalize h.t = t at *
  go_enter Tryd.func7, Tryd.ntmps7
  go_wp2_with fail
  go_ret
  exact ⟨rfl, G⟩
set_option maxRecDepth 100000 in
set_option maxHeartbeats 1000000 in
theorem mgcheck_kind (h : MH) (v1 v2 v3 v4 v5 : Value) (A : Option Addr) (m c : Nat) (n : Int) (h1 : 9 < h.k) (w : World) : Calls Tryd.prog 7 #[.agg (mgC h v1 v2 v3 v4 v5 (.slice A m c)), .int .i64 n] w fun e w' => e = .returned (.int .i64 1) ∧ Grew w w' := by
  have e0 : decide (h.k < 1) = false := decide_eq_false (by omega)
  have e1 : decide (9 < h.k) = true := decide_eq_true (by omega)
  obtain ⟨ga, hga⟩ : ∃ g : Array Value, mgC h v1 v2 v3 v4 v5 (.slice A m c) = g := ⟨_, rfl⟩
  have zA := Ag.new w 55 ga
  have G := grew_alloc (grew_refl w) (.cells ga 55)
  have a0 := zA.cell 0 (.int .i64 h.k) (by rw [← hga]; rfl)
  have a1 := zA.cell 1 (.int .i64 h.f) (by rw [← hga]; rfl)
  have a2 := zA.cell 2 (.int .i64 h.t) (by rw [← hga]; rfl)
  have a3 := zA.cell 146 (.slice A m c) (by rw [← hga]; rfl)
  simp only [Nat.zero_add] at a0 a1 a2 a3
  rw [hga]
  clear hga zA
  generalize h.k = k at *
  generalize h.f = f at *
  generalize h.t = t at *
  go_enter Tryd.func7, Tryd.ntmps7
  go_wp2_with fail
  go_ret
  exact ⟨rfl, G⟩
def w9L : List ByteArray := [⟨#[97, 115, 107]⟩, ⟨#[115, 116, 97, 109, 112, 101, 100]⟩, ⟨#[99, 101, 114, 116, 105, 102, 121]⟩, ⟨#[97, 99, 107, 101, 100]⟩, ⟨#[99, 108, 111, 115, 101]⟩, ⟨#[99, 108, 111, 115, 101, 100]⟩, ⟨#[112, 114, 111, 112, 111, 115, 101]⟩, ⟨#[118, 111, 116, 101, 100]⟩, ⟨#[110, 101, 120, 116]⟩]
/-- the word of a kind -/
def w9 (m : Nat) : ByteArray := w9L.getD m ⟨#[]⟩
def wordS (k : Int) : ByteArray := if 1 ≤ k ∧ k ≤ 9 then w9 (k - 1).toNat else ⟨#[]⟩
theorem w9_cell (W : World) (m : Nat) (hm : m < 9) : (W.alloc (.cells #[.string ⟨#[97, 115, 107]⟩, .string ⟨#[115, 116, 97, 109, 112, 101, 100]⟩, .string ⟨#[99, 101, 114, 116, 105, 102, 121]⟩, .string ⟨#[97, 99, 107, 101, 100]⟩, .string ⟨#[99, 108, 111, 115, 101]⟩, .string ⟨#[99, 108, 111, 115, 101, 100]⟩, .string ⟨#[112, 114, 111, 112, 111, 115, 101]⟩, .string ⟨#[118, 111, 116, 101, 100]⟩, .string ⟨#[110, 101, 120, 116]⟩] 9)).cell? ((⟨W.heap.size, 0, none⟩ : Addr).add m) = some (.string (w9 m)) := by
  rw [show (⟨W.heap.size, 0, none⟩ : Addr).add m = ⟨W.heap.size, m, none⟩ from by unfold Addr.add; split <;> simp_all]
  have h := (Ag.new W 9 #[.string ⟨#[97, 115, 107]⟩, .string ⟨#[115, 116, 97, 109, 112, 101, 100]⟩, .string ⟨#[99, 101, 114, 116, 105, 102, 121]⟩, .string ⟨#[97, 99, 107, 101, 100]⟩, .string ⟨#[99, 108, 111, 115, 101]⟩, .string ⟨#[99, 108, 111, 115, 101, 100]⟩, .string ⟨#[112, 114, 111, 112, 111, 115, 101]⟩, .string ⟨#[118, 111, 116, 101, 100]⟩, .string ⟨#[110, 101, 120, 116]⟩]).cell m (.string (w9 m)) (by
    have : m = 0 ∨ m = 1 ∨ m = 2 ∨ m = 3 ∨ m = 4 ∨ m = 5 ∨ m = 6 ∨ m = 7 ∨ m = 8 := by omega
    rcases this with rfl | rfl | rfl | rfl | rfl | rfl | rfl | rfl | rfl <;> rfl)
  simpa using h
theorem w9_get (m : Nat) (hm : m < 9) : ([.string ⟨#[97, 115, 107]⟩, .string ⟨#[115, 116, 97, 109, 112, 101, 100]⟩, .string ⟨#[99, 101, 114, 116, 105, 102, 121]⟩, .string ⟨#[97, 99, 107, 101, 100]⟩, .string ⟨#[99, 108, 111, 115, 101]⟩, .string ⟨#[99, 108, 111, 115, 101, 100]⟩, .string ⟨#[112, 114, 111, 112, 111, 115, 101]⟩, .string ⟨#[118, 111, 116, 101, 100]⟩, .string ⟨#[110, 101, 120, 116]⟩] : List Value)[m]'hm = .string (w9 m) := by
  have : m = 0 ∨ m = 1 ∨ m = 2 ∨ m = 3 ∨ m = 4 ∨ m = 5 ∨ m = 6 ∨ m = 7 ∨ m = 8 := by omega
  rcases this with rfl | rfl | rfl | rfl | rfl | rfl | rfl | rfl | rfl <;> rfl
set_option maxRecDepth 100000 in
theorem word_ok (k : Int) (w : World) : Calls Tryd.prog 10 #[.int .i64 k] w fun e w' => e = .returned (.string (wordS k)) ∧ Grew w w' := by
  by_cases h1 : 1 ≤ k ∧ k ≤ 9
  · obtain ⟨m, rfl⟩ : ∃ m : Nat, k = (m : Int) + 1 := ⟨(k - 1).toNat, by omega⟩
    have hm : m < 9 := by omega
    have hL := w9_get m hm
    have e1 : decide ((m : Int) + 1 < 1) = false := decide_eq_false (by omega)
    have e2 : decide (9 < (m : Int) + 1) = false := decide_eq_false (by omega)
    have e3 : IntKind.i64.wrap ((m : Int) + 1 - 1) = (m : Int) := by rw [show (m : Int) + 1 - 1 = (m : Int) by omega]; exact IntWalk.i64_in _ (by omega)
    have e4 : (m : Int) + 1 - 1 = (m : Int) := by omega
    have hm0 : (0 : Int) ≤ (m : Int) := by omega
    have hm9 : (m : Int) < 9 := by omega
    rw [show wordS ((m : Int) + 1) = w9 m from by unfold wordS; rw [if_pos h1, e4, Int.toNat_natCast]]
    generalize w9 m = s at *
    clear h1
    go_enter Tryd.func10, Tryd.ntmps10
    go_wp2_with fail
    go_ret
    exact ⟨rfl, grew_alloc (grew_refl _) _⟩
  · rw [show wordS k = ⟨#[]⟩ from if_neg h1]
    by_cases h2 : k < 1
    · have e1 : decide (k < 1) = true := decide_eq_true h2
      clear h1 h2
      go_enter Tryd.func10, Tryd.ntmps10
      go_wp2_with fail
      go_ret
      exact ⟨rfl, grew_alloc (grew_refl _) _⟩
    · have e1 : decide (k < 1) = false := decide_eq_false h2
      have e2 : decide (9 < k) = true := decide_eq_true (by omega)
      clear h1 h2
      go_enter Tryd.func10, Tryd.ntmps10
      go_wp2_with fail
      go_ret
      exact ⟨rfl, grew_alloc (grew_refl _) _⟩
end Go.Proofs.YtfnkcahnkccekaaDoor
