/- A message copied; sent to all (mkmge.py). -/
import Derived.Test.YtfnkcahnkccekaaDoorMgD
namespace Go.Proofs.YtfnkcahnkccekaaDoor
open Go.RowKit
set_option linter.unusedVariables false
set_option linter.unusedSimpArgs false
set_option maxRecDepth 100000 in
theorem mi_mg (h : MH) (v1 v2 v3 v4 v5 v6 : Value) : (Tryd.prog.info? 55).map (·.size) = some (mgC h v1 v2 v3 v4 v5 v6).toList.length := mi_ms
theorem mgC_one (h : MH) (A1 A2 A3 A4 A5 A6 : Option Addr) (n1 n2 n3 n4 n5 n6 c1 c2 c3 c4 c5 c6 : Nat) : (mgC h (.slice A1 n1 c1) (.slice A2 n2 c2) (.slice A3 n3 c3) (.slice A4 n4 c4) (.slice A5 n5 c5) (.slice A6 n6 c6)).all (·.oneCell') = true := by simp [mgC, Value.oneCell']
theorem mg_zero (W : World) : (zeroValue 55).run Tryd.prog W = .ok (.agg (#[.int .i64 0, .int .i64 0, .int .i64 0, .int .i64 0, .int .i64 0, .int .i64 0, .int .i64 0, .int .i64 0, .int .u64 0, .int .i64 0, .int .i64 0, .int .i64 0, .int .i64 0, .int .u64 0, .int .u64 0, .int .u64 0, .int .u64 0, .int .u64 0, .int .u64 0, .int .u64 0, .int .u64 0, .int .u64 0, .int .u64 0, .int .u64 0, .int .u64 0, .int .u64 0, .int .u64 0, .int .u64 0, .int .u64 0, .int .u64 0, .int .u64 0, .slice none 0 0, .int .i64 0, .int .i64 0, .int .i64 0, .int .i64 0, .int .i64 0, .slice none 0 0, .int .u64 0, .int .i64 0, .int .i64 0, .int .i64 0, .int .u64 0, .int .u64 0, .int .u64 0, .int .u64 0, .int .u64 0, .int .u64 0, .int .u64 0, .int .u64 0, .int .u64 0, .int .u64 0, .int .u64 0, .int .u64 0, .int .u64 0, .int .u64 0, .int .u64 0, .int .u64 0, .int .u64 0, .int .u64 0, .slice none 0 0, .int .i64 0, .int .i64 0, .int .i64 0, .int .i64 0, .int .i64 0, .slice none 0 0, .int .i64 0, .int .i64 0, .int .u64 0, .int .u64 0, .int .u64 0, .int .u64 0, .int .u64 0, .int .u64 0, .int .u64 0, .int .u64 0, .int .u64 0, .int .u64 0, .int .u64 0, .int .u64 0, .int .u64 0, .int .u64 0, .int .u64 0, .int .u64 0, .int .u64 0, .int .u64 0, .slice none 0 0, .int .i64 0, .int .u64 0, .int .i64 0, .int .u64 0, .slice none 0 0, .int .i64 0, .int .i64 0, .slice none 0 0, .int .i64 0, .int .u64 0, .int .i64 0, .int .i64 0, .int .i64 0, .int .u64 0, .int .u64 0, .int .u64 0, .int .u64 0, .int .u64 0, .int .u64 0, .int .u64 0, .int .u64 0, .int .u64 0, .int .u64 0, .int .u64 0, .int .u64 0, .int .u64 0, .int .u64 0, .int .u64 0, .int .u64 0, .int .u64 0, .int .u64 0, .slice none 0 0, .int .i64 0, .int .i64 0, .int .i64 0, .int .u64 0, .slice none 0 0, .int .i64 0, .int .i64 0, .int .u64 0, .int .u64 0, .int .u64 0, .int .u64 0, .int .u64 0, .int .u64 0, .int .u64 0, .int .u64 0, .int .u64 0, .int .u64 0, .int .u64 0, .int .u64 0, .int .u64 0, .int .u64 0, .int .u64 0, .int .u64 0, .int .u64 0, .int .u64 0, .slice none 0 0, .slice none 0 0] : Array Value)) W := by kernel_rfl
theorem Ag.mid_set {w : World} {b : Nat} {g g' s' : Array Value} (h : Ag w b g.toList) (o : Nat) (ho : o + s'.size ≤ g.size) (e : g.toList.take o ++ s'.toList ++ g.toList.drop (o + s'.size) = g'.toList) : Ag (w.setCells b o s'.toList) b g'.toList := by
  have := h.setMid o s'.toList (by simpa using ho)
  rwa [show s'.toList.length = s'.size from by simp, e] at this
theorem Ag.cell_set {w : World} {b : Nat} {g g' : Array Value} {v : Value} (h : Ag w b g.toList) (o : Nat) (ho : o + 1 ≤ g.size) (e : g.toList.take o ++ [v] ++ g.toList.drop (o + 1) = g'.toList) : Ag (w.setCell ⟨b, o, none⟩ v) b g'.toList := by
  have := h.setMid o [v] (by simpa using ho)
  rwa [show [v].length = 1 from rfl, e] at this
set_option maxRecDepth 100000 in
set_option maxHeartbeats 4000000 in
theorem mgcopied (h : MH) (w : World) : Calls Tryd.prog 11 #[.agg (mgC h (.slice none 0 0) (.slice none 0 0) (.slice none 0 0) (.slice none 0 0) (.slice none 0 0) (.slice none 0 0))] w fun e w' => (∃ b1 b2 b3 b4 b5 b6, e = .returned (.agg (mgC h (.slice (some ⟨b1, 0, none⟩) 0 0) (.slice (some ⟨b2, 0, none⟩) 0 0) (.slice (some ⟨b3, 0, none⟩) 0 0) (.slice (some ⟨b4, 0, none⟩) 0 0) (.slice (some ⟨b5, 0, none⟩) 0 0) (.slice (some ⟨b6, 0, none⟩) 0 0)))) ∧ Grew w w' := by
  obtain ⟨g0, hg0⟩ : ∃ g : Array Value, mgC h (.slice none 0 0) (.slice none 0 0) (.slice none 0 0) (.slice none 0 0) (.slice none 0 0) (.slice none 0 0) = g := ⟨_, rfl⟩
  have HG0 := Lib.hid hg0
  rw [hg0]
  clear hg0
  have z1 := (Ag.new w 55 g0).grew (grew_alloc (grew_refl _) (.cells (#[.int .i64 0, .int .i64 0, .int .i64 0, .int .i64 0, .int .i64 0, .int .i64 0, .int .i64 0, .int .i64 0, .int .u64 0, .int .i64 0, .int .i64 0, .int .i64 0, .int .i64 0, .int .u64 0, .int .u64 0, .int .u64 0, .int .u64 0, .int .u64 0, .int .u64 0, .int .u64 0, .int .u64 0, .int .u64 0, .int .u64 0, .int .u64 0, .int .u64 0, .int .u64 0, .int .u64 0, .int .u64 0, .int .u64 0, .int .u64 0, .int .u64 0, .slice none 0 0, .int .i64 0, .int .i64 0, .int .i64 0, .int .i64 0, .int .i64 0, .slice none 0 0, .int .u64 0, .int .i64 0, .int .i64 0, .int .i64 0, .int .u64 0, .int .u64 0, .int .u64 0, .int .u64 0, .int .u64 0, .int .u64 0, .int .u64 0, .int .u64 0, .int .u64 0, .int .u64 0, .int .u64 0, .int .u64 0, .int .u64 0, .int .u64 0, .int .u64 0, .int .u64 0, .int .u64 0, .int .u64 0, .slice none 0 0, .int .i64 0, .int .i64 0, .int .i64 0, .int .i64 0, .int .i64 0, .slice none 0 0, .int .i64 0, .int .i64 0, .int .u64 0, .int .u64 0, .int .u64 0, .int .u64 0, .int .u64 0, .int .u64 0, .int .u64 0, .int .u64 0, .int .u64 0, .int .u64 0, .int .u64 0, .int .u64 0, .int .u64 0, .int .u64 0, .int .u64 0, .int .u64 0, .int .u64 0, .int .u64 0, .slice none 0 0, .int .i64 0, .int .u64 0, .int .i64 0, .int .u64 0, .slice none 0 0, .int .i64 0, .int .i64 0, .slice none 0 0, .int .i64 0, .int .u64 0, .int .i64 0, .int .i64 0, .int .i64 0, .int .u64 0, .int .u64 0, .int .u64 0, .int .u64 0, .int .u64 0, .int .u64 0, .int .u64 0, .int .u64 0, .int .u64 0, .int .u64 0, .int .u64 0, .int .u64 0, .int .u64 0, .int .u64 0, .int .u64 0, .int .u64 0, .int .u64 0, .int .u64 0, .slice none 0 0, .int .i64 0, .int .i64 0, .int .i64 0, .int .u64 0, .slice none 0 0, .int .i64 0, .int .i64 0, .int .u64 0, .int .u64 0, .int .u64 0, .int .u64 0, .int .u64 0, .int .u64 0, .int .u64 0, .int .u64 0, .int .u64 0, .int .u64 0, .int .u64 0, .int .u64 0, .int .u64 0, .int .u64 0, .int .u64 0, .int .u64 0, .int .u64 0, .int .u64 0, .slice none 0 0, .slice none 0 0] : Array Value) 55))
  have z2 := Ag.new (w.alloc (.cells g0 55)) 55 (#[.int .i64 0, .int .i64 0, .int .i64 0, .int .i64 0, .int .i64 0, .int .i64 0, .int .i64 0, .int .i64 0, .int .u64 0, .int .i64 0, .int .i64 0, .int .i64 0, .int .i64 0, .int .u64 0, .int .u64 0, .int .u64 0, .int .u64 0, .int .u64 0, .int .u64 0, .int .u64 0, .int .u64 0, .int .u64 0, .int .u64 0, .int .u64 0, .int .u64 0, .int .u64 0, .int .u64 0, .int .u64 0, .int .u64 0, .int .u64 0, .int .u64 0, .slice none 0 0, .int .i64 0, .int .i64 0, .int .i64 0, .int .i64 0, .int .i64 0, .slice none 0 0, .int .u64 0, .int .i64 0, .int .i64 0, .int .i64 0, .int .u64 0, .int .u64 0, .int .u64 0, .int .u64 0, .int .u64 0, .int .u64 0, .int .u64 0, .int .u64 0, .int .u64 0, .int .u64 0, .int .u64 0, .int .u64 0, .int .u64 0, .int .u64 0, .int .u64 0, .int .u64 0, .int .u64 0, .int .u64 0, .slice none 0 0, .int .i64 0, .int .i64 0, .int .i64 0, .int .i64 0, .int .i64 0, .slice none 0 0, .int .i64 0, .int .i64 0, .int .u64 0, .int .u64 0, .int .u64 0, .int .u64 0, .int .u64 0, .int .u64 0, .int .u64 0, .int .u64 0, .int .u64 0, .int .u64 0, .int .u64 0, .int .u64 0, .int .u64 0, .int .u64 0, .int .u64 0, .int .u64 0, .int .u64 0, .int .u64 0, .slice none 0 0, .int .i64 0, .int .u64 0, .int .i64 0, .int .u64 0, .slice none 0 0, .int .i64 0, .int .i64 0, .slice none 0 0, .int .i64 0, .int .u64 0, .int .i64 0, .int .i64 0, .int .i64 0, .int .u64 0, .int .u64 0, .int .u64 0, .int .u64 0, .int .u64 0, .int .u64 0, .int .u64 0, .int .u64 0, .int .u64 0, .int .u64 0, .int .u64 0, .int .u64 0, .int .u64 0, .int .u64 0, .int .u64 0, .int .u64 0, .int .u64 0, .int .u64 0, .slice none 0 0, .int .i64 0, .int .i64 0, .int .i64 0, .int .u64 0, .slice none 0 0, .int .i64 0, .int .i64 0, .int .u64 0, .int .u64 0, .int .u64 0, .int .u64 0, .int .u64 0, .int .u64 0, .int .u64 0, .int .u64 0, .int .u64 0, .int .u64 0, .int .u64 0, .int .u64 0, .int .u64 0, .int .u64 0, .int .u64 0, .int .u64 0, .int .u64 0, .int .u64 0, .slice none 0 0, .slice none 0 0] : Array Value)
  rw [alloc_size] at z2
  have G := grew_alloc (grew_alloc (grew_refl w) (.cells g0 55)) (.cells (#[.int .i64 0, .int .i64 0, .int .i64 0, .int .i64 0, .int .i64 0, .int .i64 0, .int .i64 0, .int .i64 0, .int .u64 0, .int .i64 0, .int .i64 0, .int .i64 0, .int .i64 0, .int .u64 0, .int .u64 0, .int .u64 0, .int .u64 0, .int .u64 0, .int .u64 0, .int .u64 0, .int .u64 0, .int .u64 0, .int .u64 0, .int .u64 0, .int .u64 0, .int .u64 0, .int .u64 0, .int .u64 0, .int .u64 0, .int .u64 0, .int .u64 0, .slice none 0 0, .int .i64 0, .int .i64 0, .int .i64 0, .int .i64 0, .int .i64 0, .slice none 0 0, .int .u64 0, .int .i64 0, .int .i64 0, .int .i64 0, .int .u64 0, .int .u64 0, .int .u64 0, .int .u64 0, .int .u64 0, .int .u64 0, .int .u64 0, .int .u64 0, .int .u64 0, .int .u64 0, .int .u64 0, .int .u64 0, .int .u64 0, .int .u64 0, .int .u64 0, .int .u64 0, .int .u64 0, .int .u64 0, .slice none 0 0, .int .i64 0, .int .i64 0, .int .i64 0, .int .i64 0, .int .i64 0, .slice none 0 0, .int .i64 0, .int .i64 0, .int .u64 0, .int .u64 0, .int .u64 0, .int .u64 0, .int .u64 0, .int .u64 0, .int .u64 0, .int .u64 0, .int .u64 0, .int .u64 0, .int .u64 0, .int .u64 0, .int .u64 0, .int .u64 0, .int .u64 0, .int .u64 0, .int .u64 0, .int .u64 0, .slice none 0 0, .int .i64 0, .int .u64 0, .int .i64 0, .int .u64 0, .slice none 0 0, .int .i64 0, .int .i64 0, .slice none 0 0, .int .i64 0, .int .u64 0, .int .i64 0, .int .i64 0, .int .i64 0, .int .u64 0, .int .u64 0, .int .u64 0, .int .u64 0, .int .u64 0, .int .u64 0, .int .u64 0, .int .u64 0, .int .u64 0, .int .u64 0, .int .u64 0, .int .u64 0, .int .u64 0, .int .u64 0, .int .u64 0, .int .u64 0, .int .u64 0, .int .u64 0, .slice none 0 0, .int .i64 0, .int .i64 0, .int .i64 0, .int .u64 0, .slice none 0 0, .int .i64 0, .int .i64 0, .int .u64 0, .int .u64 0, .int .u64 0, .int .u64 0, .int .u64 0, .int .u64 0, .int .u64 0, .int .u64 0, .int .u64 0, .int .u64 0, .int .u64 0, .int .u64 0, .int .u64 0, .int .u64 0, .int .u64 0, .int .u64 0, .int .u64 0, .int .u64 0, .slice none 0 0, .slice none 0 0] : Array Value) 55)
  have hut := Tryd.underlying55
  have ezr := mg_zero
  have hu_bl := Tryd.underlying48
  have hu_qc := Tryd.underlying45
  have hu_vo := Tryd.underlying50
  have hu_re := Tryd.underlying42
  have hu_sg := Tryd.underlying32
  have hu_ct := Tryd.underlying37
  have hu_st := Tryd.underlying34
  obtain ⟨s0, hs0⟩ : ∃ g : Array Value, (stZ) = g := ⟨_, rfl⟩
  have HS0 := Lib.hid hs0
  have hm0 := z1.midOf (vs := s0.toList) 8 24 (by rw [← HG0.out, ← HS0.out]; rfl)
  have HL0 : Hid ((Tryd.prog.info? 34).map (·.size) = some s0.toList.length) := Lib.hid (by rw [← hs0]; exact mi_st)
  have CON0 := Lib.hid mgcp_st
  rw [hs0] at CON0
  clear hs0
  go_enter Tryd.func11, Tryd.ntmps11
  go_wp2_with (first | (with_reducible refine wpList_load_mid rfl 34 (.tmp 3) rfl w.heap.size 8 rfl s0.toList _ hm0 hu_st rfl HL0.out ?_; simp only [Array.toArray_toList]))
  refine (CON0.out _).mono ?_
  rintro e w0 ⟨rfl, g_0⟩
  clear hm0 HL0 CON0
  replace z1 := z1.grew g_0
  replace z2 := z2.grew g_0
  replace G := grew_trans G g_0
  clear g_0
  obtain ⟨g1, hg1⟩ : ∃ g : Array Value, mgC h (.slice none 0 0) (.slice none 0 0) (.slice none 0 0) (.slice none 0 0) (.slice none 0 0) (.slice none 0 0) = g := ⟨_, rfl⟩
  have HG1 := Lib.hid hg1
  clear hg1
  have ZS0 : Hid (s0.size = 24) := Lib.hid (by rw [← HS0.out]; rfl)
  have TH0 : Hid (w0.there w.heap.size 8 s0.size) := Lib.hid (by rw [ZS0.out]; exact z1.thereMid 8 24 (by rw [← HG0.out]; show _ ≤ 147; omega))
  have SI0 : Hid ((Tryd.prog.info? 34).map (·.size) = some s0.size) := Lib.hid (by rw [ZS0.out]; exact mi_st)
  have ON0 : Hid (s0.all (·.oneCell') = true) := Lib.hid (by rw [← HS0.out]; simp [Value.oneCell'])
  have K := setCells_kp s0.toList w.heap.size 8 w0
  replace z2 := z2.kp K (by show ¬ w.heap.size + 1 = w.heap.size; omega)
  replace z1 := Ag.mid_set (g := g0) (g' := g1) (s' := s0) z1 8 (by rw [ZS0.out, ← HG0.out]; show _ ≤ 147; omega) (by rw [ZS0.out, ← HG0.out, ← HG1.out, ← HS0.out]; rfl)
  replace G := setCells_grew (o := 8) (b := w.heap.size) s0.toList G (Nat.le_refl _)
  obtain ⟨x0, hx0⟩ : ∃ v, w0.setCells w.heap.size 8 s0.toList = v := ⟨_, rfl⟩
  rw [hx0] at z1 z2 G
  have HX0 := Lib.hid hx0
  clear K hx0
  obtain ⟨s1, hs1⟩ : ∃ g : Array Value, (ctZ (.slice none 0 0)) = g := ⟨_, rfl⟩
  have HS1 := Lib.hid hs1
  have hm1 := z1.midOf (vs := s1.toList) 32 6 (by rw [← HG1.out, ← HS1.out]; rfl)
  have HL1 : Hid ((Tryd.prog.info? 37).map (·.size) = some s1.toList.length) := Lib.hid (by rw [← hs1]; exact mi_ct)
  have CON1 := Lib.hid mgcp_ct
  rw [hs1] at CON1
  clear hs1
  go_wp2_with (first | (with_reducible refine wpList_store_mid rfl 34 (.tmp 6) (.tmp 5) rfl w.heap.size 8 s0 rfl rfl TH0.out SI0.out ON0.out ?_; rw [HX0.out]; clear HX0 TH0 SI0 ON0) | (with_reducible refine wpList_load_mid rfl 37 (.tmp 7) rfl w.heap.size 32 rfl s1.toList _ hm1 hu_ct rfl HL1.out ?_; simp only [Array.toArray_toList]))
  refine (CON1.out _).mono ?_
  rintro e w1 ⟨⟨b1, rfl⟩, g_1⟩
  clear hm1 HL1 CON1
  replace z1 := z1.grew g_1
  replace z2 := z2.grew g_1
  replace G := grew_trans G g_1
  clear g_1
  obtain ⟨g2, hg2⟩ : ∃ g : Array Value, mgC h (.slice (some ⟨b1, 0, none⟩) 0 0) (.slice none 0 0) (.slice none 0 0) (.slice none 0 0) (.slice none 0 0) (.slice none 0 0) = g := ⟨_, rfl⟩
  have HG2 := Lib.hid hg2
  clear hg2
  obtain ⟨o1, ho1⟩ : ∃ g : Array Value, (ctZ (.slice (some ⟨b1, 0, none⟩) 0 0)) = g := ⟨_, rfl⟩
  have HO1 := Lib.hid ho1
  rw [ho1]
  clear ho1
  have ZS1 : Hid (o1.size = 6) := Lib.hid (by rw [← HO1.out]; rfl)
  have TH1 : Hid (w1.there w.heap.size 32 o1.size) := Lib.hid (by rw [ZS1.out]; exact z1.thereMid 32 6 (by rw [← HG1.out]; show _ ≤ 147; omega))
  have SI1 : Hid ((Tryd.prog.info? 37).map (·.size) = some o1.size) := Lib.hid (by rw [ZS1.out]; exact mi_ct)
  have ON1 : Hid (o1.all (·.oneCell') = true) := Lib.hid (by rw [← HO1.out]; simp [Value.oneCell'])
  have K := setCells_kp o1.toList w.heap.size 32 w1
  replace z2 := z2.kp K (by show ¬ w.heap.size + 1 = w.heap.size; omega)
  replace z1 := Ag.mid_set (g := g1) (g' := g2) (s' := o1) z1 32 (by rw [ZS1.out, ← HG1.out]; show _ ≤ 147; omega) (by rw [ZS1.out, ← HG1.out, ← HG2.out, ← HO1.out]; rfl)
  replace G := setCells_grew (o := 32) (b := w.heap.size) o1.toList G (Nat.le_refl _)
  obtain ⟨x1, hx1⟩ : ∃ v, w1.setCells w.heap.size 32 o1.toList = v := ⟨_, rfl⟩
  rw [hx1] at z1 z2 G
  have HX1 := Lib.hid hx1
  clear K hx1
  obtain ⟨s2, hs2⟩ : ∃ g : Array Value, (sgZ) = g := ⟨_, rfl⟩
  have HS2 := Lib.hid hs2
  have hm2 := z1.midOf (vs := s2.toList) 40 21 (by rw [← HG2.out, ← HS2.out]; rfl)
  have HL2 : Hid ((Tryd.prog.info? 32).map (·.size) = some s2.toList.length) := Lib.hid (by rw [← hs2]; exact mi_sg)
  have CON2 := Lib.hid mgcp_sg
  rw [hs2] at CON2
  clear hs2
  go_wp2_with (first | (with_reducible refine wpList_store_mid rfl 37 (.tmp 10) (.tmp 9) rfl w.heap.size 32 o1 rfl rfl TH1.out SI1.out ON1.out ?_; rw [HX1.out]; clear HX1 TH1 SI1 ON1) | (with_reducible refine wpList_load_mid rfl 32 (.tmp 12) rfl w.heap.size 40 rfl s2.toList _ hm2 hu_sg rfl HL2.out ?_; simp only [Array.toArray_toList]))
  refine (CON2.out _).mono ?_
  rintro e w2 ⟨rfl, g_2⟩
  clear hm2 HL2 CON2
  replace z1 := z1.grew g_2
  replace z2 := z2.grew g_2
  replace G := grew_trans G g_2
  clear g_2
  obtain ⟨g3, hg3⟩ : ∃ g : Array Value, mgC h (.slice (some ⟨b1, 0, none⟩) 0 0) (.slice none 0 0) (.slice none 0 0) (.slice none 0 0) (.slice none 0 0) (.slice none 0 0) = g := ⟨_, rfl⟩
  have HG3 := Lib.hid hg3
  clear hg3
  have ZS2 : Hid (s2.size = 21) := Lib.hid (by rw [← HS2.out]; rfl)
  have TH2 : Hid (w2.there w.heap.size 40 s2.size) := Lib.hid (by rw [ZS2.out]; exact z1.thereMid 40 21 (by rw [← HG2.out]; show _ ≤ 147; omega))
  have SI2 : Hid ((Tryd.prog.info? 32).map (·.size) = some s2.size) := Lib.hid (by rw [ZS2.out]; exact mi_sg)
  have ON2 : Hid (s2.all (·.oneCell') = true) := Lib.hid (by rw [← HS2.out]; simp [Value.oneCell'])
  have K := setCells_kp s2.toList w.heap.size 40 w2
  replace z2 := z2.kp K (by show ¬ w.heap.size + 1 = w.heap.size; omega)
  replace z1 := Ag.mid_set (g := g2) (g' := g3) (s' := s2) z1 40 (by rw [ZS2.out, ← HG2.out]; show _ ≤ 147; omega) (by rw [ZS2.out, ← HG2.out, ← HG3.out, ← HS2.out]; rfl)
  replace G := setCells_grew (o := 40) (b := w.heap.size) s2.toList G (Nat.le_refl _)
  obtain ⟨x2, hx2⟩ : ∃ v, w2.setCells w.heap.size 40 s2.toList = v := ⟨_, rfl⟩
  rw [hx2] at z1 z2 G
  have HX2 := Lib.hid hx2
  clear K hx2
  obtain ⟨s3, hs3⟩ : ∃ g : Array Value, (reZ (.slice none 0 0)) = g := ⟨_, rfl⟩
  have HS3 := Lib.hid hs3
  have hm3 := z1.midOf (vs := s3.toList) 63 25 (by rw [← HG3.out, ← HS3.out]; rfl)
  have HL3 : Hid ((Tryd.prog.info? 42).map (·.size) = some s3.toList.length) := Lib.hid (by rw [← hs3]; exact mi_re)
  have CON3 := Lib.hid mgcp_re
  rw [hs3] at CON3
  clear hs3
  go_wp2_with (first | (with_reducible refine wpList_store_mid rfl 32 (.tmp 16) (.tmp 14) rfl w.heap.size 40 s2 rfl rfl TH2.out SI2.out ON2.out ?_; rw [HX2.out]; clear HX2 TH2 SI2 ON2) | (with_reducible refine wpList_load_mid rfl 42 (.tmp 17) rfl w.heap.size 63 rfl s3.toList _ hm3 hu_re rfl HL3.out ?_; simp only [Array.toArray_toList]))
  refine (CON3.out _).mono ?_
  rintro e w3 ⟨⟨b2, rfl⟩, g_3⟩
  clear hm3 HL3 CON3
  replace z1 := z1.grew g_3
  replace z2 := z2.grew g_3
  replace G := grew_trans G g_3
  clear g_3
  obtain ⟨g4, hg4⟩ : ∃ g : Array Value, mgC h (.slice (some ⟨b1, 0, none⟩) 0 0) (.slice (some ⟨b2, 0, none⟩) 0 0) (.slice none 0 0) (.slice none 0 0) (.slice none 0 0) (.slice none 0 0) = g := ⟨_, rfl⟩
  have HG4 := Lib.hid hg4
  clear hg4
  obtain ⟨o3, ho3⟩ : ∃ g : Array Value, (reZ (.slice (some ⟨b2, 0, none⟩) 0 0)) = g := ⟨_, rfl⟩
  have HO3 := Lib.hid ho3
  rw [ho3]
  clear ho3
  have ZS3 : Hid (o3.size = 25) := Lib.hid (by rw [← HO3.out]; rfl)
  have TH3 : Hid (w3.there w.heap.size 63 o3.size) := Lib.hid (by rw [ZS3.out]; exact z1.thereMid 63 25 (by rw [← HG3.out]; show _ ≤ 147; omega))
  have SI3 : Hid ((Tryd.prog.info? 42).map (·.size) = some o3.size) := Lib.hid (by rw [ZS3.out]; exact mi_re)
  have ON3 : Hid (o3.all (·.oneCell') = true) := Lib.hid (by rw [← HO3.out]; simp [Value.oneCell'])
  have K := setCells_kp o3.toList w.heap.size 63 w3
  replace z2 := z2.kp K (by show ¬ w.heap.size + 1 = w.heap.size; omega)
  replace z1 := Ag.mid_set (g := g3) (g' := g4) (s' := o3) z1 63 (by rw [ZS3.out, ← HG3.out]; show _ ≤ 147; omega) (by rw [ZS3.out, ← HG3.out, ← HG4.out, ← HO3.out]; rfl)
  replace G := setCells_grew (o := 63) (b := w.heap.size) o3.toList G (Nat.le_refl _)
  obtain ⟨x3, hx3⟩ : ∃ v, w3.setCells w.heap.size 63 o3.toList = v := ⟨_, rfl⟩
  rw [hx3] at z1 z2 G
  have HX3 := Lib.hid hx3
  clear K hx3
  obtain ⟨s4, hs4⟩ : ∃ g : Array Value, (blZ (.slice none 0 0) (.slice none 0 0)) = g := ⟨_, rfl⟩
  have HS4 := Lib.hid hs4
  have hm4 := z1.midOf (vs := s4.toList) 88 8 (by rw [← HG4.out, ← HS4.out]; rfl)
  have HL4 : Hid ((Tryd.prog.info? 48).map (·.size) = some s4.toList.length) := Lib.hid (by rw [← hs4]; exact mi_bl)
  have CON4 := Lib.hid mgcp_bl
  rw [hs4] at CON4
  clear hs4
  go_wp2_with (first | (with_reducible refine wpList_store_mid rfl 42 (.tmp 20) (.tmp 19) rfl w.heap.size 63 o3 rfl rfl TH3.out SI3.out ON3.out ?_; rw [HX3.out]; clear HX3 TH3 SI3 ON3) | (with_reducible refine wpList_load_mid rfl 48 (.tmp 21) rfl w.heap.size 88 rfl s4.toList _ hm4 hu_bl rfl HL4.out ?_; simp only [Array.toArray_toList]))
  refine (CON4.out _).mono ?_
  rintro e w4 ⟨⟨b3, b4, rfl⟩, g_4⟩
  clear hm4 HL4 CON4
  replace z1 := z1.grew g_4
  replace z2 := z2.grew g_4
  replace G := grew_trans G g_4
  clear g_4
  obtain ⟨g5, hg5⟩ : ∃ g : Array Value, mgC h (.slice (some ⟨b1, 0, none⟩) 0 0) (.slice (some ⟨b2, 0, none⟩) 0 0) (.slice (some ⟨b3, 0, none⟩) 0 0) (.slice (some ⟨b4, 0, none⟩) 0 0) (.slice none 0 0) (.slice none 0 0) = g := ⟨_, rfl⟩
  have HG5 := Lib.hid hg5
  clear hg5
  obtain ⟨o4, ho4⟩ : ∃ g : Array Value, (blZ (.slice (some ⟨b3, 0, none⟩) 0 0) (.slice (some ⟨b4, 0, none⟩) 0 0)) = g := ⟨_, rfl⟩
  have HO4 := Lib.hid ho4
  rw [ho4]
  clear ho4
  have ZS4 : Hid (o4.size = 8) := Lib.hid (by rw [← HO4.out]; rfl)
  have TH4 : Hid (w4.there w.heap.size 88 o4.size) := Lib.hid (by rw [ZS4.out]; exact z1.thereMid 88 8 (by rw [← HG4.out]; show _ ≤ 147; omega))
  have SI4 : Hid ((Tryd.prog.info? 48).map (·.size) = some o4.size) := Lib.hid (by rw [ZS4.out]; exact mi_bl)
  have ON4 : Hid (o4.all (·.oneCell') = true) := Lib.hid (by rw [← HO4.out]; simp [Value.oneCell'])
  have K := setCells_kp o4.toList w.heap.size 88 w4
  replace z2 := z2.kp K (by show ¬ w.heap.size + 1 = w.heap.size; omega)
  replace z1 := Ag.mid_set (g := g4) (g' := g5) (s' := o4) z1 88 (by rw [ZS4.out, ← HG4.out]; show _ ≤ 147; omega) (by rw [ZS4.out, ← HG4.out, ← HG5.out, ← HO4.out]; rfl)
  replace G := setCells_grew (o := 88) (b := w.heap.size) o4.toList G (Nat.le_refl _)
  obtain ⟨x4, hx4⟩ : ∃ v, w4.setCells w.heap.size 88 o4.toList = v := ⟨_, rfl⟩
  rw [hx4] at z1 z2 G
  have HX4 := Lib.hid hx4
  clear K hx4
  obtain ⟨s5, hs5⟩ : ∃ g : Array Value, (voZ) = g := ⟨_, rfl⟩
  have HS5 := Lib.hid hs5
  have hm5 := z1.midOf (vs := s5.toList) 96 24 (by rw [← HG5.out, ← HS5.out]; rfl)
  have HL5 : Hid ((Tryd.prog.info? 50).map (·.size) = some s5.toList.length) := Lib.hid (by rw [← hs5]; exact mi_vo)
  have CON5 := Lib.hid mgcp_vo
  rw [hs5] at CON5
  clear hs5
  go_wp2_with (first | (with_reducible refine wpList_store_mid rfl 48 (.tmp 24) (.tmp 23) rfl w.heap.size 88 o4 rfl rfl TH4.out SI4.out ON4.out ?_; rw [HX4.out]; clear HX4 TH4 SI4 ON4) | (with_reducible refine wpList_load_mid rfl 50 (.tmp 25) rfl w.heap.size 96 rfl s5.toList _ hm5 hu_vo rfl HL5.out ?_; simp only [Array.toArray_toList]))
  refine (CON5.out _).mono ?_
  rintro e w5 ⟨rfl, g_5⟩
  clear hm5 HL5 CON5
  replace z1 := z1.grew g_5
  replace z2 := z2.grew g_5
  replace G := grew_trans G g_5
  clear g_5
  obtain ⟨g6, hg6⟩ : ∃ g : Array Value, mgC h (.slice (some ⟨b1, 0, none⟩) 0 0) (.slice (some ⟨b2, 0, none⟩) 0 0) (.slice (some ⟨b3, 0, none⟩) 0 0) (.slice (some ⟨b4, 0, none⟩) 0 0) (.slice none 0 0) (.slice none 0 0) = g := ⟨_, rfl⟩
  have HG6 := Lib.hid hg6
  clear hg6
  have ZS5 : Hid (s5.size = 24) := Lib.hid (by rw [← HS5.out]; rfl)
  have TH5 : Hid (w5.there w.heap.size 96 s5.size) := Lib.hid (by rw [ZS5.out]; exact z1.thereMid 96 24 (by rw [← HG5.out]; show _ ≤ 147; omega))
  have SI5 : Hid ((Tryd.prog.info? 50).map (·.size) = some s5.size) := Lib.hid (by rw [ZS5.out]; exact mi_vo)
  have ON5 : Hid (s5.all (·.oneCell') = true) := Lib.hid (by rw [← HS5.out]; simp [Value.oneCell'])
  have K := setCells_kp s5.toList w.heap.size 96 w5
  replace z2 := z2.kp K (by show ¬ w.heap.size + 1 = w.heap.size; omega)
  replace z1 := Ag.mid_set (g := g5) (g' := g6) (s' := s5) z1 96 (by rw [ZS5.out, ← HG5.out]; show _ ≤ 147; omega) (by rw [ZS5.out, ← HG5.out, ← HG6.out, ← HS5.out]; rfl)
  replace G := setCells_grew (o := 96) (b := w.heap.size) s5.toList G (Nat.le_refl _)
  obtain ⟨x5, hx5⟩ : ∃ v, w5.setCells w.heap.size 96 s5.toList = v := ⟨_, rfl⟩
  rw [hx5] at z1 z2 G
  have HX5 := Lib.hid hx5
  clear K hx5
  obtain ⟨s6, hs6⟩ : ∃ g : Array Value, (qcZ (.slice none 0 0)) = g := ⟨_, rfl⟩
  have HS6 := Lib.hid hs6
  have hm6 := z1.midOf (vs := s6.toList) 122 3 (by rw [← HG6.out, ← HS6.out]; rfl)
  have HL6 : Hid ((Tryd.prog.info? 45).map (·.size) = some s6.toList.length) := Lib.hid (by rw [← hs6]; exact mi_qc)
  have CON6 := Lib.hid mgcp_qc
  rw [hs6] at CON6
  clear hs6
  go_wp2_with (first | (with_reducible refine wpList_store_mid rfl 50 (.tmp 28) (.tmp 27) rfl w.heap.size 96 s5 rfl rfl TH5.out SI5.out ON5.out ?_; rw [HX5.out]; clear HX5 TH5 SI5 ON5) | (with_reducible refine wpList_load_mid rfl 45 (.tmp 30) rfl w.heap.size 122 rfl s6.toList _ hm6 hu_qc rfl HL6.out ?_; simp only [Array.toArray_toList]))
  refine (CON6.out _).mono ?_
  rintro e w6 ⟨⟨b5, rfl⟩, g_6⟩
  clear hm6 HL6 CON6
  replace z1 := z1.grew g_6
  replace z2 := z2.grew g_6
  replace G := grew_trans G g_6
  clear g_6
  obtain ⟨g7, hg7⟩ : ∃ g : Array Value, mgC h (.slice (some ⟨b1, 0, none⟩) 0 0) (.slice (some ⟨b2, 0, none⟩) 0 0) (.slice (some ⟨b3, 0, none⟩) 0 0) (.slice (some ⟨b4, 0, none⟩) 0 0) (.slice (some ⟨b5, 0, none⟩) 0 0) (.slice none 0 0) = g := ⟨_, rfl⟩
  have HG7 := Lib.hid hg7
  clear hg7
  obtain ⟨o6, ho6⟩ : ∃ g : Array Value, (qcZ (.slice (some ⟨b5, 0, none⟩) 0 0)) = g := ⟨_, rfl⟩
  have HO6 := Lib.hid ho6
  rw [ho6]
  clear ho6
  have ZS6 : Hid (o6.size = 3) := Lib.hid (by rw [← HO6.out]; rfl)
  have TH6 : Hid (w6.there w.heap.size 122 o6.size) := Lib.hid (by rw [ZS6.out]; exact z1.thereMid 122 3 (by rw [← HG6.out]; show _ ≤ 147; omega))
  have SI6 : Hid ((Tryd.prog.info? 45).map (·.size) = some o6.size) := Lib.hid (by rw [ZS6.out]; exact mi_qc)
  have ON6 : Hid (o6.all (·.oneCell') = true) := Lib.hid (by rw [← HO6.out]; simp [Value.oneCell'])
  have K := setCells_kp o6.toList w.heap.size 122 w6
  replace z2 := z2.kp K (by show ¬ w.heap.size + 1 = w.heap.size; omega)
  replace z1 := Ag.mid_set (g := g6) (g' := g7) (s' := o6) z1 122 (by rw [ZS6.out, ← HG6.out]; show _ ≤ 147; omega) (by rw [ZS6.out, ← HG6.out, ← HG7.out, ← HO6.out]; rfl)
  replace G := setCells_grew (o := 122) (b := w.heap.size) o6.toList G (Nat.le_refl _)
  obtain ⟨x6, hx6⟩ : ∃ v, w6.setCells w.heap.size 122 o6.toList = v := ⟨_, rfl⟩
  rw [hx6] at z1 z2 G
  have HX6 := Lib.hid hx6
  clear K hx6
  obtain ⟨s7, hs7⟩ : ∃ g : Array Value, (sgZ) = g := ⟨_, rfl⟩
  have HS7 := Lib.hid hs7
  have hm7 := z1.midOf (vs := s7.toList) 125 21 (by rw [← HG7.out, ← HS7.out]; rfl)
  have HL7 : Hid ((Tryd.prog.info? 32).map (·.size) = some s7.toList.length) := Lib.hid (by rw [← hs7]; exact mi_sg)
  have CON7 := Lib.hid mgcp_sg
  rw [hs7] at CON7
  clear hs7
  go_wp2_with (first | (with_reducible refine wpList_store_mid rfl 45 (.tmp 34) (.tmp 32) rfl w.heap.size 122 o6 rfl rfl TH6.out SI6.out ON6.out ?_; rw [HX6.out]; clear HX6 TH6 SI6 ON6) | (with_reducible refine wpList_load_mid rfl 32 (.tmp 36) rfl w.heap.size 125 rfl s7.toList _ hm7 hu_sg rfl HL7.out ?_; simp only [Array.toArray_toList]))
  refine (CON7.out _).mono ?_
  rintro e w7 ⟨rfl, g_7⟩
  clear hm7 HL7 CON7
  replace z1 := z1.grew g_7
  replace z2 := z2.grew g_7
  replace G := grew_trans G g_7
  clear g_7
  obtain ⟨g8, hg8⟩ : ∃ g : Array Value, mgC h (.slice (some ⟨b1, 0, none⟩) 0 0) (.slice (some ⟨b2, 0, none⟩) 0 0) (.slice (some ⟨b3, 0, none⟩) 0 0) (.slice (some ⟨b4, 0, none⟩) 0 0) (.slice (some ⟨b5, 0, none⟩) 0 0) (.slice none 0 0) = g := ⟨_, rfl⟩
  have HG8 := Lib.hid hg8
  clear hg8
  have ZS7 : Hid (s7.size = 21) := Lib.hid (by rw [← HS7.out]; rfl)
  have TH7 : Hid (w7.there w.heap.size 125 s7.size) := Lib.hid (by rw [ZS7.out]; exact z1.thereMid 125 21 (by rw [← HG7.out]; show _ ≤ 147; omega))
  have SI7 : Hid ((Tryd.prog.info? 32).map (·.size) = some s7.size) := Lib.hid (by rw [ZS7.out]; exact mi_sg)
  have ON7 : Hid (s7.all (·.oneCell') = true) := Lib.hid (by rw [← HS7.out]; simp [Value.oneCell'])
  have K := setCells_kp s7.toList w.heap.size 125 w7
  replace z2 := z2.kp K (by show ¬ w.heap.size + 1 = w.heap.size; omega)
  replace z1 := Ag.mid_set (g := g7) (g' := g8) (s' := s7) z1 125 (by rw [ZS7.out, ← HG7.out]; show _ ≤ 147; omega) (by rw [ZS7.out, ← HG7.out, ← HG8.out, ← HS7.out]; rfl)
  replace G := setCells_grew (o := 125) (b := w.heap.size) s7.toList G (Nat.le_refl _)
  obtain ⟨x7, hx7⟩ : ∃ v, w7.setCells w.heap.size 125 s7.toList = v := ⟨_, rfl⟩
  rw [hx7] at z1 z2 G
  have HX7 := Lib.hid hx7
  clear K hx7
  have hc8 := z1.cell 146 (.slice none 0 0) (by rw [← HG8.out]; rfl)
  simp only [Nat.zero_add] at hc8
  go_wp2_with (first | (with_reducible refine wpList_store_mid rfl 32 (.tmp 40) (.tmp 38) rfl w.heap.size 125 s7 rfl rfl TH7.out SI7.out ON7.out ?_; rw [HX7.out]; clear HX7 TH7 SI7 ON7))
  refine (mgmap_bl _).mono ?_
  rintro e w8 ⟨⟨b6, rfl⟩, g_8⟩
  clear hc8
  replace z1 := z1.grew g_8
  replace z2 := z2.grew g_8
  replace G := grew_trans G g_8
  clear g_8
  obtain ⟨g9, hg9⟩ : ∃ g : Array Value, mgC h (.slice (some ⟨b1, 0, none⟩) 0 0) (.slice (some ⟨b2, 0, none⟩) 0 0) (.slice (some ⟨b3, 0, none⟩) 0 0) (.slice (some ⟨b4, 0, none⟩) 0 0) (.slice (some ⟨b5, 0, none⟩) 0 0) (.slice (some ⟨b6, 0, none⟩) 0 0) = g := ⟨_, rfl⟩
  have HG9 := Lib.hid hg9
  clear hg9
  have hc8 := z1.cell 146 (.slice none 0 0) (by rw [← HG8.out]; rfl)
  have fc8 := (z1.there 146 (by rw [← HG8.out]; show _ < 147; omega)).2
  simp only [Nat.zero_add] at hc8 fc8
  have K := setCells_kp [.slice (some ⟨b6, 0, none⟩) 0 0] w.heap.size 146 w8
  replace z2 := z2.kp K (by show ¬ w.heap.size + 1 = w.heap.size; omega)
  replace z1 := Ag.cell_set (g := g8) (g' := g9) (v := .slice (some ⟨b6, 0, none⟩) 0 0) z1 146 (by rw [← HG8.out]; show _ ≤ 147; omega) (by rw [← HG8.out, ← HG9.out]; rfl)
  replace G := setCells_grew (o := 146) (b := w.heap.size) [.slice (some ⟨b6, 0, none⟩) 0 0] G (Nat.le_refl _)
  obtain ⟨x8, hx8⟩ : ∃ v, w8.setCell ⟨w.heap.size, 146, none⟩ (.slice (some ⟨b6, 0, none⟩) 0 0) = v := ⟨_, rfl⟩
  rw [hx8] at z1
  rw [show w8.setCells w.heap.size 146 [.slice (some ⟨b6, 0, none⟩) 0 0] = x8 from hx8] at z2 G
  clear K
  go_upto_region 10 with fail
  try rw [hx8]
  clear hx8 hc8 fc8
  have hmz := z1.cell
  have ZZ : Hid (g9.size = 147) := Lib.hid (by rw [← HG9.out]; rfl)
  have HLZ : Hid ((Tryd.prog.info? 55).map (·.size) = some g9.toList.length) := Lib.hid (by rw [Array.length_toList, ZZ.out]; exact mi_ms)
  have SIZ : Hid ((Tryd.prog.info? 55).map (·.size) = some g9.size) := Lib.hid (by rw [ZZ.out]; exact mi_ms)
  have ONZ : Hid (g9.all (·.oneCell') = true) := Lib.hid (by rw [← HG9.out]; exact mgC_one _ _ _ _ _ _ _ _ _ _ _ _ _ _ _ _ _ _ _)
  have THZ : Hid (World.there _ (w.heap.size + 1) 0 g9.size) := Lib.hid (z2.thereN g9.size (by rw [ZZ.out]; rfl))
  have z4 := Ag.set (vs := g9.toList) z2 (by rw [Array.length_toList, ZZ.out]; rfl)
  have G4 := setCells_grew (o := 0) (b := w.heap.size + 1) g9.toList G (by omega)
  clear z1 z2 G
  go_wp2_with (first
    | (with_reducible refine wpList_load_mid rfl 55 (.tmp 1) rfl w.heap.size 0 rfl g9.toList _ hmz hut rfl HLZ.out ?_; simp only [Array.toArray_toList])
    | (with_reducible refine wpList_store_mid rfl 55 (.tmp 2) (.tmp 45) rfl (w.heap.size + 1) 0 g9 rfl rfl THZ.out SIZ.out ONZ.out ?_))
  exact bodyPost_ret (results_mg Tryd.results11 _ _ (w.heap.size + 1) _ _ rfl z4 hut rfl HLZ.out) rfl ⟨⟨b1, b2, b3, b4, b5, b6, by show Ending.returned (.agg g9.toList.toArray) = _; rw [Array.toArray_toList, HG9.out]⟩, G4⟩
end Go.Proofs.YtfnkcahnkccekaaDoor
