/- stamp.Parse of whatever text. -/
import Derived.Test.YtpppegnojmnicaaGreatDoorXbk
import Derived.Test.YtpppegnojmnicaaGreatDoorXat
import Derived.Test.YtpppegnojmnicaaGreatDoorXbd
import Derived.Test.YtpppegnojmnicaaGreatDoorXba
import Derived.Test.YtpppegnojmnicaaGreatDoorXbj
namespace Go.Proofs.YtpppegnojmnicaaGreatDoor
set_option linter.unusedSimpArgs false
set_option linter.unusedVariables false
open Go.RowKit
set_option linter.unusedVariables false
set_option linter.unusedSimpArgs false
set_option maxRecDepth 100000 in
set_option maxHeartbeats 1000000 in
theorem stparse_split (tj : ByteArray) (hz : tj.size ≤ 1000000) (hno : ∀ x0 x1 x2 x3, splitF tj.data.toList ≠ some [x0, x1, x2, x3]) (w : World) :
 Calls Tryz.prog 81 #[.string tj] w fun e w' => (∃ A c, e = .returned (.tuple #[.agg ((stO tj.data.toList).v (.slice A (stO tj.data.toList).g.2.2.length c)), .int .i64 (stE tj.data.toList)]) ∧ Rd w' w'.heap.size A (u64L (stO tj.data.toList).g.2.2) ∧ (∀ ad, A = some ad → w.heap.size < ad.block)) ∧ Grew w w' := by
 have hut := Tryz.underlying91
 have hus := Tryz.underlying89
 have bz : ∀ W, (Instr.build 91 #[]).run Tryz.prog W = .ok (.agg (#[.int .u64 0, .int .i64 0, .int .i64 0, .int .i64 0, .int .i64 0, .int .u64 0, .int .u64 0, .int .u64 0, .int .u64 0, .int .u64 0, .int .u64 0, .int .u64 0, .int .u64 0, .int .u64 0, .int .u64 0, .int .u64 0, .int .u64 0, .int .u64 0, .int .u64 0, .int .u64 0, .int .u64 0, .int .u64 0, .int .u64 0, .slice none 0 0])) W := fun W => run_build W 91 #[] _ st_zero
 have HSI : Hid ((Tryz.prog.info? 91).map (·.size) = some (#[.int .u64 0, .int .i64 0, .int .i64 0, .int .i64 0, .int .i64 0, .int .u64 0, .int .u64 0, .int .u64 0, .int .u64 0, .int .u64 0, .int .u64 0, .int .u64 0, .int .u64 0, .int .u64 0, .int .u64 0, .int .u64 0, .int .u64 0, .int .u64 0, .int .u64 0, .int .u64 0, .int .u64 0, .int .u64 0, .int .u64 0, .slice none 0 0] : Array Value).size) := Lib.hid st_info
 have HSIL : Hid ((Tryz.prog.info? 91).map (·.size) = some (#[.int .u64 0, .int .i64 0, .int .i64 0, .int .i64 0, .int .i64 0, .int .u64 0, .int .u64 0, .int .u64 0, .int .u64 0, .int .u64 0, .int .u64 0, .int .u64 0, .int .u64 0, .int .u64 0, .int .u64 0, .int .u64 0, .int .u64 0, .int .u64 0, .int .u64 0, .int .u64 0, .int .u64 0, .int .u64 0, .int .u64 0, .slice none 0 0] : Array Value).toList.length) := Lib.hid st_info
 have HON : Hid ((#[.int .u64 0, .int .i64 0, .int .i64 0, .int .i64 0, .int .i64 0, .int .u64 0, .int .u64 0, .int .u64 0, .int .u64 0, .int .u64 0, .int .u64 0, .int .u64 0, .int .u64 0, .int .u64 0, .int .u64 0, .int .u64 0, .int .u64 0, .int .u64 0, .int .u64 0, .int .u64 0, .int .u64 0, .int .u64 0, .int .u64 0, .slice none 0 0] : Array Value).all (·.oneCell') = true) := Lib.hid (by simp [Value.oneCell'])
 have z0 := Ag.new w 91 (#[.int .u64 0, .int .i64 0, .int .i64 0, .int .i64 0, .int .i64 0, .int .u64 0, .int .u64 0, .int .u64 0, .int .u64 0, .int .u64 0, .int .u64 0, .int .u64 0, .int .u64 0, .int .u64 0, .int .u64 0, .int .u64 0, .int .u64 0, .int .u64 0, .int .u64 0, .int .u64 0, .int .u64 0, .int .u64 0, .int .u64 0, .slice none 0 0])
 have g0 := grew_alloc (grew_refl w) (.cells (#[.int .u64 0, .int .i64 0, .int .i64 0, .int .i64 0, .int .i64 0, .int .u64 0, .int .u64 0, .int .u64 0, .int .u64 0, .int .u64 0, .int .u64 0, .int .u64 0, .int .u64 0, .int .u64 0, .int .u64 0, .int .u64 0, .int .u64 0, .int .u64 0, .int .u64 0, .int .u64 0, .int .u64 0, .int .u64 0, .int .u64 0, .slice none 0 0]) 91)
 have CS := Lib.hid (fun W => split_ok tj (by omega) W)
 go_enter Tryz.func81, Tryz.ntmps81
 go_wp2_with fail
 refine (CS.out _).mono ?_
 rintro e w1 ⟨hs, gg⟩
 have z1 := z0.grew gg
 have g1 := grew_trans g0 gg
 have HTH : Hid (w1.there w.heap.size 0 (#[.int .u64 0, .int .i64 0, .int .i64 0, .int .i64 0, .int .i64 0, .int .u64 0, .int .u64 0, .int .u64 0, .int .u64 0, .int .u64 0, .int .u64 0, .int .u64 0, .int .u64 0, .int .u64 0, .int .u64 0, .int .u64 0, .int .u64 0, .int .u64 0, .int .u64 0, .int .u64 0, .int .u64 0, .int .u64 0, .int .u64 0, .slice none 0 0] : Array Value).size) := Lib.hid (z1.thereN 24 rfl)
 have zZ := Ag.set (vs := (#[.int .u64 0, .int .i64 0, .int .i64 0, .int .i64 0, .int .i64 0, .int .u64 0, .int .u64 0, .int .u64 0, .int .u64 0, .int .u64 0, .int .u64 0, .int .u64 0, .int .u64 0, .int .u64 0, .int .u64 0, .int .u64 0, .int .u64 0, .int .u64 0, .int .u64 0, .int .u64 0, .int .u64 0, .int .u64 0, .int .u64 0, .slice none 0 0] : Array Value).toList) z1 rfl
 have gZ := setCells_grew (o := 0) (b := w.heap.size) (#[.int .u64 0, .int .i64 0, .int .i64 0, .int .i64 0, .int .i64 0, .int .u64 0, .int .u64 0, .int .u64 0, .int .u64 0, .int .u64 0, .int .u64 0, .int .u64 0, .int .u64 0, .int .u64 0, .int .u64 0, .int .u64 0, .int .u64 0, .int .u64 0, .int .u64 0, .int .u64 0, .int .u64 0, .int .u64 0, .int .u64 0, .slice none 0 0] : Array Value).toList g1 (Nat.le_refl _)
 clear CS z0 g0 gg z1 g1
 rcases hs with ⟨h1, rfl⟩ | ⟨l, h1, ⟨h2, rfl⟩ | ⟨h2, v, rfl, o1⟩⟩
 ·have HE := Lib.hid (stE_none h1)
  clear h1
  go_wp2_with (first
   | (with_reducible refine wpList_store_mid rfl 91 (.tmp 2) (.tmp 19) rfl w.heap.size 0 (#[.int .u64 0, .int .i64 0, .int .i64 0, .int .i64 0, .int .i64 0, .int .u64 0, .int .u64 0, .int .u64 0, .int .u64 0, .int .u64 0, .int .u64 0, .int .u64 0, .int .u64 0, .int .u64 0, .int .u64 0, .int .u64 0, .int .u64 0, .int .u64 0, .int .u64 0, .int .u64 0, .int .u64 0, .int .u64 0, .int .u64 0, .slice none 0 0]) rfl rfl HTH.out HSI.out HON.out ?_))
  exact bodyPost_ret (results_ag2 Tryz.results81 _ _ w.heap.size _ _ _ rfl rfl zZ hut rfl HSIL.out) rfl ⟨⟨none, 0, by rw [HE.out.1, HE.out.2]; rfl, by rw [HE.out.2]; exact fun k hk => absurd hk (by simp [StR.zero, u64L]), fun ad h => by cases h⟩, gZ⟩
 ·have HE := Lib.hid (stE_long h1 h2)
  clear h1 h2
  go_wp2_with (first
   | (with_reducible refine wpList_store_mid rfl 91 (.tmp 2) (.tmp 19) rfl w.heap.size 0 (#[.int .u64 0, .int .i64 0, .int .i64 0, .int .i64 0, .int .i64 0, .int .u64 0, .int .u64 0, .int .u64 0, .int .u64 0, .int .u64 0, .int .u64 0, .int .u64 0, .int .u64 0, .int .u64 0, .int .u64 0, .int .u64 0, .int .u64 0, .int .u64 0, .int .u64 0, .int .u64 0, .int .u64 0, .int .u64 0, .int .u64 0, .slice none 0 0]) rfl rfl HTH.out HSI.out HON.out ?_))
  exact bodyPost_ret (results_ag2 Tryz.results81 _ _ w.heap.size _ _ _ rfl rfl zZ hut rfl HSIL.out) rfl ⟨⟨none, 0, by rw [HE.out.1, HE.out.2]; rfl, by rw [HE.out.2]; exact fun k hk => absurd hk (by simp [StR.zero, u64L]), fun ad h => by cases h⟩, gZ⟩
 ·have hl4 : l.length ≠ 4 := fun h4 => by
   match l, h4 with
   | [a, b, c, d], _ => exact hno a b c d h1
  have HE := Lib.hid (stE_len h1 h2 hl4)
  obtain ⟨A4, c4, rfl, -, -, -⟩ := own_rd o1
  have e4 : ((l.length : Int) != 4) = true := by simp; omega
  clear o1 h1 h2 hl4
  go_wp2_with (first
   | (with_reducible refine wpList_store_mid rfl 91 (.tmp 2) (.tmp 24) rfl w.heap.size 0 (#[.int .u64 0, .int .i64 0, .int .i64 0, .int .i64 0, .int .i64 0, .int .u64 0, .int .u64 0, .int .u64 0, .int .u64 0, .int .u64 0, .int .u64 0, .int .u64 0, .int .u64 0, .int .u64 0, .int .u64 0, .int .u64 0, .int .u64 0, .int .u64 0, .int .u64 0, .int .u64 0, .int .u64 0, .int .u64 0, .int .u64 0, .slice none 0 0]) rfl rfl HTH.out HSI.out HON.out ?_))
  exact bodyPost_ret (results_ag2 Tryz.results81 _ _ w.heap.size _ _ _ rfl rfl zZ hut rfl HSIL.out) rfl ⟨⟨none, 0, by rw [HE.out.1, HE.out.2]; rfl, by rw [HE.out.2]; exact fun k hk => absurd hk (by simp [StR.zero, u64L]), fun ad h => by cases h⟩, gZ⟩
set_option maxRecDepth 100000 in
set_option maxHeartbeats 4000000 in
theorem stparse_four (tj : ByteArray) (x0 x1 x2 x3 : List UInt8) (hsp : splitF tj.data.toList = some [x0, x1, x2, x3]) (hz : tj.size ≤ 1000000) (l0 : x0.length ≤ 1000000) (l1 : x1.length ≤ 1000000) (l2 : x2.length ≤ 1000000) (l3 : x3.length ≤ 1000000) (w : World) (hS : Std w) :
 Calls Tryz.prog 81 #[.string tj] w fun e w' => (∃ A c, e = .returned (.tuple #[.agg ((stO tj.data.toList).v (.slice A (stO tj.data.toList).g.2.2.length c)), .int .i64 (stE tj.data.toList)]) ∧ Rd w' w'.heap.size A (u64L (stO tj.data.toList).g.2.2) ∧ (∀ ad, A = some ad → w.heap.size < ad.block)) ∧ Grew w w' := by
 have HS := Lib.hid hS
 have HE0 := stE_four hsp
 have CS := Lib.hid (fun W => split_some (s := tj) (l := [x0, x1, x2, x3]) hsp (by simp) (by omega) W)
 rw [show txt [x0, x1, x2, x3] = [⟨x0.toArray⟩, ⟨x1.toArray⟩, ⟨x2.toArray⟩, ⟨x3.toArray⟩] from rfl] at CS
 have N1 := (fun W hW => parseNum_ok ⟨x1.toArray⟩ (by show x1.toArray.size ≤ _; simp; omega) W hW)
 have N2 := (fun W hW => parseNum_ok ⟨x2.toArray⟩ (by show x2.toArray.size ≤ _; simp; omega) W hW)
 have HP := (fun W => parse_any ⟨x0.toArray⟩ W)
 have KP := (fun W hW => kparse_fr2 ⟨x3.toArray⟩ (by show x3.toArray.size ≤ _; simp; omega) W hW)
 unfold st4 stF at HE0
 simp only [show (⟨x0.toArray⟩ : ByteArray).data.toList = x0 from rfl, show (⟨x1.toArray⟩ : ByteArray).data.toList = x1 from rfl, show (⟨x2.toArray⟩ : ByteArray).data.toList = x2 from rfl, show (⟨x3.toArray⟩ : ByteArray).data.toList = x3 from rfl, pnumRes] at N1 N2 HP KP
 clear hsp
 generalize (⟨x0.toArray⟩ : ByteArray) = t0 at *
 generalize (⟨x1.toArray⟩ : ByteArray) = t1 at *
 generalize (⟨x2.toArray⟩ : ByteArray) = t2 at *
 generalize (⟨x3.toArray⟩ : ByteArray) = t3 at *
 generalize (pnum x1).1 = n1 at *
 generalize (pnum x1).2 = a1 at *
 generalize (pnum x2).1 = n2 at *
 generalize (pnum x2).2 = a2 at *
 generalize parseO x0 = o0 at *
 have HO3 : Hid (sgE (sigP x3) = if (sigP x3).isSome = true then 0 else 2) := Lib.hid rfl
 generalize sgE (sigP x3) = e3 at *
 generalize (sigP x3).isSome = b3 at *
 generalize sgO (sigP x3) = X at *
 obtain ⟨⟨sw, lf⟩, s, l⟩ := X
 dsimp only at KP HE0
 replace N1 := Lib.hid N1
 replace N2 := Lib.hid N2
 replace HP := Lib.hid HP
 replace KP := Lib.hid KP
 replace HE0 := Lib.hid HE0
 have HEZ : ∀ b : Bool, b = false → stE tj.data.toList = (if b = true then 0 else 2) ∧ stO tj.data.toList = (if b = true then (⟨o0.getD 0, n1, n2, ((sw, lf), s, l)⟩ : StR) else .zero) → Hid (stE tj.data.toList = 2 ∧ stO tj.data.toList = .zero) := fun b hb h => Lib.hid (by rw [hb] at h; exact h)
 generalize stE tj.data.toList = eS at *
 generalize stO tj.data.toList = oS at *
 clear hS l0 l1 l2 l3 hz
 have hut := Tryz.underlying91
 have hus := Tryz.underlying89
 have bz : ∀ W, (Instr.build 91 #[]).run Tryz.prog W = .ok (.agg (#[.int .u64 0, .int .i64 0, .int .i64 0, .int .i64 0, .int .i64 0, .int .u64 0, .int .u64 0, .int .u64 0, .int .u64 0, .int .u64 0, .int .u64 0, .int .u64 0, .int .u64 0, .int .u64 0, .int .u64 0, .int .u64 0, .int .u64 0, .int .u64 0, .int .u64 0, .int .u64 0, .int .u64 0, .int .u64 0, .int .u64 0, .slice none 0 0])) W := fun W => run_build W 91 #[] _ st_zero
 have HSI : Hid ((Tryz.prog.info? 91).map (·.size) = some (#[.int .u64 0, .int .i64 0, .int .i64 0, .int .i64 0, .int .i64 0, .int .u64 0, .int .u64 0, .int .u64 0, .int .u64 0, .int .u64 0, .int .u64 0, .int .u64 0, .int .u64 0, .int .u64 0, .int .u64 0, .int .u64 0, .int .u64 0, .int .u64 0, .int .u64 0, .int .u64 0, .int .u64 0, .int .u64 0, .int .u64 0, .slice none 0 0] : Array Value).size) := Lib.hid st_info
 have HSIL : Hid ((Tryz.prog.info? 91).map (·.size) = some (#[.int .u64 0, .int .i64 0, .int .i64 0, .int .i64 0, .int .i64 0, .int .u64 0, .int .u64 0, .int .u64 0, .int .u64 0, .int .u64 0, .int .u64 0, .int .u64 0, .int .u64 0, .int .u64 0, .int .u64 0, .int .u64 0, .int .u64 0, .int .u64 0, .int .u64 0, .int .u64 0, .int .u64 0, .int .u64 0, .int .u64 0, .slice none 0 0] : Array Value).toList.length) := Lib.hid st_info
 have HON : Hid ((#[.int .u64 0, .int .i64 0, .int .i64 0, .int .i64 0, .int .i64 0, .int .u64 0, .int .u64 0, .int .u64 0, .int .u64 0, .int .u64 0, .int .u64 0, .int .u64 0, .int .u64 0, .int .u64 0, .int .u64 0, .int .u64 0, .int .u64 0, .int .u64 0, .int .u64 0, .int .u64 0, .int .u64 0, .int .u64 0, .int .u64 0, .slice none 0 0] : Array Value).all (·.oneCell') = true) := Lib.hid (by simp [Value.oneCell'])
 have z0 := Ag.new w 91 (#[.int .u64 0, .int .i64 0, .int .i64 0, .int .i64 0, .int .i64 0, .int .u64 0, .int .u64 0, .int .u64 0, .int .u64 0, .int .u64 0, .int .u64 0, .int .u64 0, .int .u64 0, .int .u64 0, .int .u64 0, .int .u64 0, .int .u64 0, .int .u64 0, .int .u64 0, .int .u64 0, .int .u64 0, .int .u64 0, .int .u64 0, .slice none 0 0])
 have g0 := grew_alloc (grew_refl w) (.cells (#[.int .u64 0, .int .i64 0, .int .i64 0, .int .i64 0, .int .i64 0, .int .u64 0, .int .u64 0, .int .u64 0, .int .u64 0, .int .u64 0, .int .u64 0, .int .u64 0, .int .u64 0, .int .u64 0, .int .u64 0, .int .u64 0, .int .u64 0, .int .u64 0, .int .u64 0, .int .u64 0, .int .u64 0, .int .u64 0, .int .u64 0, .slice none 0 0]) 91)
 go_enter Tryz.func81, Tryz.ntmps81
 go_wp2_with fail
 refine (CS.out _).mono ?_
 rintro e w1 ⟨⟨v1, rfl, o1⟩, gg⟩
 have z1 := z0.grew gg
 have g1 := grew_trans g0 gg
 obtain ⟨g, k1, rfl, hk1, hgl, hcs⟩ := own_cells o1 (by simp)
 have x0 : w1.cell? ⟨g, 0, none⟩ = some (.string t0) := by simpa using hcs 0 (.string t0) rfl
 have x1 : w1.cell? ⟨g, 1, none⟩ = some (.string t1) := by simpa using hcs 1 (.string t1) rfl
 have x2 : w1.cell? ⟨g, 2, none⟩ = some (.string t2) := by simpa using hcs 2 (.string t2) rfl
 have x3 : w1.cell? ⟨g, 3, none⟩ = some (.string t3) := by simpa using hcs 3 (.string t3) rfl
 clear CS z0 g0 gg o1 hcs
 have hk1' : (4 : Int) ≤ (k1 : Int) := by
  have : 4 ≤ k1 := hk1
  omega
 go_wp2_with fail
 refine (N1.out _ (HS.out.grew g1)).mono ?_
 rintro e w2 ⟨rfl, gg⟩
 have y0 := (gg.cell (p := ⟨g, 0, none⟩) hgl).trans x0
 have y2 := (gg.cell (p := ⟨g, 2, none⟩) hgl).trans x2
 have y3 := (gg.cell (p := ⟨g, 3, none⟩) hgl).trans x3
 have hgl2 := Nat.lt_of_lt_of_le hgl gg.size
 have z2 := z1.grew gg
 have g2 := grew_trans g1 gg
 clear N1 x0 x1 x2 x3 z1 g1 gg hgl
 go_wp2_with fail
 refine (N2.out _ (HS.out.grew g2)).mono ?_
 rintro e w3 ⟨rfl, gg⟩
 have x0 := (gg.cell (p := ⟨g, 0, none⟩) hgl2).trans y0
 have x3 := (gg.cell (p := ⟨g, 3, none⟩) hgl2).trans y3
 have hgl3 := Nat.lt_of_lt_of_le hgl2 gg.size
 have z3 := z2.grew gg
 have g3 := grew_trans g2 gg
 clear N2 y0 y2 y3 z2 g2 gg hgl2
 by_cases h1 : a1 = 0
 case neg =>
  have HE := HEZ _ (by simp [h1]) HE0.out
  have e1 : (a1 != 0) = true := by simpa using h1
  clear h1 HE0
  have HTH : Hid (w3.there w.heap.size 0 (#[.int .u64 0, .int .i64 0, .int .i64 0, .int .i64 0, .int .i64 0, .int .u64 0, .int .u64 0, .int .u64 0, .int .u64 0, .int .u64 0, .int .u64 0, .int .u64 0, .int .u64 0, .int .u64 0, .int .u64 0, .int .u64 0, .int .u64 0, .int .u64 0, .int .u64 0, .int .u64 0, .int .u64 0, .int .u64 0, .int .u64 0, .slice none 0 0] : Array Value).size) := Lib.hid (z3.thereN 24 rfl)
  have zZ := Ag.set (vs := (#[.int .u64 0, .int .i64 0, .int .i64 0, .int .i64 0, .int .i64 0, .int .u64 0, .int .u64 0, .int .u64 0, .int .u64 0, .int .u64 0, .int .u64 0, .int .u64 0, .int .u64 0, .int .u64 0, .int .u64 0, .int .u64 0, .int .u64 0, .int .u64 0, .int .u64 0, .int .u64 0, .int .u64 0, .int .u64 0, .int .u64 0, .slice none 0 0] : Array Value).toList) z3 rfl
  have gZ := setCells_grew (o := 0) (b := w.heap.size) (#[.int .u64 0, .int .i64 0, .int .i64 0, .int .i64 0, .int .i64 0, .int .u64 0, .int .u64 0, .int .u64 0, .int .u64 0, .int .u64 0, .int .u64 0, .int .u64 0, .int .u64 0, .int .u64 0, .int .u64 0, .int .u64 0, .int .u64 0, .int .u64 0, .int .u64 0, .int .u64 0, .int .u64 0, .int .u64 0, .int .u64 0, .slice none 0 0] : Array Value).toList g3 (Nat.le_refl _)
  go_wp2_with (first
   | (with_reducible refine wpList_store_mid rfl 91 (.tmp 2) (.tmp 53) rfl w.heap.size 0 (#[.int .u64 0, .int .i64 0, .int .i64 0, .int .i64 0, .int .i64 0, .int .u64 0, .int .u64 0, .int .u64 0, .int .u64 0, .int .u64 0, .int .u64 0, .int .u64 0, .int .u64 0, .int .u64 0, .int .u64 0, .int .u64 0, .int .u64 0, .int .u64 0, .int .u64 0, .int .u64 0, .int .u64 0, .int .u64 0, .int .u64 0, .slice none 0 0]) rfl rfl HTH.out HSI.out HON.out ?_))
  exact bodyPost_ret (results_ag2 Tryz.results81 _ _ w.heap.size _ _ _ rfl rfl zZ hut rfl HSIL.out) rfl ⟨⟨none, 0, by rw [HE.out.1, HE.out.2]; rfl, by rw [HE.out.2]; exact fun k hk => absurd hk (by simp [StR.zero, u64L]), fun ad h => by cases h⟩, gZ⟩
 subst h1
 by_cases h2 : a2 = 0
 case neg =>
  have HE := HEZ _ (by simp [h2]) HE0.out
  have e1 : (a2 != 0) = true := by simpa using h2
  clear h2 HE0
  have HTH : Hid (w3.there w.heap.size 0 (#[.int .u64 0, .int .i64 0, .int .i64 0, .int .i64 0, .int .i64 0, .int .u64 0, .int .u64 0, .int .u64 0, .int .u64 0, .int .u64 0, .int .u64 0, .int .u64 0, .int .u64 0, .int .u64 0, .int .u64 0, .int .u64 0, .int .u64 0, .int .u64 0, .int .u64 0, .int .u64 0, .int .u64 0, .int .u64 0, .int .u64 0, .slice none 0 0] : Array Value).size) := Lib.hid (z3.thereN 24 rfl)
  have zZ := Ag.set (vs := (#[.int .u64 0, .int .i64 0, .int .i64 0, .int .i64 0, .int .i64 0, .int .u64 0, .int .u64 0, .int .u64 0, .int .u64 0, .int .u64 0, .int .u64 0, .int .u64 0, .int .u64 0, .int .u64 0, .int .u64 0, .int .u64 0, .int .u64 0, .int .u64 0, .int .u64 0, .int .u64 0, .int .u64 0, .int .u64 0, .int .u64 0, .slice none 0 0] : Array Value).toList) z3 rfl
  have gZ := setCells_grew (o := 0) (b := w.heap.size) (#[.int .u64 0, .int .i64 0, .int .i64 0, .int .i64 0, .int .i64 0, .int .u64 0, .int .u64 0, .int .u64 0, .int .u64 0, .int .u64 0, .int .u64 0, .int .u64 0, .int .u64 0, .int .u64 0, .int .u64 0, .int .u64 0, .int .u64 0, .int .u64 0, .int .u64 0, .int .u64 0, .int .u64 0, .int .u64 0, .int .u64 0, .slice none 0 0] : Array Value).toList g3 (Nat.le_refl _)
  go_wp2_with (first
   | (with_reducible refine wpList_store_mid rfl 91 (.tmp 2) (.tmp 53) rfl w.heap.size 0 (#[.int .u64 0, .int .i64 0, .int .i64 0, .int .i64 0, .int .i64 0, .int .u64 0, .int .u64 0, .int .u64 0, .int .u64 0, .int .u64 0, .int .u64 0, .int .u64 0, .int .u64 0, .int .u64 0, .int .u64 0, .int .u64 0, .int .u64 0, .int .u64 0, .int .u64 0, .int .u64 0, .int .u64 0, .int .u64 0, .int .u64 0, .slice none 0 0]) rfl rfl HTH.out HSI.out HON.out ?_))
  exact bodyPost_ret (results_ag2 Tryz.results81 _ _ w.heap.size _ _ _ rfl rfl zZ hut rfl HSIL.out) rfl ⟨⟨none, 0, by rw [HE.out.1, HE.out.2]; rfl, by rw [HE.out.2]; exact fun k hk => absurd hk (by simp [StR.zero, u64L]), fun ad h => by cases h⟩, gZ⟩
 subst h2
 by_cases h3 : -2147483648 ≤ n1 ∧ n1 ≤ 2147483647
 case neg =>
  have HE := HEZ _ (by simp [smallB, h3]) HE0.out
  clear HE0
  have HTH : Hid (w3.there w.heap.size 0 (#[.int .u64 0, .int .i64 0, .int .i64 0, .int .i64 0, .int .i64 0, .int .u64 0, .int .u64 0, .int .u64 0, .int .u64 0, .int .u64 0, .int .u64 0, .int .u64 0, .int .u64 0, .int .u64 0, .int .u64 0, .int .u64 0, .int .u64 0, .int .u64 0, .int .u64 0, .int .u64 0, .int .u64 0, .int .u64 0, .int .u64 0, .slice none 0 0] : Array Value).size) := Lib.hid (z3.thereN 24 rfl)
  have zZ := Ag.set (vs := (#[.int .u64 0, .int .i64 0, .int .i64 0, .int .i64 0, .int .i64 0, .int .u64 0, .int .u64 0, .int .u64 0, .int .u64 0, .int .u64 0, .int .u64 0, .int .u64 0, .int .u64 0, .int .u64 0, .int .u64 0, .int .u64 0, .int .u64 0, .int .u64 0, .int .u64 0, .int .u64 0, .int .u64 0, .int .u64 0, .int .u64 0, .slice none 0 0] : Array Value).toList) z3 rfl
  have gZ := setCells_grew (o := 0) (b := w.heap.size) (#[.int .u64 0, .int .i64 0, .int .i64 0, .int .i64 0, .int .i64 0, .int .u64 0, .int .u64 0, .int .u64 0, .int .u64 0, .int .u64 0, .int .u64 0, .int .u64 0, .int .u64 0, .int .u64 0, .int .u64 0, .int .u64 0, .int .u64 0, .int .u64 0, .int .u64 0, .int .u64 0, .int .u64 0, .int .u64 0, .int .u64 0, .slice none 0 0] : Array Value).toList g3 (Nat.le_refl _)
  rcases (show n1 < -2147483648 ∨ (¬ n1 < -2147483648 ∧ 2147483647 < n1) by omega) with h | ⟨h, h'⟩
  ·have e1 : decide (n1 < -2147483648) = true := decide_eq_true h
   clear h3 h
   go_wp2_with (first
    | (with_reducible refine wpList_store_mid rfl 91 (.tmp 2) (.tmp 53) rfl w.heap.size 0 (#[.int .u64 0, .int .i64 0, .int .i64 0, .int .i64 0, .int .i64 0, .int .u64 0, .int .u64 0, .int .u64 0, .int .u64 0, .int .u64 0, .int .u64 0, .int .u64 0, .int .u64 0, .int .u64 0, .int .u64 0, .int .u64 0, .int .u64 0, .int .u64 0, .int .u64 0, .int .u64 0, .int .u64 0, .int .u64 0, .int .u64 0, .slice none 0 0]) rfl rfl HTH.out HSI.out HON.out ?_))
   exact bodyPost_ret (results_ag2 Tryz.results81 _ _ w.heap.size _ _ _ rfl rfl zZ hut rfl HSIL.out) rfl ⟨⟨none, 0, by rw [HE.out.1, HE.out.2]; rfl, by rw [HE.out.2]; exact fun k hk => absurd hk (by simp [StR.zero, u64L]), fun ad h => by cases h⟩, gZ⟩
  ·have e1 : decide (n1 < -2147483648) = false := decide_eq_false h
   have e2 : decide (2147483647 < n1) = true := decide_eq_true h'
   clear h3 h h'
   go_wp2_with (first
    | (with_reducible refine wpList_store_mid rfl 91 (.tmp 2) (.tmp 53) rfl w.heap.size 0 (#[.int .u64 0, .int .i64 0, .int .i64 0, .int .i64 0, .int .i64 0, .int .u64 0, .int .u64 0, .int .u64 0, .int .u64 0, .int .u64 0, .int .u64 0, .int .u64 0, .int .u64 0, .int .u64 0, .int .u64 0, .int .u64 0, .int .u64 0, .int .u64 0, .int .u64 0, .int .u64 0, .int .u64 0, .int .u64 0, .int .u64 0, .slice none 0 0]) rfl rfl HTH.out HSI.out HON.out ?_))
   exact bodyPost_ret (results_ag2 Tryz.results81 _ _ w.heap.size _ _ _ rfl rfl zZ hut rfl HSIL.out) rfl ⟨⟨none, 0, by rw [HE.out.1, HE.out.2]; rfl, by rw [HE.out.2]; exact fun k hk => absurd hk (by simp [StR.zero, u64L]), fun ad h => by cases h⟩, gZ⟩
 have hw1 : ¬ n1 < -2147483648 := by omega
 have hw2 : ¬ 2147483647 < n1 := by omega
 have HB3 : Hid (smallB n1 = true) := Lib.hid (decide_eq_true h3)
 clear h3
 go_wp2_with (fail)
 refine (HP.out _).mono ?_
 rintro e v3 ⟨rfl, rfl⟩
 cases o0 with
 | none =>
  have HE := HEZ _ (by simp) HE0.out
  clear HE0
  have HTH : Hid (w3.there w.heap.size 0 (#[.int .u64 0, .int .i64 0, .int .i64 0, .int .i64 0, .int .i64 0, .int .u64 0, .int .u64 0, .int .u64 0, .int .u64 0, .int .u64 0, .int .u64 0, .int .u64 0, .int .u64 0, .int .u64 0, .int .u64 0, .int .u64 0, .int .u64 0, .int .u64 0, .int .u64 0, .int .u64 0, .int .u64 0, .int .u64 0, .int .u64 0, .slice none 0 0] : Array Value).size) := Lib.hid (z3.thereN 24 rfl)
  have zZ := Ag.set (vs := (#[.int .u64 0, .int .i64 0, .int .i64 0, .int .i64 0, .int .i64 0, .int .u64 0, .int .u64 0, .int .u64 0, .int .u64 0, .int .u64 0, .int .u64 0, .int .u64 0, .int .u64 0, .int .u64 0, .int .u64 0, .int .u64 0, .int .u64 0, .int .u64 0, .int .u64 0, .int .u64 0, .int .u64 0, .int .u64 0, .int .u64 0, .slice none 0 0] : Array Value).toList) z3 rfl
  have gZ := setCells_grew (o := 0) (b := w.heap.size) (#[.int .u64 0, .int .i64 0, .int .i64 0, .int .i64 0, .int .i64 0, .int .u64 0, .int .u64 0, .int .u64 0, .int .u64 0, .int .u64 0, .int .u64 0, .int .u64 0, .int .u64 0, .int .u64 0, .int .u64 0, .int .u64 0, .int .u64 0, .int .u64 0, .int .u64 0, .int .u64 0, .int .u64 0, .int .u64 0, .int .u64 0, .slice none 0 0] : Array Value).toList g3 (Nat.le_refl _)
  rw [parseRes_none]
  go_wp2_with (first
   | (with_reducible refine wpList_store_mid rfl 91 (.tmp 2) (.tmp 63) rfl w.heap.size 0 (#[.int .u64 0, .int .i64 0, .int .i64 0, .int .i64 0, .int .i64 0, .int .u64 0, .int .u64 0, .int .u64 0, .int .u64 0, .int .u64 0, .int .u64 0, .int .u64 0, .int .u64 0, .int .u64 0, .int .u64 0, .int .u64 0, .int .u64 0, .int .u64 0, .int .u64 0, .int .u64 0, .int .u64 0, .int .u64 0, .int .u64 0, .slice none 0 0]) rfl rfl HTH.out HSI.out HON.out ?_))
  exact bodyPost_ret (results_ag2 Tryz.results81 _ _ w.heap.size _ _ _ rfl rfl zZ hut rfl HSIL.out) rfl ⟨⟨none, 0, by rw [HE.out.1, HE.out.2]; rfl, by rw [HE.out.2]; exact fun k hk => absurd hk (by simp [StR.zero, u64L]), fun ad h => by cases h⟩, gZ⟩
 | some cm =>
  rw [parseRes_some]
  go_wp2_with fail
  refine (KP.out _ (HS.out.grew g3)).mono ?_
  rintro e w4 ⟨⟨A, c, rfl, r4, hA4⟩, gg⟩
  have z4 := z3.grew gg
  have g4 := grew_trans g3 gg
  have HSI1 : Hid ((Tryz.prog.info? 89).map (·.size) = some (sgC sw lf s (.slice A l.length c)).size) := Lib.hid sg_info
  have HSL1 : Hid ((Tryz.prog.info? 89).map (·.size) = some (sgC sw lf s (.slice A l.length c)).toList.length) := Lib.hid sg_info
  have HON1 := Lib.hid (sgC_one sw lf s A l.length c)
  have HBU := Lib.hid (st_built cm n1 n2 sw lf s A l.length c)
  have zt := Ag.new w4 89 (#[.int .i64 0, .int .i64 0, .int .u64 0, .int .u64 0, .int .u64 0, .int .u64 0, .int .u64 0, .int .u64 0, .int .u64 0, .int .u64 0, .int .u64 0, .int .u64 0, .int .u64 0, .int .u64 0, .int .u64 0, .int .u64 0, .int .u64 0, .int .u64 0, .int .u64 0, .int .u64 0, .slice none 0 0])
  have HTH1 : Hid ((w4.alloc (.cells (#[.int .i64 0, .int .i64 0, .int .u64 0, .int .u64 0, .int .u64 0, .int .u64 0, .int .u64 0, .int .u64 0, .int .u64 0, .int .u64 0, .int .u64 0, .int .u64 0, .int .u64 0, .int .u64 0, .int .u64 0, .int .u64 0, .int .u64 0, .int .u64 0, .int .u64 0, .int .u64 0, .slice none 0 0]) 89)).there w4.heap.size 0 (sgC sw lf s (.slice A l.length c)).size) := Lib.hid (zt.thereN 21 rfl)
  have z5 := Ag.set (vs := (sgC sw lf s (.slice A l.length c)).toList) zt rfl
  have g5 : Grew w4 ((w4.alloc (.cells (#[.int .i64 0, .int .i64 0, .int .u64 0, .int .u64 0, .int .u64 0, .int .u64 0, .int .u64 0, .int .u64 0, .int .u64 0, .int .u64 0, .int .u64 0, .int .u64 0, .int .u64 0, .int .u64 0, .int .u64 0, .int .u64 0, .int .u64 0, .int .u64 0, .int .u64 0, .int .u64 0, .slice none 0 0]) 89)).setCells w4.heap.size 0 (sgC sw lf s (.slice A l.length c)).toList) := setCells_grew (o := 0) (b := w4.heap.size) (sgC sw lf s (.slice A l.length c)).toList (grew_alloc (grew_refl w4) _) (Nat.le_refl _)
  have z6 := z4.grew g5
  have r6 := r4.gr g5
  have g6 := grew_trans g4 g5
  obtain ⟨g1, hg1⟩ : ∃ g, sgC sw lf s (.slice A l.length c) = g := ⟨_, rfl⟩
  rw [hg1] at HSI1 HSL1 HON1 HTH1 HBU z5 z6 r6 g6 ⊢
  obtain ⟨w6, hw6⟩ : ∃ v, (w4.alloc (.cells (#[.int .i64 0, .int .i64 0, .int .u64 0, .int .u64 0, .int .u64 0, .int .u64 0, .int .u64 0, .int .u64 0, .int .u64 0, .int .u64 0, .int .u64 0, .int .u64 0, .int .u64 0, .int .u64 0, .int .u64 0, .int .u64 0, .int .u64 0, .int .u64 0, .int .u64 0, .int .u64 0, .slice none 0 0]) 89)).setCells w4.heap.size 0 g1.toList = v := ⟨_, rfl⟩
  rw [hw6] at z5 z6 r6 g6
  have HW6 := Lib.hid hw6
  have hm5 := z5.cell
  have hz3 := z3.lt
  have HFR : Hid (∀ ad, A = some ad → w.heap.size < ad.block) := Lib.hid (fun ad e => by have := hA4 ad e; omega)
  clear hz3 hA4 hw6 hg1 zt g5 x0 x3 z3 g3 z4 g4 gg r4 hgl3 KP HP
  cases b3 with
  | false =>
   have HE := HEZ _ (by simp) HE0.out
   have he3 : e3 = 2 := HO3.out
   subst he3
   clear HE0 HO3
   have HTH : Hid (w6.there w.heap.size 0 (#[.int .u64 0, .int .i64 0, .int .i64 0, .int .i64 0, .int .i64 0, .int .u64 0, .int .u64 0, .int .u64 0, .int .u64 0, .int .u64 0, .int .u64 0, .int .u64 0, .int .u64 0, .int .u64 0, .int .u64 0, .int .u64 0, .int .u64 0, .int .u64 0, .int .u64 0, .int .u64 0, .int .u64 0, .int .u64 0, .int .u64 0, .slice none 0 0] : Array Value).size) := Lib.hid (z6.thereN 24 rfl)
   have zZ := Ag.set (vs := (#[.int .u64 0, .int .i64 0, .int .i64 0, .int .i64 0, .int .i64 0, .int .u64 0, .int .u64 0, .int .u64 0, .int .u64 0, .int .u64 0, .int .u64 0, .int .u64 0, .int .u64 0, .int .u64 0, .int .u64 0, .int .u64 0, .int .u64 0, .int .u64 0, .int .u64 0, .int .u64 0, .int .u64 0, .int .u64 0, .int .u64 0, .slice none 0 0] : Array Value).toList) z6 rfl
   have gZ := setCells_grew (o := 0) (b := w.heap.size) (#[.int .u64 0, .int .i64 0, .int .i64 0, .int .i64 0, .int .i64 0, .int .u64 0, .int .u64 0, .int .u64 0, .int .u64 0, .int .u64 0, .int .u64 0, .int .u64 0, .int .u64 0, .int .u64 0, .int .u64 0, .int .u64 0, .int .u64 0, .int .u64 0, .int .u64 0, .int .u64 0, .int .u64 0, .int .u64 0, .int .u64 0, .slice none 0 0] : Array Value).toList g6 (Nat.le_refl _)
   go_wp2_with (first
    | (with_reducible refine wpList_store_mid rfl 89 (.tmp 11) (.tmp 70) rfl w4.heap.size 0 g1 rfl rfl HTH1.out HSI1.out HON1.out ?_; rw [HW6.out]; clear HW6 HTH1)
    | (with_reducible refine wpList_store_mid rfl 91 (.tmp 2) (.tmp 74) rfl w.heap.size 0 (#[.int .u64 0, .int .i64 0, .int .i64 0, .int .i64 0, .int .i64 0, .int .u64 0, .int .u64 0, .int .u64 0, .int .u64 0, .int .u64 0, .int .u64 0, .int .u64 0, .int .u64 0, .int .u64 0, .int .u64 0, .int .u64 0, .int .u64 0, .int .u64 0, .int .u64 0, .int .u64 0, .int .u64 0, .int .u64 0, .int .u64 0, .slice none 0 0]) rfl rfl HTH.out HSI.out HON.out ?_))
   exact bodyPost_ret (results_ag2 Tryz.results81 _ _ w.heap.size _ _ _ rfl rfl zZ hut rfl HSIL.out) rfl ⟨⟨none, 0, by rw [HE.out.1, HE.out.2]; rfl, by rw [HE.out.2]; exact fun k hk => absurd hk (by simp [StR.zero, u64L]), fun ad h => by cases h⟩, gZ⟩
  | true =>
   have he3 : e3 = 0 := HO3.out
   subst he3
   have HE : Hid (eS = 0 ∧ oS = ⟨cm, n1, n2, ((sw, lf), s, l)⟩) := Lib.hid (by have := HE0.out; simpa [HB3.out] using this)
   clear HE0 HO3
   have HTZ : Hid (w6.there w.heap.size 0 (stC cm n1 n2 sw lf s (.slice A l.length c)).size) := Lib.hid (z6.thereN 24 rfl)
   have HOZ := Lib.hid (stC_one cm n1 n2 sw lf s A l.length c)
   have HSZ : Hid ((Tryz.prog.info? 91).map (·.size) = some (stC cm n1 n2 sw lf s (.slice A l.length c)).size) := Lib.hid st_info
   have HSZL : Hid ((Tryz.prog.info? 91).map (·.size) = some (stC cm n1 n2 sw lf s (.slice A l.length c)).toList.length) := Lib.hid st_info
   have z7 := Ag.set (vs := (stC cm n1 n2 sw lf s (.slice A l.length c)).toList) z6 rfl
   have K7 := setCells_kp (stC cm n1 n2 sw lf s (.slice A l.length c)).toList w.heap.size 0 w6
   have G7 := setCells_grew (o := 0) (b := w.heap.size) (stC cm n1 n2 sw lf s (.slice A l.length c)).toList g6 (Nat.le_refl _)
   have R7 : Rd (w6.setCells w.heap.size 0 (stC cm n1 n2 sw lf s (.slice A l.length c)).toList) (w6.setCells w.heap.size 0 (stC cm n1 n2 sw lf s (.slice A l.length c)).toList).heap.size A (u64L l) :=
    (r6.kp K7 (Nat.le_refl _) (fun ad e1 _ (e3 : ad.block = w.heap.size) => by have := HFR.out ad e1; omega)).more K7.size
   obtain ⟨g2, hg2⟩ : ∃ g, stC cm n1 n2 sw lf s (.slice A l.length c) = g := ⟨_, rfl⟩
   have HG2' := Lib.hid hg2
   rw [hg2] at HTZ HOZ HSZ HSZL HBU z7 G7 R7
   clear z6 K7 r6 g6 hg2
   go_wp2_with (first
    | (with_reducible refine wpList_store_mid rfl 89 (.tmp 11) (.tmp 70) rfl w4.heap.size 0 g1 rfl rfl HTH1.out HSI1.out HON1.out ?_; rw [HW6.out]; clear HW6 HTH1)
    | (with_reducible refine wpList_load_mid rfl 89 (.tmp 11) rfl w4.heap.size 0 rfl g1.toList _ hm5 hus rfl HSL1.out ?_; simp only [Array.toArray_toList])
    | (with_reducible refine wpList_build_is rfl 91 #[(0, .tmp 76), (1, .tmp 77), (2, .tmp 78), (3, .tmp 79)] rfl g2 ?_ ?_; · simpa [Act.eval, Act.put] using HBU.out)
    | (with_reducible refine wpList_store_mid rfl 91 (.tmp 2) (.tmp 80) rfl w.heap.size 0 g2 rfl rfl HTZ.out HSZ.out HOZ.out ?_))
   exact bodyPost_ret (results_ag2 Tryz.results81 _ _ w.heap.size _ _ _ rfl rfl z7 hut rfl HSZL.out) rfl ⟨⟨A, c, by rw [HE.out.1, HE.out.2]; show Ending.returned (.tuple #[.agg g2.toList.toArray, .int .i64 0]) = _; rw [Array.toArray_toList, ← HG2'.out]; rfl, by rw [HE.out.2]; exact R7, HFR.out⟩, G7⟩
theorem stparse_any (tj : ByteArray) (hz : tj.size ≤ 1000000) (w : World) (hS : Std w) :
 Calls Tryz.prog 81 #[.string tj] w fun e w' => (∃ A c, e = .returned (.tuple #[.agg ((stO tj.data.toList).v (.slice A (stO tj.data.toList).g.2.2.length c)), .int .i64 (stE tj.data.toList)]) ∧ Rd w' w'.heap.size A (u64L (stO tj.data.toList).g.2.2) ∧ (∀ ad, A = some ad → w.heap.size < ad.block)) ∧ Grew w w' := by
 have hlen : tj.data.toList.length ≤ 1000000 := by rw [ba_len]; exact hz
 by_cases h4 : ∃ x0 x1 x2 x3, splitF tj.data.toList = some [x0, x1, x2, x3]
 ·obtain ⟨x0, x1, x2, x3, hsp⟩ := h4
  have g := fun x hx => Nat.le_trans (split_ge hsp x hx) hlen
  exact stparse_four tj x0 x1 x2 x3 hsp hz (g x0 (by simp)) (g x1 (by simp)) (g x2 (by simp)) (g x3 (by simp)) w hS
 ·exact stparse_split tj hz (fun a b c d h => h4 ⟨a, b, c, d, h⟩) w
end Go.Proofs.YtpppegnojmnicaaGreatDoor

namespace Go.Proofs.YtpppegnojmnicaaGreatDoor
set_option linter.unusedSimpArgs false
set_option linter.unusedVariables false
open Go.RowKit
set_option linter.unusedVariables false
set_option linter.unusedSimpArgs false
set_option maxRecDepth 100000 in
theorem rst_built (cm : Nat) (who at_ sw lf : Int) (s : Nat → Nat) (A : Option Addr) (n c : Nat) : Tryz.prog.built 169 [(0, .int .u64 (cm : Nat)), (1, .int .i64 who), (2, .int .i64 at_), (3, .agg (sgC sw lf s (.slice A n c)))] = some (stC cm who at_ sw lf s (.slice A n c)) := by kernel_rfl
set_option maxRecDepth 100000 in
theorem rst_zero : Tryz.prog.built 169 [] = some (#[.int .u64 0, .int .i64 0, .int .i64 0, .int .i64 0, .int .i64 0, .int .u64 0, .int .u64 0, .int .u64 0, .int .u64 0, .int .u64 0, .int .u64 0, .int .u64 0, .int .u64 0, .int .u64 0, .int .u64 0, .int .u64 0, .int .u64 0, .int .u64 0, .int .u64 0, .int .u64 0, .int .u64 0, .int .u64 0, .int .u64 0, .slice none 0 0]) := by kernel_rfl
theorem rst_info : (Tryz.prog.info? 169).map (·.size) = some 24 := by kernel_rfl
set_option maxRecDepth 100000 in
set_option maxHeartbeats 1000000 in
theorem rstparse_split (tj : ByteArray) (hz : tj.size ≤ 1000000) (hno : ∀ x0 x1 x2 x3, splitF tj.data.toList ≠ some [x0, x1, x2, x3]) (w : World) :
 Calls Tryz.prog 88 #[.string tj] w fun e w' => (∃ A c, e = .returned (.tuple #[.agg ((stO tj.data.toList).v (.slice A (stO tj.data.toList).g.2.2.length c)), .int .i64 (stE tj.data.toList)]) ∧ Rd w' w'.heap.size A (u64L (stO tj.data.toList).g.2.2) ∧ (∀ ad, A = some ad → w.heap.size < ad.block)) ∧ Grew w w' := by
 have hut := Tryz.underlying169
 have hus := Tryz.underlying132
 have bz : ∀ W, (Instr.build 169 #[]).run Tryz.prog W = .ok (.agg (#[.int .u64 0, .int .i64 0, .int .i64 0, .int .i64 0, .int .i64 0, .int .u64 0, .int .u64 0, .int .u64 0, .int .u64 0, .int .u64 0, .int .u64 0, .int .u64 0, .int .u64 0, .int .u64 0, .int .u64 0, .int .u64 0, .int .u64 0, .int .u64 0, .int .u64 0, .int .u64 0, .int .u64 0, .int .u64 0, .int .u64 0, .slice none 0 0])) W := fun W => run_build W 169 #[] _ rst_zero
 have HSI : Hid ((Tryz.prog.info? 169).map (·.size) = some (#[.int .u64 0, .int .i64 0, .int .i64 0, .int .i64 0, .int .i64 0, .int .u64 0, .int .u64 0, .int .u64 0, .int .u64 0, .int .u64 0, .int .u64 0, .int .u64 0, .int .u64 0, .int .u64 0, .int .u64 0, .int .u64 0, .int .u64 0, .int .u64 0, .int .u64 0, .int .u64 0, .int .u64 0, .int .u64 0, .int .u64 0, .slice none 0 0] : Array Value).size) := Lib.hid rst_info
 have HSIL : Hid ((Tryz.prog.info? 169).map (·.size) = some (#[.int .u64 0, .int .i64 0, .int .i64 0, .int .i64 0, .int .i64 0, .int .u64 0, .int .u64 0, .int .u64 0, .int .u64 0, .int .u64 0, .int .u64 0, .int .u64 0, .int .u64 0, .int .u64 0, .int .u64 0, .int .u64 0, .int .u64 0, .int .u64 0, .int .u64 0, .int .u64 0, .int .u64 0, .int .u64 0, .int .u64 0, .slice none 0 0] : Array Value).toList.length) := Lib.hid rst_info
 have HON : Hid ((#[.int .u64 0, .int .i64 0, .int .i64 0, .int .i64 0, .int .i64 0, .int .u64 0, .int .u64 0, .int .u64 0, .int .u64 0, .int .u64 0, .int .u64 0, .int .u64 0, .int .u64 0, .int .u64 0, .int .u64 0, .int .u64 0, .int .u64 0, .int .u64 0, .int .u64 0, .int .u64 0, .int .u64 0, .int .u64 0, .int .u64 0, .slice none 0 0] : Array Value).all (·.oneCell') = true) := Lib.hid (by simp [Value.oneCell'])
 have z0 := Ag.new w 169 (#[.int .u64 0, .int .i64 0, .int .i64 0, .int .i64 0, .int .i64 0, .int .u64 0, .int .u64 0, .int .u64 0, .int .u64 0, .int .u64 0, .int .u64 0, .int .u64 0, .int .u64 0, .int .u64 0, .int .u64 0, .int .u64 0, .int .u64 0, .int .u64 0, .int .u64 0, .int .u64 0, .int .u64 0, .int .u64 0, .int .u64 0, .slice none 0 0])
 have g0 := grew_alloc (grew_refl w) (.cells (#[.int .u64 0, .int .i64 0, .int .i64 0, .int .i64 0, .int .i64 0, .int .u64 0, .int .u64 0, .int .u64 0, .int .u64 0, .int .u64 0, .int .u64 0, .int .u64 0, .int .u64 0, .int .u64 0, .int .u64 0, .int .u64 0, .int .u64 0, .int .u64 0, .int .u64 0, .int .u64 0, .int .u64 0, .int .u64 0, .int .u64 0, .slice none 0 0]) 169)
 have CS := Lib.hid (fun W => rsplit_ok tj (by omega) W)
 go_enter Tryz.func88, Tryz.ntmps88
 go_wp2_with fail
 refine (CS.out _).mono ?_
 rintro e w1 ⟨hs, gg⟩
 have z1 := z0.grew gg
 have g1 := grew_trans g0 gg
 have HTH : Hid (w1.there w.heap.size 0 (#[.int .u64 0, .int .i64 0, .int .i64 0, .int .i64 0, .int .i64 0, .int .u64 0, .int .u64 0, .int .u64 0, .int .u64 0, .int .u64 0, .int .u64 0, .int .u64 0, .int .u64 0, .int .u64 0, .int .u64 0, .int .u64 0, .int .u64 0, .int .u64 0, .int .u64 0, .int .u64 0, .int .u64 0, .int .u64 0, .int .u64 0, .slice none 0 0] : Array Value).size) := Lib.hid (z1.thereN 24 rfl)
 have zZ := Ag.set (vs := (#[.int .u64 0, .int .i64 0, .int .i64 0, .int .i64 0, .int .i64 0, .int .u64 0, .int .u64 0, .int .u64 0, .int .u64 0, .int .u64 0, .int .u64 0, .int .u64 0, .int .u64 0, .int .u64 0, .int .u64 0, .int .u64 0, .int .u64 0, .int .u64 0, .int .u64 0, .int .u64 0, .int .u64 0, .int .u64 0, .int .u64 0, .slice none 0 0] : Array Value).toList) z1 rfl
 have gZ := setCells_grew (o := 0) (b := w.heap.size) (#[.int .u64 0, .int .i64 0, .int .i64 0, .int .i64 0, .int .i64 0, .int .u64 0, .int .u64 0, .int .u64 0, .int .u64 0, .int .u64 0, .int .u64 0, .int .u64 0, .int .u64 0, .int .u64 0, .int .u64 0, .int .u64 0, .int .u64 0, .int .u64 0, .int .u64 0, .int .u64 0, .int .u64 0, .int .u64 0, .int .u64 0, .slice none 0 0] : Array Value).toList g1 (Nat.le_refl _)
 clear CS z0 g0 gg z1 g1
 rcases hs with ⟨h1, rfl⟩ | ⟨l, h1, ⟨h2, rfl⟩ | ⟨h2, v, rfl, o1⟩⟩
 ·have HE := Lib.hid (stE_none h1)
  clear h1
  go_wp2_with (first
   | (with_reducible refine wpList_store_mid rfl 169 (.tmp 2) (.tmp 19) rfl w.heap.size 0 (#[.int .u64 0, .int .i64 0, .int .i64 0, .int .i64 0, .int .i64 0, .int .u64 0, .int .u64 0, .int .u64 0, .int .u64 0, .int .u64 0, .int .u64 0, .int .u64 0, .int .u64 0, .int .u64 0, .int .u64 0, .int .u64 0, .int .u64 0, .int .u64 0, .int .u64 0, .int .u64 0, .int .u64 0, .int .u64 0, .int .u64 0, .slice none 0 0]) rfl rfl HTH.out HSI.out HON.out ?_)
   | (go_at_call 150; refine (small_is n1 _ SM.out _).mono ?_; rintro e z ⟨rfl, hz⟩; rw [hz]; clear hz))
  exact bodyPost_ret (results_ag2 Tryz.results88 _ _ w.heap.size _ _ _ rfl rfl zZ hut rfl HSIL.out) rfl ⟨⟨none, 0, by rw [HE.out.1, HE.out.2]; rfl, by rw [HE.out.2]; exact fun k hk => absurd hk (by simp [StR.zero, u64L]), fun ad h => by cases h⟩, gZ⟩
 ·have HE := Lib.hid (stE_long h1 h2)
  clear h1 h2
  go_wp2_with (first
   | (with_reducible refine wpList_store_mid rfl 169 (.tmp 2) (.tmp 19) rfl w.heap.size 0 (#[.int .u64 0, .int .i64 0, .int .i64 0, .int .i64 0, .int .i64 0, .int .u64 0, .int .u64 0, .int .u64 0, .int .u64 0, .int .u64 0, .int .u64 0, .int .u64 0, .int .u64 0, .int .u64 0, .int .u64 0, .int .u64 0, .int .u64 0, .int .u64 0, .int .u64 0, .int .u64 0, .int .u64 0, .int .u64 0, .int .u64 0, .slice none 0 0]) rfl rfl HTH.out HSI.out HON.out ?_)
   | (go_at_call 150; refine (small_is n1 _ SM.out _).mono ?_; rintro e z ⟨rfl, hz⟩; rw [hz]; clear hz))
  exact bodyPost_ret (results_ag2 Tryz.results88 _ _ w.heap.size _ _ _ rfl rfl zZ hut rfl HSIL.out) rfl ⟨⟨none, 0, by rw [HE.out.1, HE.out.2]; rfl, by rw [HE.out.2]; exact fun k hk => absurd hk (by simp [StR.zero, u64L]), fun ad h => by cases h⟩, gZ⟩
 ·have hl4 : l.length ≠ 4 := fun h4 => by
   match l, h4 with
   | [a, b, c, d], _ => exact hno a b c d h1
  have HE := Lib.hid (stE_len h1 h2 hl4)
  obtain ⟨A4, c4, rfl, -, -, -⟩ := own_rd o1
  have e4 : ((l.length : Int) != 4) = true := by simp; omega
  clear o1 h1 h2 hl4
  go_wp2_with (first
   | (with_reducible refine wpList_store_mid rfl 169 (.tmp 2) (.tmp 24) rfl w.heap.size 0 (#[.int .u64 0, .int .i64 0, .int .i64 0, .int .i64 0, .int .i64 0, .int .u64 0, .int .u64 0, .int .u64 0, .int .u64 0, .int .u64 0, .int .u64 0, .int .u64 0, .int .u64 0, .int .u64 0, .int .u64 0, .int .u64 0, .int .u64 0, .int .u64 0, .int .u64 0, .int .u64 0, .int .u64 0, .int .u64 0, .int .u64 0, .slice none 0 0]) rfl rfl HTH.out HSI.out HON.out ?_)
   | (go_at_call 150; refine (small_is n1 _ SM.out _).mono ?_; rintro e z ⟨rfl, hz⟩; rw [hz]; clear hz))
  exact bodyPost_ret (results_ag2 Tryz.results88 _ _ w.heap.size _ _ _ rfl rfl zZ hut rfl HSIL.out) rfl ⟨⟨none, 0, by rw [HE.out.1, HE.out.2]; rfl, by rw [HE.out.2]; exact fun k hk => absurd hk (by simp [StR.zero, u64L]), fun ad h => by cases h⟩, gZ⟩
set_option maxRecDepth 100000 in
set_option maxHeartbeats 4000000 in
theorem rstparse_four (tj : ByteArray) (x0 x1 x2 x3 : List UInt8) (hsp : splitF tj.data.toList = some [x0, x1, x2, x3]) (hz : tj.size ≤ 1000000) (l0 : x0.length ≤ 1000000) (l1 : x1.length ≤ 1000000) (l2 : x2.length ≤ 1000000) (l3 : x3.length ≤ 1000000) (w : World)  :
 Calls Tryz.prog 88 #[.string tj] w fun e w' => (∃ A c, e = .returned (.tuple #[.agg ((stO tj.data.toList).v (.slice A (stO tj.data.toList).g.2.2.length c)), .int .i64 (stE tj.data.toList)]) ∧ Rd w' w'.heap.size A (u64L (stO tj.data.toList).g.2.2) ∧ (∀ ad, A = some ad → w.heap.size < ad.block)) ∧ Grew w w' := by
 have HE0 := stE_four hsp
 have CS := Lib.hid (fun W => rsplit_some (s := tj) (l := [x0, x1, x2, x3]) hsp (by simp) (by omega) W)
 rw [show txt [x0, x1, x2, x3] = [⟨x0.toArray⟩, ⟨x1.toArray⟩, ⟨x2.toArray⟩, ⟨x3.toArray⟩] from rfl] at CS
 have N1 := (fun W => rparse_ok ⟨x1.toArray⟩ (by show x1.toArray.size ≤ _; simp; omega) W)
 have N2 := (fun W => rparse_ok ⟨x2.toArray⟩ (by show x2.toArray.size ≤ _; simp; omega) W)
 have HP := (fun W => rparse_any ⟨x0.toArray⟩ W)
 have KP := (fun W => rps_fr2 ⟨x3.toArray⟩ (by show x3.toArray.size ≤ _; simp; omega) W)
 unfold st4 stF at HE0
 simp only [show (⟨x0.toArray⟩ : ByteArray).data.toList = x0 from rfl, show (⟨x1.toArray⟩ : ByteArray).data.toList = x1 from rfl, show (⟨x2.toArray⟩ : ByteArray).data.toList = x2 from rfl, show (⟨x3.toArray⟩ : ByteArray).data.toList = x3 from rfl, pnumRes] at N1 N2 HP KP
 clear hsp
 generalize (⟨x0.toArray⟩ : ByteArray) = t0 at *
 generalize (⟨x1.toArray⟩ : ByteArray) = t1 at *
 generalize (⟨x2.toArray⟩ : ByteArray) = t2 at *
 generalize (⟨x3.toArray⟩ : ByteArray) = t3 at *
 generalize (pnum x1).1 = n1 at *
 generalize (pnum x1).2 = a1 at *
 generalize (pnum x2).1 = n2 at *
 generalize (pnum x2).2 = a2 at *
 generalize parseO x0 = o0 at *
 have HO3 : Hid (sgE (sigP x3) = if (sigP x3).isSome = true then 0 else 2) := Lib.hid rfl
 generalize sgE (sigP x3) = e3 at *
 generalize (sigP x3).isSome = b3 at *
 generalize sgO (sigP x3) = X at *
 obtain ⟨⟨sw, lf⟩, s, l⟩ := X
 dsimp only at KP HE0
 replace N1 := Lib.hid N1
 replace N2 := Lib.hid N2
 replace HP := Lib.hid HP
 replace KP := Lib.hid KP
 replace HE0 := Lib.hid HE0
 have HEZ : ∀ b : Bool, b = false → stE tj.data.toList = (if b = true then 0 else 2) ∧ stO tj.data.toList = (if b = true then (⟨o0.getD 0, n1, n2, ((sw, lf), s, l)⟩ : StR) else .zero) → Hid (stE tj.data.toList = 2 ∧ stO tj.data.toList = .zero) := fun b hb h => Lib.hid (by rw [hb] at h; exact h)
 generalize stE tj.data.toList = eS at *
 generalize stO tj.data.toList = oS at *
 clear l0 l1 l2 l3 hz
 have hut := Tryz.underlying169
 have hus := Tryz.underlying132
 have bz : ∀ W, (Instr.build 169 #[]).run Tryz.prog W = .ok (.agg (#[.int .u64 0, .int .i64 0, .int .i64 0, .int .i64 0, .int .i64 0, .int .u64 0, .int .u64 0, .int .u64 0, .int .u64 0, .int .u64 0, .int .u64 0, .int .u64 0, .int .u64 0, .int .u64 0, .int .u64 0, .int .u64 0, .int .u64 0, .int .u64 0, .int .u64 0, .int .u64 0, .int .u64 0, .int .u64 0, .int .u64 0, .slice none 0 0])) W := fun W => run_build W 169 #[] _ rst_zero
 have HSI : Hid ((Tryz.prog.info? 169).map (·.size) = some (#[.int .u64 0, .int .i64 0, .int .i64 0, .int .i64 0, .int .i64 0, .int .u64 0, .int .u64 0, .int .u64 0, .int .u64 0, .int .u64 0, .int .u64 0, .int .u64 0, .int .u64 0, .int .u64 0, .int .u64 0, .int .u64 0, .int .u64 0, .int .u64 0, .int .u64 0, .int .u64 0, .int .u64 0, .int .u64 0, .int .u64 0, .slice none 0 0] : Array Value).size) := Lib.hid rst_info
 have HSIL : Hid ((Tryz.prog.info? 169).map (·.size) = some (#[.int .u64 0, .int .i64 0, .int .i64 0, .int .i64 0, .int .i64 0, .int .u64 0, .int .u64 0, .int .u64 0, .int .u64 0, .int .u64 0, .int .u64 0, .int .u64 0, .int .u64 0, .int .u64 0, .int .u64 0, .int .u64 0, .int .u64 0, .int .u64 0, .int .u64 0, .int .u64 0, .int .u64 0, .int .u64 0, .int .u64 0, .slice none 0 0] : Array Value).toList.length) := Lib.hid rst_info
 have HON : Hid ((#[.int .u64 0, .int .i64 0, .int .i64 0, .int .i64 0, .int .i64 0, .int .u64 0, .int .u64 0, .int .u64 0, .int .u64 0, .int .u64 0, .int .u64 0, .int .u64 0, .int .u64 0, .int .u64 0, .int .u64 0, .int .u64 0, .int .u64 0, .int .u64 0, .int .u64 0, .int .u64 0, .int .u64 0, .int .u64 0, .int .u64 0, .slice none 0 0] : Array Value).all (·.oneCell') = true) := Lib.hid (by simp [Value.oneCell'])
 have z0 := Ag.new w 169 (#[.int .u64 0, .int .i64 0, .int .i64 0, .int .i64 0, .int .i64 0, .int .u64 0, .int .u64 0, .int .u64 0, .int .u64 0, .int .u64 0, .int .u64 0, .int .u64 0, .int .u64 0, .int .u64 0, .int .u64 0, .int .u64 0, .int .u64 0, .int .u64 0, .int .u64 0, .int .u64 0, .int .u64 0, .int .u64 0, .int .u64 0, .slice none 0 0])
 have g0 := grew_alloc (grew_refl w) (.cells (#[.int .u64 0, .int .i64 0, .int .i64 0, .int .i64 0, .int .i64 0, .int .u64 0, .int .u64 0, .int .u64 0, .int .u64 0, .int .u64 0, .int .u64 0, .int .u64 0, .int .u64 0, .int .u64 0, .int .u64 0, .int .u64 0, .int .u64 0, .int .u64 0, .int .u64 0, .int .u64 0, .int .u64 0, .int .u64 0, .int .u64 0, .slice none 0 0]) 169)
 go_enter Tryz.func88, Tryz.ntmps88
 go_wp2_with fail
 refine (CS.out _).mono ?_
 rintro e w1 ⟨⟨v1, rfl, o1⟩, gg⟩
 have z1 := z0.grew gg
 have g1 := grew_trans g0 gg
 obtain ⟨g, k1, rfl, hk1, hgl, hcs⟩ := own_cells o1 (by simp)
 have x0 : w1.cell? ⟨g, 0, none⟩ = some (.string t0) := by simpa using hcs 0 (.string t0) rfl
 have x1 : w1.cell? ⟨g, 1, none⟩ = some (.string t1) := by simpa using hcs 1 (.string t1) rfl
 have x2 : w1.cell? ⟨g, 2, none⟩ = some (.string t2) := by simpa using hcs 2 (.string t2) rfl
 have x3 : w1.cell? ⟨g, 3, none⟩ = some (.string t3) := by simpa using hcs 3 (.string t3) rfl
 clear CS z0 g0 gg o1 hcs
 have hk1' : (4 : Int) ≤ (k1 : Int) := by
  have : 4 ≤ k1 := hk1
  omega
 go_wp2_with fail
 refine (N1.out _).mono ?_
 rintro e w2 ⟨rfl, hw2⟩
 have gg : Grew w1 w2 := by rw [hw2]; exact grew_refl _
 clear hw2
 have y0 := (gg.cell (p := ⟨g, 0, none⟩) hgl).trans x0
 have y2 := (gg.cell (p := ⟨g, 2, none⟩) hgl).trans x2
 have y3 := (gg.cell (p := ⟨g, 3, none⟩) hgl).trans x3
 have hgl2 := Nat.lt_of_lt_of_le hgl gg.size
 have z2 := z1.grew gg
 have g2 := grew_trans g1 gg
 clear N1 x0 x1 x2 x3 z1 g1 gg hgl
 go_wp2_with fail
 refine (N2.out _).mono ?_
 rintro e w3 ⟨rfl, hw3⟩
 have gg : Grew w2 w3 := by rw [hw3]; exact grew_refl _
 clear hw3
 have x0 := (gg.cell (p := ⟨g, 0, none⟩) hgl2).trans y0
 have x3 := (gg.cell (p := ⟨g, 3, none⟩) hgl2).trans y3
 have hgl3 := Nat.lt_of_lt_of_le hgl2 gg.size
 have z3 := z2.grew gg
 have g3 := grew_trans g2 gg
 clear N2 y0 y2 y3 z2 g2 gg hgl2
 by_cases h1 : a1 = 0
 case neg =>
  have HE := HEZ _ (by simp [h1]) HE0.out
  have e1 : (a1 != 0) = true := by simpa using h1
  clear h1 HE0
  have HTH : Hid (w3.there w.heap.size 0 (#[.int .u64 0, .int .i64 0, .int .i64 0, .int .i64 0, .int .i64 0, .int .u64 0, .int .u64 0, .int .u64 0, .int .u64 0, .int .u64 0, .int .u64 0, .int .u64 0, .int .u64 0, .int .u64 0, .int .u64 0, .int .u64 0, .int .u64 0, .int .u64 0, .int .u64 0, .int .u64 0, .int .u64 0, .int .u64 0, .int .u64 0, .slice none 0 0] : Array Value).size) := Lib.hid (z3.thereN 24 rfl)
  have zZ := Ag.set (vs := (#[.int .u64 0, .int .i64 0, .int .i64 0, .int .i64 0, .int .i64 0, .int .u64 0, .int .u64 0, .int .u64 0, .int .u64 0, .int .u64 0, .int .u64 0, .int .u64 0, .int .u64 0, .int .u64 0, .int .u64 0, .int .u64 0, .int .u64 0, .int .u64 0, .int .u64 0, .int .u64 0, .int .u64 0, .int .u64 0, .int .u64 0, .slice none 0 0] : Array Value).toList) z3 rfl
  have gZ := setCells_grew (o := 0) (b := w.heap.size) (#[.int .u64 0, .int .i64 0, .int .i64 0, .int .i64 0, .int .i64 0, .int .u64 0, .int .u64 0, .int .u64 0, .int .u64 0, .int .u64 0, .int .u64 0, .int .u64 0, .int .u64 0, .int .u64 0, .int .u64 0, .int .u64 0, .int .u64 0, .int .u64 0, .int .u64 0, .int .u64 0, .int .u64 0, .int .u64 0, .int .u64 0, .slice none 0 0] : Array Value).toList g3 (Nat.le_refl _)
  go_wp2_with (first
   | (with_reducible refine wpList_store_mid rfl 169 (.tmp 2) (.tmp 50) rfl w.heap.size 0 (#[.int .u64 0, .int .i64 0, .int .i64 0, .int .i64 0, .int .i64 0, .int .u64 0, .int .u64 0, .int .u64 0, .int .u64 0, .int .u64 0, .int .u64 0, .int .u64 0, .int .u64 0, .int .u64 0, .int .u64 0, .int .u64 0, .int .u64 0, .int .u64 0, .int .u64 0, .int .u64 0, .int .u64 0, .int .u64 0, .int .u64 0, .slice none 0 0]) rfl rfl HTH.out HSI.out HON.out ?_)
   | (go_at_call 150; refine (small_is n1 _ SM.out _).mono ?_; rintro e z ⟨rfl, hz⟩; rw [hz]; clear hz))
  exact bodyPost_ret (results_ag2 Tryz.results88 _ _ w.heap.size _ _ _ rfl rfl zZ hut rfl HSIL.out) rfl ⟨⟨none, 0, by rw [HE.out.1, HE.out.2]; rfl, by rw [HE.out.2]; exact fun k hk => absurd hk (by simp [StR.zero, u64L]), fun ad h => by cases h⟩, gZ⟩
 subst h1
 by_cases h2 : a2 = 0
 case neg =>
  have HE := HEZ _ (by simp [h2]) HE0.out
  have e1 : (a2 != 0) = true := by simpa using h2
  clear h2 HE0
  have HTH : Hid (w3.there w.heap.size 0 (#[.int .u64 0, .int .i64 0, .int .i64 0, .int .i64 0, .int .i64 0, .int .u64 0, .int .u64 0, .int .u64 0, .int .u64 0, .int .u64 0, .int .u64 0, .int .u64 0, .int .u64 0, .int .u64 0, .int .u64 0, .int .u64 0, .int .u64 0, .int .u64 0, .int .u64 0, .int .u64 0, .int .u64 0, .int .u64 0, .int .u64 0, .slice none 0 0] : Array Value).size) := Lib.hid (z3.thereN 24 rfl)
  have zZ := Ag.set (vs := (#[.int .u64 0, .int .i64 0, .int .i64 0, .int .i64 0, .int .i64 0, .int .u64 0, .int .u64 0, .int .u64 0, .int .u64 0, .int .u64 0, .int .u64 0, .int .u64 0, .int .u64 0, .int .u64 0, .int .u64 0, .int .u64 0, .int .u64 0, .int .u64 0, .int .u64 0, .int .u64 0, .int .u64 0, .int .u64 0, .int .u64 0, .slice none 0 0] : Array Value).toList) z3 rfl
  have gZ := setCells_grew (o := 0) (b := w.heap.size) (#[.int .u64 0, .int .i64 0, .int .i64 0, .int .i64 0, .int .i64 0, .int .u64 0, .int .u64 0, .int .u64 0, .int .u64 0, .int .u64 0, .int .u64 0, .int .u64 0, .int .u64 0, .int .u64 0, .int .u64 0, .int .u64 0, .int .u64 0, .int .u64 0, .int .u64 0, .int .u64 0, .int .u64 0, .int .u64 0, .int .u64 0, .slice none 0 0] : Array Value).toList g3 (Nat.le_refl _)
  go_wp2_with (first
   | (with_reducible refine wpList_store_mid rfl 169 (.tmp 2) (.tmp 50) rfl w.heap.size 0 (#[.int .u64 0, .int .i64 0, .int .i64 0, .int .i64 0, .int .i64 0, .int .u64 0, .int .u64 0, .int .u64 0, .int .u64 0, .int .u64 0, .int .u64 0, .int .u64 0, .int .u64 0, .int .u64 0, .int .u64 0, .int .u64 0, .int .u64 0, .int .u64 0, .int .u64 0, .int .u64 0, .int .u64 0, .int .u64 0, .int .u64 0, .slice none 0 0]) rfl rfl HTH.out HSI.out HON.out ?_)
   | (go_at_call 150; refine (small_is n1 _ SM.out _).mono ?_; rintro e z ⟨rfl, hz⟩; rw [hz]; clear hz))
  exact bodyPost_ret (results_ag2 Tryz.results88 _ _ w.heap.size _ _ _ rfl rfl zZ hut rfl HSIL.out) rfl ⟨⟨none, 0, by rw [HE.out.1, HE.out.2]; rfl, by rw [HE.out.2]; exact fun k hk => absurd hk (by simp [StR.zero, u64L]), fun ad h => by cases h⟩, gZ⟩
 subst h2
 by_cases h3 : -2147483648 ≤ n1 ∧ n1 ≤ 2147483647
 case neg =>
  have HE := HEZ _ (by simp [smallB, h3]) HE0.out
  have SM : Hid (decide (smallC n1) = false) := Lib.hid (decide_eq_false (by unfold smallC; omega))
  clear HE0
  have HTH : Hid (w3.there w.heap.size 0 (#[.int .u64 0, .int .i64 0, .int .i64 0, .int .i64 0, .int .i64 0, .int .u64 0, .int .u64 0, .int .u64 0, .int .u64 0, .int .u64 0, .int .u64 0, .int .u64 0, .int .u64 0, .int .u64 0, .int .u64 0, .int .u64 0, .int .u64 0, .int .u64 0, .int .u64 0, .int .u64 0, .int .u64 0, .int .u64 0, .int .u64 0, .slice none 0 0] : Array Value).size) := Lib.hid (z3.thereN 24 rfl)
  have zZ := Ag.set (vs := (#[.int .u64 0, .int .i64 0, .int .i64 0, .int .i64 0, .int .i64 0, .int .u64 0, .int .u64 0, .int .u64 0, .int .u64 0, .int .u64 0, .int .u64 0, .int .u64 0, .int .u64 0, .int .u64 0, .int .u64 0, .int .u64 0, .int .u64 0, .int .u64 0, .int .u64 0, .int .u64 0, .int .u64 0, .int .u64 0, .int .u64 0, .slice none 0 0] : Array Value).toList) z3 rfl
  have gZ := setCells_grew (o := 0) (b := w.heap.size) (#[.int .u64 0, .int .i64 0, .int .i64 0, .int .i64 0, .int .i64 0, .int .u64 0, .int .u64 0, .int .u64 0, .int .u64 0, .int .u64 0, .int .u64 0, .int .u64 0, .int .u64 0, .int .u64 0, .int .u64 0, .int .u64 0, .int .u64 0, .int .u64 0, .int .u64 0, .int .u64 0, .int .u64 0, .int .u64 0, .int .u64 0, .slice none 0 0] : Array Value).toList g3 (Nat.le_refl _)
  clear h3
  go_wp2_with (first
   | (with_reducible refine wpList_store_mid rfl 169 (.tmp 2) (.tmp 50) rfl w.heap.size 0 (#[.int .u64 0, .int .i64 0, .int .i64 0, .int .i64 0, .int .i64 0, .int .u64 0, .int .u64 0, .int .u64 0, .int .u64 0, .int .u64 0, .int .u64 0, .int .u64 0, .int .u64 0, .int .u64 0, .int .u64 0, .int .u64 0, .int .u64 0, .int .u64 0, .int .u64 0, .int .u64 0, .int .u64 0, .int .u64 0, .int .u64 0, .slice none 0 0]) rfl rfl HTH.out HSI.out HON.out ?_)
   | (go_at_call 150; refine (small_is n1 _ SM.out _).mono ?_; rintro e z ⟨rfl, hz⟩; rw [hz]; clear hz))
  exact bodyPost_ret (results_ag2 Tryz.results88 _ _ w.heap.size _ _ _ rfl rfl zZ hut rfl HSIL.out) rfl ⟨⟨none, 0, by rw [HE.out.1, HE.out.2]; rfl, by rw [HE.out.2]; exact fun k hk => absurd hk (by simp [StR.zero, u64L]), fun ad h => by cases h⟩, gZ⟩
 have hw1 : ¬ n1 < -2147483648 := by omega
 have hw2 : ¬ 2147483647 < n1 := by omega
 have SM : Hid (decide (smallC n1) = true) := Lib.hid (decide_eq_true (by unfold smallC; omega))
 have HB3 : Hid (smallB n1 = true) := Lib.hid (decide_eq_true h3)
 clear h3
 go_wp2_with (go_at_call 150; refine (small_is n1 _ SM.out _).mono ?_; rintro e z ⟨rfl, hz⟩; rw [hz]; clear hz)
 refine (HP.out _).mono ?_
 rintro e v3 ⟨rfl, rfl⟩
 cases o0 with
 | none =>
  have HE := HEZ _ (by simp) HE0.out
  clear HE0
  have HTH : Hid (w3.there w.heap.size 0 (#[.int .u64 0, .int .i64 0, .int .i64 0, .int .i64 0, .int .i64 0, .int .u64 0, .int .u64 0, .int .u64 0, .int .u64 0, .int .u64 0, .int .u64 0, .int .u64 0, .int .u64 0, .int .u64 0, .int .u64 0, .int .u64 0, .int .u64 0, .int .u64 0, .int .u64 0, .int .u64 0, .int .u64 0, .int .u64 0, .int .u64 0, .slice none 0 0] : Array Value).size) := Lib.hid (z3.thereN 24 rfl)
  have zZ := Ag.set (vs := (#[.int .u64 0, .int .i64 0, .int .i64 0, .int .i64 0, .int .i64 0, .int .u64 0, .int .u64 0, .int .u64 0, .int .u64 0, .int .u64 0, .int .u64 0, .int .u64 0, .int .u64 0, .int .u64 0, .int .u64 0, .int .u64 0, .int .u64 0, .int .u64 0, .int .u64 0, .int .u64 0, .int .u64 0, .int .u64 0, .int .u64 0, .slice none 0 0] : Array Value).toList) z3 rfl
  have gZ := setCells_grew (o := 0) (b := w.heap.size) (#[.int .u64 0, .int .i64 0, .int .i64 0, .int .i64 0, .int .i64 0, .int .u64 0, .int .u64 0, .int .u64 0, .int .u64 0, .int .u64 0, .int .u64 0, .int .u64 0, .int .u64 0, .int .u64 0, .int .u64 0, .int .u64 0, .int .u64 0, .int .u64 0, .int .u64 0, .int .u64 0, .int .u64 0, .int .u64 0, .int .u64 0, .slice none 0 0] : Array Value).toList g3 (Nat.le_refl _)
  rw [parseRes_none]
  go_wp2_with (first
   | (with_reducible refine wpList_store_mid rfl 169 (.tmp 2) (.tmp 60) rfl w.heap.size 0 (#[.int .u64 0, .int .i64 0, .int .i64 0, .int .i64 0, .int .i64 0, .int .u64 0, .int .u64 0, .int .u64 0, .int .u64 0, .int .u64 0, .int .u64 0, .int .u64 0, .int .u64 0, .int .u64 0, .int .u64 0, .int .u64 0, .int .u64 0, .int .u64 0, .int .u64 0, .int .u64 0, .int .u64 0, .int .u64 0, .int .u64 0, .slice none 0 0]) rfl rfl HTH.out HSI.out HON.out ?_)
   | (go_at_call 150; refine (small_is n1 _ SM.out _).mono ?_; rintro e z ⟨rfl, hz⟩; rw [hz]; clear hz))
  exact bodyPost_ret (results_ag2 Tryz.results88 _ _ w.heap.size _ _ _ rfl rfl zZ hut rfl HSIL.out) rfl ⟨⟨none, 0, by rw [HE.out.1, HE.out.2]; rfl, by rw [HE.out.2]; exact fun k hk => absurd hk (by simp [StR.zero, u64L]), fun ad h => by cases h⟩, gZ⟩
 | some cm =>
  rw [parseRes_some]
  go_wp2_with fail
  refine (KP.out _).mono ?_
  rintro e w4 ⟨⟨A, c, rfl, r4, hA4⟩, gg⟩
  have z4 := z3.grew gg
  have g4 := grew_trans g3 gg
  have HSI1 : Hid ((Tryz.prog.info? 132).map (·.size) = some (sgC sw lf s (.slice A l.length c)).size) := Lib.hid rg_info
  have HSL1 : Hid ((Tryz.prog.info? 132).map (·.size) = some (sgC sw lf s (.slice A l.length c)).toList.length) := Lib.hid rg_info
  have HON1 := Lib.hid (sgC_one sw lf s A l.length c)
  have HBU := Lib.hid (rst_built cm n1 n2 sw lf s A l.length c)
  have zt := Ag.new w4 132 (#[.int .i64 0, .int .i64 0, .int .u64 0, .int .u64 0, .int .u64 0, .int .u64 0, .int .u64 0, .int .u64 0, .int .u64 0, .int .u64 0, .int .u64 0, .int .u64 0, .int .u64 0, .int .u64 0, .int .u64 0, .int .u64 0, .int .u64 0, .int .u64 0, .int .u64 0, .int .u64 0, .slice none 0 0])
  have HTH1 : Hid ((w4.alloc (.cells (#[.int .i64 0, .int .i64 0, .int .u64 0, .int .u64 0, .int .u64 0, .int .u64 0, .int .u64 0, .int .u64 0, .int .u64 0, .int .u64 0, .int .u64 0, .int .u64 0, .int .u64 0, .int .u64 0, .int .u64 0, .int .u64 0, .int .u64 0, .int .u64 0, .int .u64 0, .int .u64 0, .slice none 0 0]) 132)).there w4.heap.size 0 (sgC sw lf s (.slice A l.length c)).size) := Lib.hid (zt.thereN 21 rfl)
  have z5 := Ag.set (vs := (sgC sw lf s (.slice A l.length c)).toList) zt rfl
  have g5 : Grew w4 ((w4.alloc (.cells (#[.int .i64 0, .int .i64 0, .int .u64 0, .int .u64 0, .int .u64 0, .int .u64 0, .int .u64 0, .int .u64 0, .int .u64 0, .int .u64 0, .int .u64 0, .int .u64 0, .int .u64 0, .int .u64 0, .int .u64 0, .int .u64 0, .int .u64 0, .int .u64 0, .int .u64 0, .int .u64 0, .slice none 0 0]) 132)).setCells w4.heap.size 0 (sgC sw lf s (.slice A l.length c)).toList) := setCells_grew (o := 0) (b := w4.heap.size) (sgC sw lf s (.slice A l.length c)).toList (grew_alloc (grew_refl w4) _) (Nat.le_refl _)
  have z6 := z4.grew g5
  have r6 := r4.gr g5
  have g6 := grew_trans g4 g5
  obtain ⟨g1, hg1⟩ : ∃ g, sgC sw lf s (.slice A l.length c) = g := ⟨_, rfl⟩
  rw [hg1] at HSI1 HSL1 HON1 HTH1 HBU z5 z6 r6 g6 ⊢
  obtain ⟨w6, hw6⟩ : ∃ v, (w4.alloc (.cells (#[.int .i64 0, .int .i64 0, .int .u64 0, .int .u64 0, .int .u64 0, .int .u64 0, .int .u64 0, .int .u64 0, .int .u64 0, .int .u64 0, .int .u64 0, .int .u64 0, .int .u64 0, .int .u64 0, .int .u64 0, .int .u64 0, .int .u64 0, .int .u64 0, .int .u64 0, .int .u64 0, .slice none 0 0]) 132)).setCells w4.heap.size 0 g1.toList = v := ⟨_, rfl⟩
  rw [hw6] at z5 z6 r6 g6
  have HW6 := Lib.hid hw6
  have hm5 := z5.cell
  have hz3 := z3.lt
  have HFR : Hid (∀ ad, A = some ad → w.heap.size < ad.block) := Lib.hid (fun ad e => by have := hA4 ad e; omega)
  clear hz3 hA4 hw6 hg1 zt g5 x0 x3 z3 g3 z4 g4 gg r4 hgl3 KP HP
  cases b3 with
  | false =>
   have HE := HEZ _ (by simp) HE0.out
   have he3 : e3 = 2 := HO3.out
   subst he3
   clear HE0 HO3
   have HTH : Hid (w6.there w.heap.size 0 (#[.int .u64 0, .int .i64 0, .int .i64 0, .int .i64 0, .int .i64 0, .int .u64 0, .int .u64 0, .int .u64 0, .int .u64 0, .int .u64 0, .int .u64 0, .int .u64 0, .int .u64 0, .int .u64 0, .int .u64 0, .int .u64 0, .int .u64 0, .int .u64 0, .int .u64 0, .int .u64 0, .int .u64 0, .int .u64 0, .int .u64 0, .slice none 0 0] : Array Value).size) := Lib.hid (z6.thereN 24 rfl)
   have zZ := Ag.set (vs := (#[.int .u64 0, .int .i64 0, .int .i64 0, .int .i64 0, .int .i64 0, .int .u64 0, .int .u64 0, .int .u64 0, .int .u64 0, .int .u64 0, .int .u64 0, .int .u64 0, .int .u64 0, .int .u64 0, .int .u64 0, .int .u64 0, .int .u64 0, .int .u64 0, .int .u64 0, .int .u64 0, .int .u64 0, .int .u64 0, .int .u64 0, .slice none 0 0] : Array Value).toList) z6 rfl
   have gZ := setCells_grew (o := 0) (b := w.heap.size) (#[.int .u64 0, .int .i64 0, .int .i64 0, .int .i64 0, .int .i64 0, .int .u64 0, .int .u64 0, .int .u64 0, .int .u64 0, .int .u64 0, .int .u64 0, .int .u64 0, .int .u64 0, .int .u64 0, .int .u64 0, .int .u64 0, .int .u64 0, .int .u64 0, .int .u64 0, .int .u64 0, .int .u64 0, .int .u64 0, .int .u64 0, .slice none 0 0] : Array Value).toList g6 (Nat.le_refl _)
   go_wp2_with (first
    | (with_reducible refine wpList_store_mid rfl 132 (.tmp 11) (.tmp 67) rfl w4.heap.size 0 g1 rfl rfl HTH1.out HSI1.out HON1.out ?_; rw [HW6.out]; clear HW6 HTH1)
    | (with_reducible refine wpList_store_mid rfl 169 (.tmp 2) (.tmp 71) rfl w.heap.size 0 (#[.int .u64 0, .int .i64 0, .int .i64 0, .int .i64 0, .int .i64 0, .int .u64 0, .int .u64 0, .int .u64 0, .int .u64 0, .int .u64 0, .int .u64 0, .int .u64 0, .int .u64 0, .int .u64 0, .int .u64 0, .int .u64 0, .int .u64 0, .int .u64 0, .int .u64 0, .int .u64 0, .int .u64 0, .int .u64 0, .int .u64 0, .slice none 0 0]) rfl rfl HTH.out HSI.out HON.out ?_)
    | (go_at_call 150; refine (small_is n1 _ SM.out _).mono ?_; rintro e z ⟨rfl, hz⟩; rw [hz]; clear hz))
   exact bodyPost_ret (results_ag2 Tryz.results88 _ _ w.heap.size _ _ _ rfl rfl zZ hut rfl HSIL.out) rfl ⟨⟨none, 0, by rw [HE.out.1, HE.out.2]; rfl, by rw [HE.out.2]; exact fun k hk => absurd hk (by simp [StR.zero, u64L]), fun ad h => by cases h⟩, gZ⟩
  | true =>
   have he3 : e3 = 0 := HO3.out
   subst he3
   have HE : Hid (eS = 0 ∧ oS = ⟨cm, n1, n2, ((sw, lf), s, l)⟩) := Lib.hid (by have := HE0.out; simpa [HB3.out] using this)
   clear HE0 HO3
   have HTZ : Hid (w6.there w.heap.size 0 (stC cm n1 n2 sw lf s (.slice A l.length c)).size) := Lib.hid (z6.thereN 24 rfl)
   have HOZ := Lib.hid (stC_one cm n1 n2 sw lf s A l.length c)
   have HSZ : Hid ((Tryz.prog.info? 169).map (·.size) = some (stC cm n1 n2 sw lf s (.slice A l.length c)).size) := Lib.hid rst_info
   have HSZL : Hid ((Tryz.prog.info? 169).map (·.size) = some (stC cm n1 n2 sw lf s (.slice A l.length c)).toList.length) := Lib.hid rst_info
   have z7 := Ag.set (vs := (stC cm n1 n2 sw lf s (.slice A l.length c)).toList) z6 rfl
   have K7 := setCells_kp (stC cm n1 n2 sw lf s (.slice A l.length c)).toList w.heap.size 0 w6
   have G7 := setCells_grew (o := 0) (b := w.heap.size) (stC cm n1 n2 sw lf s (.slice A l.length c)).toList g6 (Nat.le_refl _)
   have R7 : Rd (w6.setCells w.heap.size 0 (stC cm n1 n2 sw lf s (.slice A l.length c)).toList) (w6.setCells w.heap.size 0 (stC cm n1 n2 sw lf s (.slice A l.length c)).toList).heap.size A (u64L l) :=
    (r6.kp K7 (Nat.le_refl _) (fun ad e1 _ (e3 : ad.block = w.heap.size) => by have := HFR.out ad e1; omega)).more K7.size
   obtain ⟨g2, hg2⟩ : ∃ g, stC cm n1 n2 sw lf s (.slice A l.length c) = g := ⟨_, rfl⟩
   have HG2' := Lib.hid hg2
   rw [hg2] at HTZ HOZ HSZ HSZL HBU z7 G7 R7
   clear z6 K7 r6 g6 hg2
   go_wp2_with (first
    | (with_reducible refine wpList_store_mid rfl 132 (.tmp 11) (.tmp 67) rfl w4.heap.size 0 g1 rfl rfl HTH1.out HSI1.out HON1.out ?_; rw [HW6.out]; clear HW6 HTH1)
    | (with_reducible refine wpList_load_mid rfl 132 (.tmp 11) rfl w4.heap.size 0 rfl g1.toList _ hm5 hus rfl HSL1.out ?_; simp only [Array.toArray_toList])
    | (with_reducible refine wpList_build_is rfl 169 #[(0, .tmp 73), (1, .tmp 74), (2, .tmp 75), (3, .tmp 76)] rfl g2 ?_ ?_; · simpa [Act.eval, Act.put] using HBU.out)
    | (with_reducible refine wpList_store_mid rfl 169 (.tmp 2) (.tmp 77) rfl w.heap.size 0 g2 rfl rfl HTZ.out HSZ.out HOZ.out ?_))
   exact bodyPost_ret (results_ag2 Tryz.results88 _ _ w.heap.size _ _ _ rfl rfl z7 hut rfl HSZL.out) rfl ⟨⟨A, c, by rw [HE.out.1, HE.out.2]; show Ending.returned (.tuple #[.agg g2.toList.toArray, .int .i64 0]) = _; rw [Array.toArray_toList, ← HG2'.out]; rfl, by rw [HE.out.2]; exact R7, HFR.out⟩, G7⟩
theorem rstparse_any (tj : ByteArray) (hz : tj.size ≤ 1000000) (w : World)  :
 Calls Tryz.prog 88 #[.string tj] w fun e w' => (∃ A c, e = .returned (.tuple #[.agg ((stO tj.data.toList).v (.slice A (stO tj.data.toList).g.2.2.length c)), .int .i64 (stE tj.data.toList)]) ∧ Rd w' w'.heap.size A (u64L (stO tj.data.toList).g.2.2) ∧ (∀ ad, A = some ad → w.heap.size < ad.block)) ∧ Grew w w' := by
 have hlen : tj.data.toList.length ≤ 1000000 := by rw [ba_len]; exact hz
 by_cases h4 : ∃ x0 x1 x2 x3, splitF tj.data.toList = some [x0, x1, x2, x3]
 ·obtain ⟨x0, x1, x2, x3, hsp⟩ := h4
  have g := fun x hx => Nat.le_trans (split_ge hsp x hx) hlen
  exact rstparse_four tj x0 x1 x2 x3 hsp hz (g x0 (by simp)) (g x1 (by simp)) (g x2 (by simp)) (g x3 (by simp)) w 
 ·exact rstparse_split tj hz (fun a b c d h => h4 ⟨a, b, c, d, h⟩) w
end Go.Proofs.YtpppegnojmnicaaGreatDoor

namespace Go.Proofs.YtpppegnojmnicaaGreatDoor
set_option linter.unusedSimpArgs false
set_option linter.unusedVariables false
open Go.RowKit
set_option linter.unusedVariables false
set_option linter.unusedSimpArgs false
structure AgT (w : World) (B : Nat) (cm : Nat) (who at_ sw lf : Int) (s : Nat → Nat) (l : List Nat) (v : Value) : Prop where
 out : ∃ A c, v = .agg (stC cm who at_ sw lf s (.slice A l.length c)) ∧ Rd w w.heap.size A (u64L l) ∧ (∀ ad, A = some ad → B ≤ ad.block)
theorem AgT.gr {w w' : World} {B cm : Nat} {who at_ sw lf : Int} {s : Nat → Nat} {l : List Nat} {v : Value} (h : AgT w B cm who at_ sw lf s l v) (g : Grew w w') : AgT w' B cm who at_ sw lf s l v := by
 obtain ⟨A, c, h1, h2, h3⟩ := h.out
 exact ⟨A, c, h1, h2.gr g, h3⟩
set_option maxRecDepth 100000 in
set_option maxHeartbeats 2000000 in
theorem kof_fr (who leaf : Int) (s : Nat → Nat) (A : Option Addr) (c : Nat) (l : List Nat) (hl : l.length ≤ 1048576) (w : World) (hr : Rd w w.heap.size A (u64L l)) :
 Calls Tryz.prog 162 #[.agg (sgC who leaf s (.slice A l.length c))] w fun e w' => ∃ A' c', e = .returned (.agg (sgC who leaf s (.slice A' l.length c'))) ∧ Rd w' w'.heap.size A' (u64L l) ∧ Grew w w' ∧ (∀ ad, A' = some ad → w.heap.size ≤ ad.block) := by
 have z0 := Ag.new w 89 (sgC who leaf s (.slice A l.length c))
 have G0 := grew_alloc (grew_refl w) (.cells (sgC who leaf s (.slice A l.length c)) 89)
 have hwz : w.heap.size < (w.alloc (.cells (sgC who leaf s (.slice A l.length c)) 89)).heap.size := z0.lt
 have HIA : Hid ((Tryz.prog.info? 87).map (·.size) = some (arrU s).toList.length) := Lib.hid (by rw [show (arrU s).toList.length = 18 by simp [arrU]]; kernel_rfl)
 have hua := Tryz.underlying87
 have hur := Tryz.underlying132
 go_enter Tryz.func162, Tryz.ntmps162
 go_wp2_with fail
 have z2 : Ag ((w.alloc (.cells (sgC who leaf s (.slice A l.length c)) 89)).alloc (.cells (#[.int .i64 0, .int .i64 0, .int .u64 0, .int .u64 0, .int .u64 0, .int .u64 0, .int .u64 0, .int .u64 0, .int .u64 0, .int .u64 0, .int .u64 0, .int .u64 0, .int .u64 0, .int .u64 0, .int .u64 0, .int .u64 0, .int .u64 0, .int .u64 0, .int .u64 0, .int .u64 0, .slice none 0 0]) 132)) (w.heap.size + 1) (#[.int .i64 0, .int .i64 0, .int .u64 0, .int .u64 0, .int .u64 0, .int .u64 0, .int .u64 0, .int .u64 0, .int .u64 0, .int .u64 0, .int .u64 0, .int .u64 0, .int .u64 0, .int .u64 0, .int .u64 0, .int .u64 0, .int .u64 0, .int .u64 0, .int .u64 0, .int .u64 0, .slice none 0 0] : Array Value).toList := by
  have := Ag.new (w.alloc (.cells (sgC who leaf s (.slice A l.length c)) 89)) 132 (#[.int .i64 0, .int .i64 0, .int .u64 0, .int .u64 0, .int .u64 0, .int .u64 0, .int .u64 0, .int .u64 0, .int .u64 0, .int .u64 0, .int .u64 0, .int .u64 0, .int .u64 0, .int .u64 0, .int .u64 0, .int .u64 0, .int .u64 0, .int .u64 0, .int .u64 0, .int .u64 0, .slice none 0 0])
  simpa using this
 have z1 := z0.grew (grew_alloc (grew_refl _) (.cells (#[.int .i64 0, .int .i64 0, .int .u64 0, .int .u64 0, .int .u64 0, .int .u64 0, .int .u64 0, .int .u64 0, .int .u64 0, .int .u64 0, .int .u64 0, .int .u64 0, .int .u64 0, .int .u64 0, .int .u64 0, .int .u64 0, .int .u64 0, .int .u64 0, .int .u64 0, .int .u64 0, .slice none 0 0]) 132))
 have G2 := grew_alloc G0 (.cells (#[.int .i64 0, .int .i64 0, .int .u64 0, .int .u64 0, .int .u64 0, .int .u64 0, .int .u64 0, .int .u64 0, .int .u64 0, .int .u64 0, .int .u64 0, .int .u64 0, .int .u64 0, .int .u64 0, .int .u64 0, .int .u64 0, .int .u64 0, .int .u64 0, .int .u64 0, .int .u64 0, .slice none 0 0]) 132)
 clear z0 G0 hwz
 generalize (w.alloc (.cells (sgC who leaf s (.slice A l.length c)) 89)).alloc (.cells (#[.int .i64 0, .int .i64 0, .int .u64 0, .int .u64 0, .int .u64 0, .int .u64 0, .int .u64 0, .int .u64 0, .int .u64 0, .int .u64 0, .int .u64 0, .int .u64 0, .int .u64 0, .int .u64 0, .int .u64 0, .int .u64 0, .int .u64 0, .int .u64 0, .int .u64 0, .int .u64 0, .slice none 0 0]) 132) = w2 at *
 have HC0 : Hid (∀ y, Grew w2 y → y.cell? ⟨w.heap.size, 0, none⟩ = some (.int .i64 who)) := Lib.hid (fun y g => by simpa using (z1.grew g).cell 0 _ rfl)
 have HC1 : Hid (∀ y, Grew w2 y → y.cell? ⟨w.heap.size, 1, none⟩ = some (.int .i64 leaf)) := Lib.hid (fun y g => by simpa using (z1.grew g).cell 1 _ rfl)
 have HC20 : Hid (∀ y, Grew w2 y → y.cell? ⟨w.heap.size, 20, none⟩ = some (.slice A l.length c)) := Lib.hid (fun y g => by simpa using (z1.grew g).cell 20 _ rfl)
 have HCM : Hid (∀ y, Grew w2 y → y.rangeAt w.heap.size 2 (arrU s).toList) := Lib.hid (fun y g => sg_mid (z1.grew g))
 have r2 := hr.gr G2
 have HRY := Lib.hid (fun y (g : Grew w2 y) => r2.gr g)
 clear z1 hr r2
 refine wp_region_rel 11 (fun i => match i with
  | 0 => fun v _ => v = .pointer (some ⟨w.heap.size, 0, none⟩)
  | 1 => fun v _ => v = .int .i64 who
  | 2 => fun v _ => v = .pointer (some ⟨w.heap.size, 1, none⟩)
  | 3 => fun v _ => v = .int .i64 leaf
  | 4 => fun v _ => v = .pointer (some ⟨w.heap.size, 2, none⟩)
  | 5 => fun v _ => v = .agg (arrU s)
  | 6 => fun v _ => v = .agg (arrU s)
  | 7 => fun v _ => v = .pointer (some ⟨w.heap.size, 20, none⟩)
  | 8 => fun v _ => v = .slice A l.length c
  | 9 => fun v w => PV w w2.heap.size l v
  | 10 => fun v w => AgS w w2.heap.size who leaf s l v
  | _ => fun _ _ => True) (by kernel_rfl) (by kernel_rfl) ?_ ?_ ?_
 ·intro i v x y h hg
  match i, h with
  | 0, h | 1, h | 2, h | 3, h | 4, h | 5, h | 6, h | 7, h | 8, h => exact h
  | 9, h => exact PV.gr h hg
  | 10, h => exact AgS.gr h hg
  | m + 11, _ => trivial
 ·refine ⟨?_, ?_, ?_, ?_, ?_, ?_, ?_, ?_, ?_, ?_, ?_, trivial⟩
  ·intro vs y hg hd
   simp only [actOf, tk1, tk0, dr1, dr0, Act.put, si1, st1, st0, Nat.reduceAdd]
   go_wp2_with fail
   exact ⟨rfl, _, rfl, grew_refl _, rfl⟩
  ·intro vs y hg hd
   obtain ⟨h0, _⟩ := hd
   replace h0 := h0 rfl
   simp only [actOf, tk1, tk0, dr1, dr0, Act.put, si1, st1, st0, Nat.reduceAdd]
   rw [show vs 0 = _ from h0]
   have hc := HC0.out y hg
   go_wp2_with fail
   exact ⟨rfl, _, rfl, grew_refl _, rfl⟩
  ·intro vs y hg hd
   simp only [actOf, tk1, tk0, dr1, dr0, Act.put, si1, st1, st0, Nat.reduceAdd]
   go_wp2_with fail
   exact ⟨rfl, _, rfl, grew_refl _, rfl⟩
  ·intro vs y hg hd
   obtain ⟨h2, _⟩ := hd
   replace h2 := h2 rfl
   simp only [actOf, tk1, tk0, dr1, dr0, Act.put, si1, st1, st0, Nat.reduceAdd]
   rw [show vs 2 = _ from h2]
   have hc := HC1.out y hg
   go_wp2_with fail
   exact ⟨rfl, _, rfl, grew_refl _, rfl⟩
  ·intro vs y hg hd
   simp only [actOf, tk1, tk0, dr1, dr0, Act.put, si1, st1, st0, Nat.reduceAdd]
   go_wp2_with fail
   exact ⟨rfl, _, rfl, grew_refl _, rfl⟩
  ·intro vs y hg hd
   obtain ⟨h4, _⟩ := hd
   replace h4 := h4 rfl
   simp only [actOf, tk1, tk0, dr1, dr0, Act.put, si1, st1, st0, Nat.reduceAdd]
   rw [show vs 4 = _ from h4]
   have hm := HCM.out y hg
   go_wp2_with (with_reducible refine wpList_load_mid rfl 87 (.tmp 7) rfl w.heap.size 2 rfl (arrU s).toList _ hm hua rfl HIA.out ?_)
   exact ⟨rfl, _, rfl, grew_refl _, rfl⟩
  ·intro vs y hg hd
   obtain ⟨h5, _⟩ := hd
   replace h5 := h5 rfl
   simp only [actOf, tk1, tk0, dr1, dr0, Act.put, si1, st1, st0, Nat.reduceAdd]
   rw [show vs 5 = _ from h5]
   go_wp2_with (go_at_call 221; refine (of_row s y).mono ?_; rintro e z ⟨rfl, gz⟩)
   exact ⟨rfl, _, rfl, gz, rfl⟩
  ·intro vs y hg hd
   simp only [actOf, tk1, tk0, dr1, dr0, Act.put, si1, st1, st0, Nat.reduceAdd]
   go_wp2_with fail
   exact ⟨rfl, _, rfl, grew_refl _, rfl⟩
  ·intro vs y hg hd
   obtain ⟨h7, _⟩ := hd
   replace h7 := h7 rfl
   simp only [actOf, tk1, tk0, dr1, dr0, Act.put, si1, st1, st0, Nat.reduceAdd]
   rw [show vs 7 = _ from h7]
   have hc := HC20.out y hg
   go_wp2_with fail
   exact ⟨rfl, _, rfl, grew_refl _, rfl⟩
  ·intro vs y hg hd
   obtain ⟨h8, _⟩ := hd
   replace h8 := h8 rfl
   simp only [actOf, tk1, tk0, dr1, dr0, Act.put, si1, st1, st0, Nat.reduceAdd]
   rw [show vs 8 = _ from h8]
   go_wp2_with (go_at_call 222; refine (mkof_any A c y.heap.size l hl y (HRY.out y hg) (Nat.le_refl _)).mono ?_; rintro e z ⟨A2, c2, rfl, hr9, hb9, gz⟩)
   exact ⟨rfl, _, rfl, gz, ⟨A2, c2, rfl, hr9, fun ad h => Nat.le_trans hg.size (hb9 ad h)⟩⟩
  ·intro vs y hg hd
   obtain ⟨h1, h3, h6, h9, _⟩ := hd
   replace h1 := h1 rfl
   replace h3 := h3 rfl
   replace h6 := h6 rfl
   replace h9 := h9 rfl
   simp only [actOf, tk1, tk0, dr1, dr0, Act.put, si1, st1, st0, Nat.reduceAdd]
   rw [show vs 1 = _ from h1, show vs 3 = _ from h3, show vs 6 = _ from h6]
   obtain ⟨A2, c2, hv, hr9, hb9⟩ := PV.out h9
   rw [hv]
   have hbu := rg_built who leaf s A2 l.length c2
   generalize arrU s = aa at *
   refine wpList_build_is rfl 132 #[(0, .tmp 4), (1, .tmp 6), (2, .tmp 9), (3, .tmp 12)] rfl _ (by simpa [Act.eval] using hbu) ?_
   go_wp2_with fail
   exact ⟨rfl, _, rfl, grew_refl _, ⟨A2, c2, rfl, hr9, hb9⟩⟩
 ·intro vs y hg hJ
  have j0 : vs 0 = .pointer (some ⟨w.heap.size, 0, none⟩) := hJ 0 (by decide)
  have j1 : vs 1 = .int .i64 who := hJ 1 (by decide)
  have j2 : vs 2 = .pointer (some ⟨w.heap.size, 1, none⟩) := hJ 2 (by decide)
  have j3 : vs 3 = .int .i64 leaf := hJ 3 (by decide)
  have j4 : vs 4 = .pointer (some ⟨w.heap.size, 2, none⟩) := hJ 4 (by decide)
  have j5 : vs 5 = .agg (arrU s) := hJ 5 (by decide)
  have j6 : vs 6 = .agg (arrU s) := hJ 6 (by decide)
  have j7 : vs 7 = .pointer (some ⟨w.heap.size, 20, none⟩) := hJ 7 (by decide)
  have j8 : vs 8 = .slice A l.length c := hJ 8 (by decide)
  simp only [actOf, tk1, tk0, dr1, dr0, Act.put, si1, st1, st0, Nat.reduceAdd]
  obtain ⟨A2, c2, j10, r3, hb3⟩ := AgS.out (show AgS y w2.heap.size who leaf s l (vs 10) from hJ 10 (by decide))
  rw [j10]
  clear hJ j0 j1 j2 j3 j4 j5 j6 j7 j8 j10
  have h2 := z2.lt
  have HLO : Hid (∀ ad, A2 = some ad → w.heap.size ≤ ad.block) := Lib.hid (fun ad h => by have := hb3 ad h; have := G2.size; omega)
  have HNE : Hid (∀ ad, A2 = some ad → ad.block ≠ w.heap.size + 1) := Lib.hid (fun ad h => by have := hb3 ad h; omega)
  have z3 := z2.grew hg
  have G3 := grew_trans G2 hg
  clear z2 G2 hg hb3 h2
  have HTH : Hid (y.there (w.heap.size + 1) 0 (sgC who leaf s (.slice A2 l.length c2)).size) := Lib.hid (z3.thereN 21 rfl)
  have HSI : Hid ((Tryz.prog.info? 132).map (·.size) = some (sgC who leaf s (.slice A2 l.length c2)).size) := Lib.hid rg_info
  have HON := Lib.hid (sgC_one who leaf s A2 l.length c2)
  have K3 := setCells_kp (sgC who leaf s (.slice A2 l.length c2)).toList (w.heap.size + 1) 0 y
  have r4 := (r3.kp K3 (Nat.le_refl _) (fun ad h1 h2 h3 => HNE.out ad h1 h3)).more K3.size
  have z4 := Ag.set (vs := (sgC who leaf s (.slice A2 l.length c2)).toList) z3 rfl
  have G4 := setCells_grew (o := 0) (b := w.heap.size + 1) (sgC who leaf s (.slice A2 l.length c2)).toList G3 (by omega)
  go_wp2_with (with_reducible refine wpList_store_mid rfl 132 (.tmp 2) (.tmp 13) rfl (w.heap.size + 1) 0 (sgC who leaf s (.slice A2 l.length c2)) rfl rfl HTH.out HSI.out HON.out ?_)
  exact bodyPost_ret (results_ag1 Tryz.results162 _ _ (w.heap.size + 1) _ _ rfl z4 hur rfl rg_info) rfl ⟨A2, ⟨c2, rfl⟩, r4, G4, HLO.out⟩
set_option maxRecDepth 100000 in
set_option maxHeartbeats 2000000 in
theorem stof_ok (cm : Nat) (who at_ sw lf : Int) (s : Nat → Nat) (A : Option Addr) (c : Nat) (l : List Nat) (hl : l.length ≤ 1048576) (w : World) (hr : Rd w w.heap.size A (u64L l)) :
 Calls Tryz.prog 182 #[.agg (stC cm who at_ sw lf s (.slice A l.length c))] w fun e w' => ∃ A' c', e = .returned (.agg (stC cm who at_ sw lf s (.slice A' l.length c'))) ∧ Rd w' w'.heap.size A' (u64L l) ∧ Grew w w' ∧ (∀ ad, A' = some ad → w.heap.size ≤ ad.block) := by
 have z0 := Ag.new w 91 (stC cm who at_ sw lf s (.slice A l.length c))
 have G0 := grew_alloc (grew_refl w) (.cells (stC cm who at_ sw lf s (.slice A l.length c)) 91)
 have hus := Tryz.underlying89
 have hur := Tryz.underlying169
 have CO := Lib.hid (fun W hR => kof_fr sw lf s A c l hl W hR)
 have HSL : Hid ((Tryz.prog.info? 89).map (·.size) = some (sgC sw lf s (.slice A l.length c)).toList.length) := Lib.hid sg_info
 go_enter Tryz.func182, Tryz.ntmps182
 go_wp2_with fail
 have z2 : Ag ((w.alloc (.cells (stC cm who at_ sw lf s (.slice A l.length c)) 91)).alloc (.cells (#[.int .u64 0, .int .i64 0, .int .i64 0, .int .i64 0, .int .i64 0, .int .u64 0, .int .u64 0, .int .u64 0, .int .u64 0, .int .u64 0, .int .u64 0, .int .u64 0, .int .u64 0, .int .u64 0, .int .u64 0, .int .u64 0, .int .u64 0, .int .u64 0, .int .u64 0, .int .u64 0, .int .u64 0, .int .u64 0, .int .u64 0, .slice none 0 0]) 169)) (w.heap.size + 1) (#[.int .u64 0, .int .i64 0, .int .i64 0, .int .i64 0, .int .i64 0, .int .u64 0, .int .u64 0, .int .u64 0, .int .u64 0, .int .u64 0, .int .u64 0, .int .u64 0, .int .u64 0, .int .u64 0, .int .u64 0, .int .u64 0, .int .u64 0, .int .u64 0, .int .u64 0, .int .u64 0, .int .u64 0, .int .u64 0, .int .u64 0, .slice none 0 0] : Array Value).toList := by
  have := Ag.new (w.alloc (.cells (stC cm who at_ sw lf s (.slice A l.length c)) 91)) 169 (#[.int .u64 0, .int .i64 0, .int .i64 0, .int .i64 0, .int .i64 0, .int .u64 0, .int .u64 0, .int .u64 0, .int .u64 0, .int .u64 0, .int .u64 0, .int .u64 0, .int .u64 0, .int .u64 0, .int .u64 0, .int .u64 0, .int .u64 0, .int .u64 0, .int .u64 0, .int .u64 0, .int .u64 0, .int .u64 0, .int .u64 0, .slice none 0 0])
  simpa using this
 have z1 := z0.grew (grew_alloc (grew_refl _) (.cells (#[.int .u64 0, .int .i64 0, .int .i64 0, .int .i64 0, .int .i64 0, .int .u64 0, .int .u64 0, .int .u64 0, .int .u64 0, .int .u64 0, .int .u64 0, .int .u64 0, .int .u64 0, .int .u64 0, .int .u64 0, .int .u64 0, .int .u64 0, .int .u64 0, .int .u64 0, .int .u64 0, .int .u64 0, .int .u64 0, .int .u64 0, .slice none 0 0]) 169))
 have G2 := grew_alloc G0 (.cells (#[.int .u64 0, .int .i64 0, .int .i64 0, .int .i64 0, .int .i64 0, .int .u64 0, .int .u64 0, .int .u64 0, .int .u64 0, .int .u64 0, .int .u64 0, .int .u64 0, .int .u64 0, .int .u64 0, .int .u64 0, .int .u64 0, .int .u64 0, .int .u64 0, .int .u64 0, .int .u64 0, .int .u64 0, .int .u64 0, .int .u64 0, .slice none 0 0]) 169)
 clear z0 G0
 generalize (w.alloc (.cells (stC cm who at_ sw lf s (.slice A l.length c)) 91)).alloc (.cells (#[.int .u64 0, .int .i64 0, .int .i64 0, .int .i64 0, .int .i64 0, .int .u64 0, .int .u64 0, .int .u64 0, .int .u64 0, .int .u64 0, .int .u64 0, .int .u64 0, .int .u64 0, .int .u64 0, .int .u64 0, .int .u64 0, .int .u64 0, .int .u64 0, .int .u64 0, .int .u64 0, .int .u64 0, .int .u64 0, .int .u64 0, .slice none 0 0]) 169) = w2 at *
 have HC0 : Hid (∀ y, Grew w2 y → y.cell? ⟨w.heap.size, 0, none⟩ = some (.int .u64 (cm : Nat))) := Lib.hid (fun y g => by simpa using (z1.grew g).cell 0 _ rfl)
 have HC1 : Hid (∀ y, Grew w2 y → y.cell? ⟨w.heap.size, 1, none⟩ = some (.int .i64 who)) := Lib.hid (fun y g => by simpa using (z1.grew g).cell 1 _ rfl)
 have HC2 : Hid (∀ y, Grew w2 y → y.cell? ⟨w.heap.size, 2, none⟩ = some (.int .i64 at_)) := Lib.hid (fun y g => by simpa using (z1.grew g).cell 2 _ rfl)
 have HCM : Hid (∀ y, Grew w2 y → y.rangeAt w.heap.size 3 (sgC sw lf s (.slice A l.length c)).toList) := Lib.hid (fun y g => st_sig (z1.grew g).cell)
 have r2 := hr.gr G2
 have HRY := Lib.hid (fun y (g : Grew w2 y) => r2.gr g)
 clear z1 hr r2
 generalize sgC sw lf s (.slice A l.length c) = gs at *
 refine wp_region_rel 10 (fun i => match i with
  | 0 => fun v _ => v = .pointer (some ⟨w.heap.size, 0, none⟩)
  | 1 => fun v _ => v = .int .u64 (cm : Nat)
  | 2 => fun v _ => v = .pointer (some ⟨w.heap.size, 1, none⟩)
  | 3 => fun v _ => v = .int .i64 who
  | 4 => fun v _ => v = .pointer (some ⟨w.heap.size, 2, none⟩)
  | 5 => fun v _ => v = .int .i64 at_
  | 6 => fun v _ => v = .pointer (some ⟨w.heap.size, 3, none⟩)
  | 7 => fun v _ => v = .agg gs
  | 8 => fun v w => AgS w w2.heap.size sw lf s l v
  | 9 => fun v w => AgT w w2.heap.size cm who at_ sw lf s l v
  | _ => fun _ _ => True) (by kernel_rfl) (by kernel_rfl) ?_ ?_ ?_
 ·intro i v x y h hg
  match i, h with
  | 0, h | 1, h | 2, h | 3, h | 4, h | 5, h | 6, h | 7, h => exact h
  | 8, h => exact AgS.gr h hg
  | 9, h => exact AgT.gr h hg
  | m + 10, _ => trivial
 ·refine ⟨?_, ?_, ?_, ?_, ?_, ?_, ?_, ?_, ?_, ?_, trivial⟩
  ·intro vs y hg hd
   simp only [actOf, tk1, tk0, dr1, dr0, Act.put, si1, st1, st0, Nat.reduceAdd]
   go_wp2_with fail
   exact ⟨rfl, _, rfl, grew_refl _, rfl⟩
  ·intro vs y hg hd
   obtain ⟨h0, _⟩ := hd
   replace h0 := h0 rfl
   simp only [actOf, tk1, tk0, dr1, dr0, Act.put, si1, st1, st0, Nat.reduceAdd]
   rw [show vs 0 = _ from h0]
   have hc := HC0.out y hg
   go_wp2_with fail
   exact ⟨rfl, _, rfl, grew_refl _, rfl⟩
  ·intro vs y hg hd
   simp only [actOf, tk1, tk0, dr1, dr0, Act.put, si1, st1, st0, Nat.reduceAdd]
   go_wp2_with fail
   exact ⟨rfl, _, rfl, grew_refl _, rfl⟩
  ·intro vs y hg hd
   obtain ⟨h2, _⟩ := hd
   replace h2 := h2 rfl
   simp only [actOf, tk1, tk0, dr1, dr0, Act.put, si1, st1, st0, Nat.reduceAdd]
   rw [show vs 2 = _ from h2]
   have hc := HC1.out y hg
   go_wp2_with fail
   exact ⟨rfl, _, rfl, grew_refl _, rfl⟩
  ·intro vs y hg hd
   simp only [actOf, tk1, tk0, dr1, dr0, Act.put, si1, st1, st0, Nat.reduceAdd]
   go_wp2_with fail
   exact ⟨rfl, _, rfl, grew_refl _, rfl⟩
  ·intro vs y hg hd
   obtain ⟨h4, _⟩ := hd
   replace h4 := h4 rfl
   simp only [actOf, tk1, tk0, dr1, dr0, Act.put, si1, st1, st0, Nat.reduceAdd]
   rw [show vs 4 = _ from h4]
   have hc := HC2.out y hg
   go_wp2_with fail
   exact ⟨rfl, _, rfl, grew_refl _, rfl⟩
  ·intro vs y hg hd
   simp only [actOf, tk1, tk0, dr1, dr0, Act.put, si1, st1, st0, Nat.reduceAdd]
   go_wp2_with fail
   exact ⟨rfl, _, rfl, grew_refl _, rfl⟩
  ·intro vs y hg hd
   obtain ⟨h6, _⟩ := hd
   replace h6 := h6 rfl
   simp only [actOf, tk1, tk0, dr1, dr0, Act.put, si1, st1, st0, Nat.reduceAdd]
   rw [show vs 6 = _ from h6]
   have hm := HCM.out y hg
   go_wp2_with (with_reducible refine wpList_load_mid rfl 89 (.tmp 9) rfl w.heap.size 3 rfl gs.toList _ hm hus rfl HSL.out ?_; simp only [Array.toArray_toList])
   exact ⟨rfl, _, rfl, grew_refl _, rfl⟩
  ·intro vs y hg hd
   obtain ⟨h7, _⟩ := hd
   replace h7 := h7 rfl
   simp only [actOf, tk1, tk0, dr1, dr0, Act.put, si1, st1, st0, Nat.reduceAdd]
   rw [show vs 7 = _ from h7]
   go_wp2_with (go_at_call 162; refine (CO.out y (HRY.out y hg)).mono ?_; rintro e z ⟨A2, c2, rfl, hr2, gz, hb2⟩)
   exact ⟨rfl, _, rfl, gz, ⟨A2, c2, rfl, hr2, fun ad h => by have := hb2 ad h; have := hg.size; omega⟩⟩
  ·intro vs y hg hd
   obtain ⟨h1, h3, h5, h8, _⟩ := hd
   replace h1 := h1 rfl
   replace h3 := h3 rfl
   replace h5 := h5 rfl
   replace h8 := h8 rfl
   simp only [actOf, tk1, tk0, dr1, dr0, Act.put, si1, st1, st0, Nat.reduceAdd]
   rw [show vs 1 = _ from h1, show vs 3 = _ from h3, show vs 5 = _ from h5]
   obtain ⟨A2, c2, hv, hr2, hb2⟩ := AgS.out h8
   rw [hv]
   have HBU := Lib.hid (rst_built cm who at_ sw lf s A2 l.length c2)
   go_wp2_with (with_reducible refine wpList_build_is rfl 169 #[(0, .tmp 4), (1, .tmp 6), (2, .tmp 8), (3, .tmp 11)] rfl (stC cm who at_ sw lf s (.slice A2 l.length c2)) ?_ ?_; · simpa [Act.eval, Act.put] using HBU.out)
   exact ⟨rfl, _, rfl, grew_refl _, ⟨A2, c2, rfl, hr2, hb2⟩⟩
 ·intro vs y hg hJ
  have j0 : vs 0 = .pointer (some ⟨w.heap.size, 0, none⟩) := hJ 0 (by decide)
  have j1 : vs 1 = .int .u64 (cm : Nat) := hJ 1 (by decide)
  have j2 : vs 2 = .pointer (some ⟨w.heap.size, 1, none⟩) := hJ 2 (by decide)
  have j3 : vs 3 = .int .i64 who := hJ 3 (by decide)
  have j4 : vs 4 = .pointer (some ⟨w.heap.size, 2, none⟩) := hJ 4 (by decide)
  have j5 : vs 5 = .int .i64 at_ := hJ 5 (by decide)
  have j6 : vs 6 = .pointer (some ⟨w.heap.size, 3, none⟩) := hJ 6 (by decide)
  have j7 : vs 7 = .agg gs := hJ 7 (by decide)
  have s11 := hJ 8 (by decide)
  have s12 := hJ 9 (by decide)
  clear hJ
  simp only [actOf, tk1, tk0, dr1, dr0, Act.put, si1, st1, st0, Nat.reduceAdd]
  obtain ⟨A2, c2, j9, r3, hb3⟩ := AgT.out s12
  rw [j9]
  clear s11 s12 j9
  have hz1 := z2.lt
  have hz2 := G2.size
  have HNE : Hid (∀ ad, A2 = some ad → ad.block ≠ w.heap.size + 1) := Lib.hid (fun ad h => by have := hb3 ad h; omega)
  have HLO : Hid (∀ ad, A2 = some ad → w.heap.size ≤ ad.block) := Lib.hid (fun ad h => by have := hb3 ad h; omega)
  have z3 := z2.grew hg
  have G3 := grew_trans G2 hg
  clear z2 G2 hg hb3 hz1 hz2
  have HTH : Hid (y.there (w.heap.size + 1) 0 (stC cm who at_ sw lf s (.slice A2 l.length c2)).size) := Lib.hid (z3.thereN 24 rfl)
  have HSI : Hid ((Tryz.prog.info? 169).map (·.size) = some (stC cm who at_ sw lf s (.slice A2 l.length c2)).size) := Lib.hid rst_info
  have HON := Lib.hid (stC_one cm who at_ sw lf s A2 l.length c2)
  have K3 := setCells_kp (stC cm who at_ sw lf s (.slice A2 l.length c2)).toList (w.heap.size + 1) 0 y
  have r4 := (r3.kp K3 (Nat.le_refl _) (fun ad h1 h2 h3 => HNE.out ad h1 h3)).more K3.size
  have z4 := Ag.set (vs := (stC cm who at_ sw lf s (.slice A2 l.length c2)).toList) z3 rfl
  have G4 := setCells_grew (o := 0) (b := w.heap.size + 1) (stC cm who at_ sw lf s (.slice A2 l.length c2)).toList G3 (by omega)
  go_wp2_with (with_reducible refine wpList_store_mid rfl 169 (.tmp 2) (.tmp 12) rfl (w.heap.size + 1) 0 (stC cm who at_ sw lf s (.slice A2 l.length c2)) rfl rfl HTH.out HSI.out HON.out ?_)
  exact bodyPost_ret (results_ag1 Tryz.results182 _ _ (w.heap.size + 1) _ _ rfl z4 hur rfl rst_info) rfl ⟨A2, ⟨c2, rfl⟩, r4, G4, HLO.out⟩
end Go.Proofs.YtpppegnojmnicaaGreatDoor

namespace Go.Proofs.YtpppegnojmnicaaGreatDoor
set_option linter.unusedSimpArgs false
set_option linter.unusedVariables false
open Go.RowKit
set_option linter.unusedVariables false
set_option linter.unusedSimpArgs false
set_option maxRecDepth 100000 in
set_option maxHeartbeats 1000000 in
theorem rstsame_ok (cm : Nat) (who at_ sw lf : Int) (s : Nat → Nat) (A A' : Option Addr) (c c' : Nat) (l : List Nat) (hl : l.length ≤ 1048576) (w : World) (hr : Rd w w.heap.size A (u64L l)) (hr' : Rd w w.heap.size A' (u64L l)) :
 Calls Tryz.prog 107 #[.agg (stC cm who at_ sw lf s (.slice A l.length c)), .agg (stC cm who at_ sw lf s (.slice A' l.length c'))] w fun e w' => e = .returned (.bool true) ∧ Grew w w' := by
 have z1 := (Ag.new w 169 (stC cm who at_ sw lf s (.slice A l.length c))).grew (grew_alloc (grew_refl _) (.cells (stC cm who at_ sw lf s (.slice A' l.length c')) 169))
 have z2 := Ag.new (w.alloc (.cells (stC cm who at_ sw lf s (.slice A l.length c)) 169)) 169 (stC cm who at_ sw lf s (.slice A' l.length c'))
 rw [alloc_size] at z2
 have G0 := grew_alloc (grew_alloc (grew_refl w) (.cells (stC cm who at_ sw lf s (.slice A l.length c)) 169)) (.cells (stC cm who at_ sw lf s (.slice A' l.length c')) 169)
 have r1 := hr.gr G0
 have r2 := hr'.gr G0
 have hus := Tryz.underlying132
 have HL1 : Hid ((Tryz.prog.info? 132).map (·.size) = some (sgC sw lf s (.slice A l.length c)).toList.length) := Lib.hid rg_info
 have HL2 : Hid ((Tryz.prog.info? 132).map (·.size) = some (sgC sw lf s (.slice A' l.length c')).toList.length) := Lib.hid rg_info
 have m1 := Lib.hid (st_sig z1.cell)
 have m2 := Lib.hid (st_sig z2.cell)
 have x0 : ((w.alloc (.cells (stC cm who at_ sw lf s (.slice A l.length c)) 169)).alloc (.cells (stC cm who at_ sw lf s (.slice A' l.length c')) 169)).cell? ⟨w.heap.size, 0, none⟩ = some (.int .u64 (cm : Nat)) := by simpa using z1.cell 0 _ rfl
 have x1 : ((w.alloc (.cells (stC cm who at_ sw lf s (.slice A l.length c)) 169)).alloc (.cells (stC cm who at_ sw lf s (.slice A' l.length c')) 169)).cell? ⟨w.heap.size, 1, none⟩ = some (.int .i64 who) := by simpa using z1.cell 1 _ rfl
 have x2 : ((w.alloc (.cells (stC cm who at_ sw lf s (.slice A l.length c)) 169)).alloc (.cells (stC cm who at_ sw lf s (.slice A' l.length c')) 169)).cell? ⟨w.heap.size, 2, none⟩ = some (.int .i64 at_) := by simpa using z1.cell 2 _ rfl
 have y0 : ((w.alloc (.cells (stC cm who at_ sw lf s (.slice A l.length c)) 169)).alloc (.cells (stC cm who at_ sw lf s (.slice A' l.length c')) 169)).cell? ⟨w.heap.size + 1, 0, none⟩ = some (.int .u64 (cm : Nat)) := by simpa using z2.cell 0 _ rfl
 have y1 : ((w.alloc (.cells (stC cm who at_ sw lf s (.slice A l.length c)) 169)).alloc (.cells (stC cm who at_ sw lf s (.slice A' l.length c')) 169)).cell? ⟨w.heap.size + 1, 1, none⟩ = some (.int .i64 who) := by simpa using z2.cell 1 _ rfl
 have y2 : ((w.alloc (.cells (stC cm who at_ sw lf s (.slice A l.length c)) 169)).alloc (.cells (stC cm who at_ sw lf s (.slice A' l.length c')) 169)).cell? ⟨w.heap.size + 1, 2, none⟩ = some (.int .i64 at_) := by simpa using z2.cell 2 _ rfl
 have CS := Lib.hid (rsame_ok sw lf s A A' c c' l hl _ r1 r2)
 have e0 : ((cm : Int) == (cm : Int)) = true := by simp
 have e1 : (who == who) = true := by simp
 have e2 : (at_ == at_) = true := by simp
 have GG := Lib.hid G0
 clear z1 z2 r1 r2 G0 hr hr'
 go_enter Tryz.func107, Tryz.ntmps107
 obtain ⟨v, hv⟩ : ∃ v, (w.alloc (.cells (stC cm who at_ sw lf s (.slice A l.length c)) 169)).alloc (.cells (stC cm who at_ sw lf s (.slice A' l.length c')) 169) = v := ⟨_, rfl⟩
 rw [hv] at CS GG x0 x1 x2 y0 y1 y2 m1 m2
 go_wp2_with (first
  | (refine wpList_load_mid_want (by rfl) 132 (.tmp 25) rfl w.heap.size 3 rfl (sgC sw lf s (.slice A l.length c)).toList _ m1.out hus rfl HL1.out ?_; simp only [Array.toArray_toList])
  | (refine wpList_load_mid_want (by rfl) 132 (.tmp 27) rfl (w.heap.size + 1) 3 rfl (sgC sw lf s (.slice A' l.length c')).toList _ m2.out hus rfl HL2.out ?_; simp only [Array.toArray_toList]))
 refine (CS.out).mono ?_
 rintro e w1 ⟨rfl, gg⟩
 go_wp2_with fail
 go_ret
 exact ⟨rfl, grew_trans GG.out gg⟩
end Go.Proofs.YtpppegnojmnicaaGreatDoor

namespace Go.Proofs.YtpppegnojmnicaaGreatDoor
set_option linter.unusedSimpArgs false
set_option linter.unusedVariables false
open Go.RowKit
set_option linter.unusedVariables false
set_option linter.unusedSimpArgs false
theorem st4_parts {x0 x1 x2 x3 : List UInt8} (h : st4 x0 x1 x2 x3 = true) : (pnum x1).2 = 0 ∧ (pnum x2).2 = 0 ∧ (-2147483648 ≤ (pnum x1).1 ∧ (pnum x1).1 ≤ 2147483647) ∧ (parseO x0).isSome = true ∧ (sigP x3).isSome = true := by
 unfold st4 smallB at h
 simp only [Bool.and_eq_true, decide_eq_true_eq] at h
 exact ⟨h.1.1.1.1, h.1.1.1.2, h.1.1.2, h.1.2, h.2⟩
structure StIn (r : StR) : Prop where
 cm : r.cm < 18446744073709551616
 who : in64 r.who
 at_ : in64 r.at_
 sw : in64 r.g.1.1
 lf : in64 r.g.1.2
 s : ∀ k, k < 18 → r.g.2.1 k < 18446744073709551616
 l : ∀ n ∈ r.g.2.2, n < 18446744073709551616
 len : r.g.2.2.length ≤ 8
theorem stF_in {x0 x1 x2 x3 : List UInt8} (h : st4 x0 x1 x2 x3 = true) : StIn (stF x0 x1 x2 x3) := by
 obtain ⟨h1, h2, h3, h4, h5⟩ := st4_parts h
 obtain ⟨d, hd⟩ := Option.isSome_iff_exists.1 h4
 have hb := (parseO_back hd).2
 have a1 := pnum_zero h1
 have a2 := pnum_zero h2
 have g := sgO_in x3
 exact ⟨by show (parseO x0).getD 0 < _; rw [hd]; exact hb, ⟨a1.2.2.1, a1.2.2.2⟩, ⟨a2.2.2.1, a2.2.2.2⟩, g.1, g.2.1, g.2.2.1, g.2.2.2.1, g.2.2.2.2⟩
theorem zero_in : StIn .zero := ⟨by decide, ⟨by decide, by decide⟩, ⟨by decide, by decide⟩, ⟨by decide, by decide⟩, ⟨by decide, by decide⟩, (fun k _ => by show 0 < _; decide), (fun n h => by cases h), by decide⟩
theorem stO_in (S : List UInt8) : StIn (stO S) := by
 unfold stO
 split
 ·split
  ·rename_i h; exact stF_in h
  ·exact zero_in
 ·exact zero_in
def StR.t (r : StR) : List UInt8 := stT r.cm r.who r.at_ r.g.1.1 r.g.1.2 r.g.2.1 r.g.2.2
theorem stO_back {S : List UInt8} (h : stE S = 0) : (stO S).t = S := by
 cases hs : splitF S with
 | none => rw [(stE_none hs).1] at h; exact absurd h (by decide)
 | some l =>
  by_cases hl : 4096 < l.length
  ·rw [(stE_long hs hl).1] at h; exact absurd h (by decide)
  by_cases h4 : l.length = 4
  ·match l, h4, hs with
   | [x0, x1, x2, x3], _, hs =>
    obtain ⟨e1, e2⟩ := stE_four hs
    by_cases hb : st4 x0 x1 x2 x3 = true
    ·rw [if_pos hb] at e2
     rw [e2]
     obtain ⟨h1, h2, h3, h4, h5⟩ := st4_parts hb
     obtain ⟨d, hd⟩ := Option.isSome_iff_exists.1 h4
     have b0 := (parseO_back hd).1
     have b1 := (pnum_zero h1).1
     have b2 := (pnum_zero h2).1
     have b3 := sgO_back h5
     unfold StR.t stT stF
     dsimp only
     rw [hd, Option.getD_some, b0, b1, b2, b3]
     exact join_split S _ hs
    ·rw [if_neg hb] at e1
     rw [e1] at h; exact absurd h (by decide)
  ·rw [(stE_len hs (by omega) h4).1] at h; exact absurd h (by decide)
end Go.Proofs.YtpppegnojmnicaaGreatDoor

namespace Go.Proofs.YtpppegnojmnicaaGreatDoor
set_option linter.unusedSimpArgs false
set_option linter.unusedVariables false
open Go.RowKit
set_option linter.unusedVariables false
set_option linter.unusedSimpArgs false
structure KV (w : World) (B : Nat) (f : Int) (R : List Nat) (h : Int) (v : Value) : Prop where
 out : ∃ A c, v = .agg (kyS f A R.length c h) ∧ Rd w w.heap.size A (u64L R) ∧ (∀ ad, A = some ad → B ≤ ad.block)
theorem KV.gr {w w' : World} {B : Nat} {f : Int} {R : List Nat} {h : Int} {v : Value} (k : KV w B f R h v) (g : Grew w w') : KV w' B f R h v := by
 obtain ⟨A, c, h1, h2, h3⟩ := k.out
 exact ⟨A, c, h1, h2.gr g, h3⟩
end Go.Proofs.YtpppegnojmnicaaGreatDoor

namespace Go.Proofs.YtpppegnojmnicaaGreatDoor
set_option linter.unusedSimpArgs false
set_option linter.unusedVariables false
open Go.RowKit
set_option linter.unusedVariables false
set_option linter.unusedSimpArgs false
end Go.Proofs.YtpppegnojmnicaaGreatDoor
