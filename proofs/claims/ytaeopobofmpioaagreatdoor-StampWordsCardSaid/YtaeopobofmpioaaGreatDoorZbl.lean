/- The reference's ParseStamp of whatever text. -/
import Derived.Test.YtaeopobofmpioaaGreatDoorZbk
import Derived.Test.YtaeopobofmpioaaGreatDoorZay
import Derived.Test.YtaeopobofmpioaaGreatDoorZat
namespace Go.Proofs.YtaeopobofmpioaaGreatDoor
set_option linter.unusedSimpArgs false
set_option linter.unusedVariables false
open Go.RowKit
set_option linter.unusedVariables false
set_option linter.unusedSimpArgs false
set_option maxRecDepth 100000 in
theorem rst_built (cm : Nat) (who at_ sw lf : Int) (s : Nat → Nat) (A : Option Addr) (n c : Nat) : Tryz.prog.built 30 [(0, .int .u64 (cm : Nat)), (1, .int .i64 who), (2, .int .i64 at_), (3, .agg (sgC sw lf s (.slice A n c)))] = some (stC cm who at_ sw lf s (.slice A n c)) := by kernel_rfl
set_option maxRecDepth 100000 in
theorem rst_zero : Tryz.prog.built 30 [] = some (#[.int .u64 0, .int .i64 0, .int .i64 0, .int .i64 0, .int .i64 0, .int .u64 0, .int .u64 0, .int .u64 0, .int .u64 0, .int .u64 0, .int .u64 0, .int .u64 0, .int .u64 0, .int .u64 0, .int .u64 0, .int .u64 0, .int .u64 0, .int .u64 0, .int .u64 0, .int .u64 0, .int .u64 0, .int .u64 0, .int .u64 0, .slice none 0 0]) := by kernel_rfl
theorem rst_info : (Tryz.prog.info? 30).map (·.size) = some 24 := by kernel_rfl
set_option maxRecDepth 100000 in
set_option maxHeartbeats 1000000 in
theorem rstparse_split (tj : ByteArray) (hz : tj.size ≤ 1000000) (hno : ∀ x0 x1 x2 x3, splitF tj.data.toList ≠ some [x0, x1, x2, x3]) (w : World) :
    Calls Tryz.prog 29 #[.string tj] w fun e w' => (∃ A c, e = .returned (.tuple #[.agg ((stO tj.data.toList).v (.slice A (stO tj.data.toList).g.2.2.length c)), .int .i64 (stE tj.data.toList)]) ∧ Rd w' w'.heap.size A (u64L (stO tj.data.toList).g.2.2) ∧ (∀ ad, A = some ad → w.heap.size < ad.block)) ∧ Grew w w' := by
  have hut := Tryz.underlying30
  have hus := Tryz.underlying28
  have bz : ∀ W, (Instr.build 30 #[]).run Tryz.prog W = .ok (.agg (#[.int .u64 0, .int .i64 0, .int .i64 0, .int .i64 0, .int .i64 0, .int .u64 0, .int .u64 0, .int .u64 0, .int .u64 0, .int .u64 0, .int .u64 0, .int .u64 0, .int .u64 0, .int .u64 0, .int .u64 0, .int .u64 0, .int .u64 0, .int .u64 0, .int .u64 0, .int .u64 0, .int .u64 0, .int .u64 0, .int .u64 0, .slice none 0 0])) W := fun W => run_build W 30 #[] _ rst_zero
  have HSI : Hid ((Tryz.prog.info? 30).map (·.size) = some (#[.int .u64 0, .int .i64 0, .int .i64 0, .int .i64 0, .int .i64 0, .int .u64 0, .int .u64 0, .int .u64 0, .int .u64 0, .int .u64 0, .int .u64 0, .int .u64 0, .int .u64 0, .int .u64 0, .int .u64 0, .int .u64 0, .int .u64 0, .int .u64 0, .int .u64 0, .int .u64 0, .int .u64 0, .int .u64 0, .int .u64 0, .slice none 0 0] : Array Value).size) := Lib.hid rst_info
  have HSIL : Hid ((Tryz.prog.info? 30).map (·.size) = some (#[.int .u64 0, .int .i64 0, .int .i64 0, .int .i64 0, .int .i64 0, .int .u64 0, .int .u64 0, .int .u64 0, .int .u64 0, .int .u64 0, .int .u64 0, .int .u64 0, .int .u64 0, .int .u64 0, .int .u64 0, .int .u64 0, .int .u64 0, .int .u64 0, .int .u64 0, .int .u64 0, .int .u64 0, .int .u64 0, .int .u64 0, .slice none 0 0] : Array Value).toList.length) := Lib.hid rst_info
  have HON : Hid ((#[.int .u64 0, .int .i64 0, .int .i64 0, .int .i64 0, .int .i64 0, .int .u64 0, .int .u64 0, .int .u64 0, .int .u64 0, .int .u64 0, .int .u64 0, .int .u64 0, .int .u64 0, .int .u64 0, .int .u64 0, .int .u64 0, .int .u64 0, .int .u64 0, .int .u64 0, .int .u64 0, .int .u64 0, .int .u64 0, .int .u64 0, .slice none 0 0] : Array Value).all (·.oneCell') = true) := Lib.hid (by simp [Value.oneCell'])
  have z0 := Ag.new w 30 (#[.int .u64 0, .int .i64 0, .int .i64 0, .int .i64 0, .int .i64 0, .int .u64 0, .int .u64 0, .int .u64 0, .int .u64 0, .int .u64 0, .int .u64 0, .int .u64 0, .int .u64 0, .int .u64 0, .int .u64 0, .int .u64 0, .int .u64 0, .int .u64 0, .int .u64 0, .int .u64 0, .int .u64 0, .int .u64 0, .int .u64 0, .slice none 0 0])
  have g0 := grew_alloc (grew_refl w) (.cells (#[.int .u64 0, .int .i64 0, .int .i64 0, .int .i64 0, .int .i64 0, .int .u64 0, .int .u64 0, .int .u64 0, .int .u64 0, .int .u64 0, .int .u64 0, .int .u64 0, .int .u64 0, .int .u64 0, .int .u64 0, .int .u64 0, .int .u64 0, .int .u64 0, .int .u64 0, .int .u64 0, .int .u64 0, .int .u64 0, .int .u64 0, .slice none 0 0]) 30)
  have CS := Lib.hid (fun W => rsplit_ok tj (by omega) W)
  go_enter Tryz.func29, Tryz.ntmps29
  go_wp2_with fail
  refine (CS.out _).mono ?_
  rintro e w1 ⟨hs, gg⟩
  have z1 := z0.grew gg
  have g1 := grew_trans g0 gg
  have HTH : Hid (w1.there w.heap.size 0 (#[.int .u64 0, .int .i64 0, .int .i64 0, .int .i64 0, .int .i64 0, .int .u64 0, .int .u64 0, .int .u64 0, .int .u64 0, .int .u64 0, .int .u64 0, .int .u64 0, .int .u64 0, .int .u64 0, .int .u64 0, .int .u64 0, .int .u64 0, .int .u64 0, .int .u64 0, .int .u64 0, .int .u64 0, .int .u64 0, .int .u64 0, .slice none 0 0] : Array Value).size) := Lib.hid (z1.thereN 24 rfl)
  have zZ := Ag.set (vs := (#[.int .u64 0, .int .i64 0, .int .i64 0, .int .i64 0, .int .i64 0, .int .u64 0, .int .u64 0, .int .u64 0, .int .u64 0, .int .u64 0, .int .u64 0, .int .u64 0, .int .u64 0, .int .u64 0, .int .u64 0, .int .u64 0, .int .u64 0, .int .u64 0, .int .u64 0, .int .u64 0, .int .u64 0, .int .u64 0, .int .u64 0, .slice none 0 0] : Array Value).toList) z1 rfl
  have gZ := setCells_grew (o := 0) (b := w.heap.size) (#[.int .u64 0, .int .i64 0, .int .i64 0, .int .i64 0, .int .i64 0, .int .u64 0, .int .u64 0, .int .u64 0, .int .u64 0, .int .u64 0, .int .u64 0, .int .u64 0, .int .u64 0, .int .u64 0, .int .u64 0, .int .u64 0, .int .u64 0, .int .u64 0, .int .u64 0, .int .u64 0, .int .u64 0, .int .u64 0, .int .u64 0, .slice none 0 0] : Array Value).toList g1 (Nat.le_refl _)
  clear CS z0 g0 gg z1 g1
  rcases hs with ⟨h1, rfl⟩ | ⟨l, h1, ⟨h2, rfl⟩ | ⟨h2, v, rfl, o1⟩⟩
  · have HE := Lib.hid (stE_none h1)
    clear h1
    go_wp2_with (first
      | (with_reducible refine wpList_store_mid rfl 30 (.tmp 2) (.tmp 19) rfl w.heap.size 0 (#[.int .u64 0, .int .i64 0, .int .i64 0, .int .i64 0, .int .i64 0, .int .u64 0, .int .u64 0, .int .u64 0, .int .u64 0, .int .u64 0, .int .u64 0, .int .u64 0, .int .u64 0, .int .u64 0, .int .u64 0, .int .u64 0, .int .u64 0, .int .u64 0, .int .u64 0, .int .u64 0, .int .u64 0, .int .u64 0, .int .u64 0, .slice none 0 0]) rfl rfl HTH.out HSI.out HON.out ?_)
      | (go_at_call 90; refine (small_is n1 _ SM.out _).mono ?_; rintro e z ⟨rfl, hz⟩; rw [hz]; clear hz))
    exact bodyPost_ret (results_ag2 Tryz.results29 _ _ w.heap.size _ _ _ rfl rfl zZ hut rfl HSIL.out) rfl ⟨⟨none, 0, by rw [HE.out.1, HE.out.2]; rfl, by rw [HE.out.2]; exact fun k hk => absurd hk (by simp [StR.zero, u64L]), fun ad h => by cases h⟩, gZ⟩
  · have HE := Lib.hid (stE_long h1 h2)
    clear h1 h2
    go_wp2_with (first
      | (with_reducible refine wpList_store_mid rfl 30 (.tmp 2) (.tmp 19) rfl w.heap.size 0 (#[.int .u64 0, .int .i64 0, .int .i64 0, .int .i64 0, .int .i64 0, .int .u64 0, .int .u64 0, .int .u64 0, .int .u64 0, .int .u64 0, .int .u64 0, .int .u64 0, .int .u64 0, .int .u64 0, .int .u64 0, .int .u64 0, .int .u64 0, .int .u64 0, .int .u64 0, .int .u64 0, .int .u64 0, .int .u64 0, .int .u64 0, .slice none 0 0]) rfl rfl HTH.out HSI.out HON.out ?_)
      | (go_at_call 90; refine (small_is n1 _ SM.out _).mono ?_; rintro e z ⟨rfl, hz⟩; rw [hz]; clear hz))
    exact bodyPost_ret (results_ag2 Tryz.results29 _ _ w.heap.size _ _ _ rfl rfl zZ hut rfl HSIL.out) rfl ⟨⟨none, 0, by rw [HE.out.1, HE.out.2]; rfl, by rw [HE.out.2]; exact fun k hk => absurd hk (by simp [StR.zero, u64L]), fun ad h => by cases h⟩, gZ⟩
  · have hl4 : l.length ≠ 4 := fun h4 => by
      match l, h4 with
      | [a, b, c, d], _ => exact hno a b c d h1
    have HE := Lib.hid (stE_len h1 h2 hl4)
    obtain ⟨A4, c4, rfl, -, -, -⟩ := own_rd o1
    have e4 : ((l.length : Int) != 4) = true := by simp; omega
    clear o1 h1 h2 hl4
    go_wp2_with (first
      | (with_reducible refine wpList_store_mid rfl 30 (.tmp 2) (.tmp 24) rfl w.heap.size 0 (#[.int .u64 0, .int .i64 0, .int .i64 0, .int .i64 0, .int .i64 0, .int .u64 0, .int .u64 0, .int .u64 0, .int .u64 0, .int .u64 0, .int .u64 0, .int .u64 0, .int .u64 0, .int .u64 0, .int .u64 0, .int .u64 0, .int .u64 0, .int .u64 0, .int .u64 0, .int .u64 0, .int .u64 0, .int .u64 0, .int .u64 0, .slice none 0 0]) rfl rfl HTH.out HSI.out HON.out ?_)
      | (go_at_call 90; refine (small_is n1 _ SM.out _).mono ?_; rintro e z ⟨rfl, hz⟩; rw [hz]; clear hz))
    exact bodyPost_ret (results_ag2 Tryz.results29 _ _ w.heap.size _ _ _ rfl rfl zZ hut rfl HSIL.out) rfl ⟨⟨none, 0, by rw [HE.out.1, HE.out.2]; rfl, by rw [HE.out.2]; exact fun k hk => absurd hk (by simp [StR.zero, u64L]), fun ad h => by cases h⟩, gZ⟩
set_option maxRecDepth 100000 in
set_option maxHeartbeats 4000000 in
theorem rstparse_four (tj : ByteArray) (x0 x1 x2 x3 : List UInt8) (hsp : splitF tj.data.toList = some [x0, x1, x2, x3]) (hz : tj.size ≤ 1000000) (l0 : x0.length ≤ 1000000) (l1 : x1.length ≤ 1000000) (l2 : x2.length ≤ 1000000) (l3 : x3.length ≤ 1000000) (w : World)  :
    Calls Tryz.prog 29 #[.string tj] w fun e w' => (∃ A c, e = .returned (.tuple #[.agg ((stO tj.data.toList).v (.slice A (stO tj.data.toList).g.2.2.length c)), .int .i64 (stE tj.data.toList)]) ∧ Rd w' w'.heap.size A (u64L (stO tj.data.toList).g.2.2) ∧ (∀ ad, A = some ad → w.heap.size < ad.block)) ∧ Grew w w' := by
  have HE0 := stE_four hsp
  have CS := Lib.hid (fun W => rsplit_some (s := tj) (l := [x0, x1, x2, x3]) hsp (by simp) (by omega) W)
  rw [show txt [x0, x1, x2, x3] = [⟨x0.toArray⟩, ⟨x1.toArray⟩, ⟨x2.toArray⟩, ⟨x3.toArray⟩] from rfl] at CS
  have N1 := (fun W => rparse_ok ⟨x1.toArray⟩ (by show x1.toArray.size ≤ _; simp; omega) W)
  have N2 := (fun W => rparse_ok ⟨x2.toArray⟩ (by show x2.toArray.size ≤ _; simp; omega) W)
  have HP := (fun W => rparse_any ⟨x0.toArray⟩ W)
  have KP := (fun W => rps_fr2 ⟨x3.toArray⟩ (by show x3.toArray.size ≤ _; simp; omega) W)
  unfold st4 stF at HE0
  simp only [show (⟨x0.toArray⟩ : ByteArray).data.toList = x0 from rfl, show (⟨x1.toArray⟩ : ByteArray).data.toList = x1 from rfl, show (⟨x2.toArray⟩ : ByteArray).data.toList = x2 from rfl, show (⟨x3.toArray⟩ : ByteArray).data.toList = x3 from rfl, pnumRes] at N1 N2 HP KP
  clear hsp
  generalize (⟨x0.toArray⟩ : ByteArray) = t0 at *
  generalize (⟨x1.toArray⟩ : ByteArray) = t1 at *
  generalize (⟨x2.toArray⟩ : ByteArray) = t2 at *
  generalize (⟨x3.toArray⟩ : ByteArray) = t3 at *
  generalize (pnum x1).1 = n1 at *
  generalize (pnum x1).2 = a1 at *
  generalize (pnum x2).1 = n2 at *
  generalize (pnum x2).2 = a2 at *
  generalize parseO x0 = o0 at *
  have HO3 : Hid (sgE (sigP x3) = if (sigP x3).isSome = true then 0 else 2) := Lib.hid rfl
  generalize sgE (sigP x3) = e3 at *
  generalize (sigP x3).isSome = b3 at *
  generalize sgO (sigP x3) = X at *
  obtain ⟨⟨sw, lf⟩, s, l⟩ := X
  dsimp only at KP HE0
  replace N1 := Lib.hid N1
  replace N2 := Lib.hid N2
  replace HP := Lib.hid HP
  replace KP := Lib.hid KP
  replace HE0 := Lib.hid HE0
  have HEZ : ∀ b : Bool, b = false → stE tj.data.toList = (if b = true then 0 else 2) ∧ stO tj.data.toList = (if b = true then (⟨o0.getD 0, n1, n2, ((sw, lf), s, l)⟩ : StR) else .zero) → Hid (stE tj.data.toList = 2 ∧ stO tj.data.toList = .zero) := fun b hb h => Lib.hid (by rw [hb] at h; exact h)
  generalize stE tj.data.toList = eS at *
  generalize stO tj.data.toList = oS at *
  clear l0 l1 l2 l3 hz
  have hut := Tryz.underlying30
  have hus := Tryz.underlying28
  have bz : ∀ W, (Instr.build 30 #[]).run Tryz.prog W = .ok (.agg (#[.int .u64 0, .int .i64 0, .int .i64 0, .int .i64 0, .int .i64 0, .int .u64 0, .int .u64 0, .int .u64 0, .int .u64 0, .int .u64 0, .int .u64 0, .int .u64 0, .int .u64 0, .int .u64 0, .int .u64 0, .int .u64 0, .int .u64 0, .int .u64 0, .int .u64 0, .int .u64 0, .int .u64 0, .int .u64 0, .int .u64 0, .slice none 0 0])) W := fun W => run_build W 30 #[] _ rst_zero
  have HSI : Hid ((Tryz.prog.info? 30).map (·.size) = some (#[.int .u64 0, .int .i64 0, .int .i64 0, .int .i64 0, .int .i64 0, .int .u64 0, .int .u64 0, .int .u64 0, .int .u64 0, .int .u64 0, .int .u64 0, .int .u64 0, .int .u64 0, .int .u64 0, .int .u64 0, .int .u64 0, .int .u64 0, .int .u64 0, .int .u64 0, .int .u64 0, .int .u64 0, .int .u64 0, .int .u64 0, .slice none 0 0] : Array Value).size) := Lib.hid rst_info
  have HSIL : Hid ((Tryz.prog.info? 30).map (·.size) = some (#[.int .u64 0, .int .i64 0, .int .i64 0, .int .i64 0, .int .i64 0, .int .u64 0, .int .u64 0, .int .u64 0, .int .u64 0, .int .u64 0, .int .u64 0, .int .u64 0, .int .u64 0, .int .u64 0, .int .u64 0, .int .u64 0, .int .u64 0, .int .u64 0, .int .u64 0, .int .u64 0, .int .u64 0, .int .u64 0, .int .u64 0, .slice none 0 0] : Array Value).toList.length) := Lib.hid rst_info
  have HON : Hid ((#[.int .u64 0, .int .i64 0, .int .i64 0, .int .i64 0, .int .i64 0, .int .u64 0, .int .u64 0, .int .u64 0, .int .u64 0, .int .u64 0, .int .u64 0, .int .u64 0, .int .u64 0, .int .u64 0, .int .u64 0, .int .u64 0, .int .u64 0, .int .u64 0, .int .u64 0, .int .u64 0, .int .u64 0, .int .u64 0, .int .u64 0, .slice none 0 0] : Array Value).all (·.oneCell') = true) := Lib.hid (by simp [Value.oneCell'])
  have z0 := Ag.new w 30 (#[.int .u64 0, .int .i64 0, .int .i64 0, .int .i64 0, .int .i64 0, .int .u64 0, .int .u64 0, .int .u64 0, .int .u64 0, .int .u64 0, .int .u64 0, .int .u64 0, .int .u64 0, .int .u64 0, .int .u64 0, .int .u64 0, .int .u64 0, .int .u64 0, .int .u64 0, .int .u64 0, .int .u64 0, .int .u64 0, .int .u64 0, .slice none 0 0])
  have g0 := grew_alloc (grew_refl w) (.cells (#[.int .u64 0, .int .i64 0, .int .i64 0, .int .i64 0, .int .i64 0, .int .u64 0, .int .u64 0, .int .u64 0, .int .u64 0, .int .u64 0, .int .u64 0, .int .u64 0, .int .u64 0, .int .u64 0, .int .u64 0, .int .u64 0, .int .u64 0, .int .u64 0, .int .u64 0, .int .u64 0, .int .u64 0, .int .u64 0, .int .u64 0, .slice none 0 0]) 30)
  go_enter Tryz.func29, Tryz.ntmps29
  go_wp2_with fail
  refine (CS.out _).mono ?_
  rintro e w1 ⟨⟨v1, rfl, o1⟩, gg⟩
  have z1 := z0.grew gg
  have g1 := grew_trans g0 gg
  obtain ⟨g, k1, rfl, hk1, hgl, hcs⟩ := own_cells o1 (by simp)
  have x0 : w1.cell? ⟨g, 0, none⟩ = some (.string t0) := by simpa using hcs 0 (.string t0) rfl
  have x1 : w1.cell? ⟨g, 1, none⟩ = some (.string t1) := by simpa using hcs 1 (.string t1) rfl
  have x2 : w1.cell? ⟨g, 2, none⟩ = some (.string t2) := by simpa using hcs 2 (.string t2) rfl
  have x3 : w1.cell? ⟨g, 3, none⟩ = some (.string t3) := by simpa using hcs 3 (.string t3) rfl
  clear CS z0 g0 gg o1 hcs
  have hk1' : (4 : Int) ≤ (k1 : Int) := by
    have : 4 ≤ k1 := hk1
    omega
  go_wp2_with fail
  refine (N1.out _).mono ?_
  rintro e w2 ⟨rfl, hw2⟩
  have gg : Grew w1 w2 := by rw [hw2]; exact grew_refl _
  clear hw2
  have y0 := (gg.cell (p := ⟨g, 0, none⟩) hgl).trans x0
  have y2 := (gg.cell (p := ⟨g, 2, none⟩) hgl).trans x2
  have y3 := (gg.cell (p := ⟨g, 3, none⟩) hgl).trans x3
  have hgl2 := Nat.lt_of_lt_of_le hgl gg.size
  have z2 := z1.grew gg
  have g2 := grew_trans g1 gg
  clear N1 x0 x1 x2 x3 z1 g1 gg hgl
  go_wp2_with fail
  refine (N2.out _).mono ?_
  rintro e w3 ⟨rfl, hw3⟩
  have gg : Grew w2 w3 := by rw [hw3]; exact grew_refl _
  clear hw3
  have x0 := (gg.cell (p := ⟨g, 0, none⟩) hgl2).trans y0
  have x3 := (gg.cell (p := ⟨g, 3, none⟩) hgl2).trans y3
  have hgl3 := Nat.lt_of_lt_of_le hgl2 gg.size
  have z3 := z2.grew gg
  have g3 := grew_trans g2 gg
  clear N2 y0 y2 y3 z2 g2 gg hgl2
  by_cases h1 : a1 = 0
  case neg =>
    have HE := HEZ _ (by simp [h1]) HE0.out
    have e1 : (a1 != 0) = true := by simpa using h1
    clear h1 HE0
    have HTH : Hid (w3.there w.heap.size 0 (#[.int .u64 0, .int .i64 0, .int .i64 0, .int .i64 0, .int .i64 0, .int .u64 0, .int .u64 0, .int .u64 0, .int .u64 0, .int .u64 0, .int .u64 0, .int .u64 0, .int .u64 0, .int .u64 0, .int .u64 0, .int .u64 0, .int .u64 0, .int .u64 0, .int .u64 0, .int .u64 0, .int .u64 0, .int .u64 0, .int .u64 0, .slice none 0 0] : Array Value).size) := Lib.hid (z3.thereN 24 rfl)
    have zZ := Ag.set (vs := (#[.int .u64 0, .int .i64 0, .int .i64 0, .int .i64 0, .int .i64 0, .int .u64 0, .int .u64 0, .int .u64 0, .int .u64 0, .int .u64 0, .int .u64 0, .int .u64 0, .int .u64 0, .int .u64 0, .int .u64 0, .int .u64 0, .int .u64 0, .int .u64 0, .int .u64 0, .int .u64 0, .int .u64 0, .int .u64 0, .int .u64 0, .slice none 0 0] : Array Value).toList) z3 rfl
    have gZ := setCells_grew (o := 0) (b := w.heap.size) (#[.int .u64 0, .int .i64 0, .int .i64 0, .int .i64 0, .int .i64 0, .int .u64 0, .int .u64 0, .int .u64 0, .int .u64 0, .int .u64 0, .int .u64 0, .int .u64 0, .int .u64 0, .int .u64 0, .int .u64 0, .int .u64 0, .int .u64 0, .int .u64 0, .int .u64 0, .int .u64 0, .int .u64 0, .int .u64 0, .int .u64 0, .slice none 0 0] : Array Value).toList g3 (Nat.le_refl _)
    go_wp2_with (first
      | (with_reducible refine wpList_store_mid rfl 30 (.tmp 2) (.tmp 50) rfl w.heap.size 0 (#[.int .u64 0, .int .i64 0, .int .i64 0, .int .i64 0, .int .i64 0, .int .u64 0, .int .u64 0, .int .u64 0, .int .u64 0, .int .u64 0, .int .u64 0, .int .u64 0, .int .u64 0, .int .u64 0, .int .u64 0, .int .u64 0, .int .u64 0, .int .u64 0, .int .u64 0, .int .u64 0, .int .u64 0, .int .u64 0, .int .u64 0, .slice none 0 0]) rfl rfl HTH.out HSI.out HON.out ?_)
      | (go_at_call 90; refine (small_is n1 _ SM.out _).mono ?_; rintro e z ⟨rfl, hz⟩; rw [hz]; clear hz))
    exact bodyPost_ret (results_ag2 Tryz.results29 _ _ w.heap.size _ _ _ rfl rfl zZ hut rfl HSIL.out) rfl ⟨⟨none, 0, by rw [HE.out.1, HE.out.2]; rfl, by rw [HE.out.2]; exact fun k hk => absurd hk (by simp [StR.zero, u64L]), fun ad h => by cases h⟩, gZ⟩
  subst h1
  by_cases h2 : a2 = 0
  case neg =>
    have HE := HEZ _ (by simp [h2]) HE0.out
    have e1 : (a2 != 0) = true := by simpa using h2
    clear h2 HE0
    have HTH : Hid (w3.there w.heap.size 0 (#[.int .u64 0, .int .i64 0, .int .i64 0, .int .i64 0, .int .i64 0, .int .u64 0, .int .u64 0, .int .u64 0, .int .u64 0, .int .u64 0, .int .u64 0, .int .u64 0, .int .u64 0, .int .u64 0, .int .u64 0, .int .u64 0, .int .u64 0, .int .u64 0, .int .u64 0, .int .u64 0, .int .u64 0, .int .u64 0, .int .u64 0, .slice none 0 0] : Array Value).size) := Lib.hid (z3.thereN 24 rfl)
    have zZ := Ag.set (vs := (#[.int .u64 0, .int .i64 0, .int .i64 0, .int .i64 0, .int .i64 0, .int .u64 0, .int .u64 0, .int .u64 0, .int .u64 0, .int .u64 0, .int .u64 0, .int .u64 0, .int .u64 0, .int .u64 0, .int .u64 0, .int .u64 0, .int .u64 0, .int .u64 0, .int .u64 0, .int .u64 0, .int .u64 0, .int .u64 0, .int .u64 0, .slice none 0 0] : Array Value).toList) z3 rfl
    have gZ := setCells_grew (o := 0) (b := w.heap.size) (#[.int .u64 0, .int .i64 0, .int .i64 0, .int .i64 0, .int .i64 0, .int .u64 0, .int .u64 0, .int .u64 0, .int .u64 0, .int .u64 0, .int .u64 0, .int .u64 0, .int .u64 0, .int .u64 0, .int .u64 0, .int .u64 0, .int .u64 0, .int .u64 0, .int .u64 0, .int .u64 0, .int .u64 0, .int .u64 0, .int .u64 0, .slice none 0 0] : Array Value).toList g3 (Nat.le_refl _)
    go_wp2_with (first
      | (with_reducible refine wpList_store_mid rfl 30 (.tmp 2) (.tmp 50) rfl w.heap.size 0 (#[.int .u64 0, .int .i64 0, .int .i64 0, .int .i64 0, .int .i64 0, .int .u64 0, .int .u64 0, .int .u64 0, .int .u64 0, .int .u64 0, .int .u64 0, .int .u64 0, .int .u64 0, .int .u64 0, .int .u64 0, .int .u64 0, .int .u64 0, .int .u64 0, .int .u64 0, .int .u64 0, .int .u64 0, .int .u64 0, .int .u64 0, .slice none 0 0]) rfl rfl HTH.out HSI.out HON.out ?_)
      | (go_at_call 90; refine (small_is n1 _ SM.out _).mono ?_; rintro e z ⟨rfl, hz⟩; rw [hz]; clear hz))
    exact bodyPost_ret (results_ag2 Tryz.results29 _ _ w.heap.size _ _ _ rfl rfl zZ hut rfl HSIL.out) rfl ⟨⟨none, 0, by rw [HE.out.1, HE.out.2]; rfl, by rw [HE.out.2]; exact fun k hk => absurd hk (by simp [StR.zero, u64L]), fun ad h => by cases h⟩, gZ⟩
  subst h2
  by_cases h3 : -2147483648 ≤ n1 ∧ n1 ≤ 2147483647
  case neg =>
    have HE := HEZ _ (by simp [smallB, h3]) HE0.out
    have SM : Hid (decide (smallC n1) = false) := Lib.hid (decide_eq_false (by unfold smallC; omega))
    clear HE0
    have HTH : Hid (w3.there w.heap.size 0 (#[.int .u64 0, .int .i64 0, .int .i64 0, .int .i64 0, .int .i64 0, .int .u64 0, .int .u64 0, .int .u64 0, .int .u64 0, .int .u64 0, .int .u64 0, .int .u64 0, .int .u64 0, .int .u64 0, .int .u64 0, .int .u64 0, .int .u64 0, .int .u64 0, .int .u64 0, .int .u64 0, .int .u64 0, .int .u64 0, .int .u64 0, .slice none 0 0] : Array Value).size) := Lib.hid (z3.thereN 24 rfl)
    have zZ := Ag.set (vs := (#[.int .u64 0, .int .i64 0, .int .i64 0, .int .i64 0, .int .i64 0, .int .u64 0, .int .u64 0, .int .u64 0, .int .u64 0, .int .u64 0, .int .u64 0, .int .u64 0, .int .u64 0, .int .u64 0, .int .u64 0, .int .u64 0, .int .u64 0, .int .u64 0, .int .u64 0, .int .u64 0, .int .u64 0, .int .u64 0, .int .u64 0, .slice none 0 0] : Array Value).toList) z3 rfl
    have gZ := setCells_grew (o := 0) (b := w.heap.size) (#[.int .u64 0, .int .i64 0, .int .i64 0, .int .i64 0, .int .i64 0, .int .u64 0, .int .u64 0, .int .u64 0, .int .u64 0, .int .u64 0, .int .u64 0, .int .u64 0, .int .u64 0, .int .u64 0, .int .u64 0, .int .u64 0, .int .u64 0, .int .u64 0, .int .u64 0, .int .u64 0, .int .u64 0, .int .u64 0, .int .u64 0, .slice none 0 0] : Array Value).toList g3 (Nat.le_refl _)
    clear h3
    go_wp2_with (first
      | (with_reducible refine wpList_store_mid rfl 30 (.tmp 2) (.tmp 50) rfl w.heap.size 0 (#[.int .u64 0, .int .i64 0, .int .i64 0, .int .i64 0, .int .i64 0, .int .u64 0, .int .u64 0, .int .u64 0, .int .u64 0, .int .u64 0, .int .u64 0, .int .u64 0, .int .u64 0, .int .u64 0, .int .u64 0, .int .u64 0, .int .u64 0, .int .u64 0, .int .u64 0, .int .u64 0, .int .u64 0, .int .u64 0, .int .u64 0, .slice none 0 0]) rfl rfl HTH.out HSI.out HON.out ?_)
      | (go_at_call 90; refine (small_is n1 _ SM.out _).mono ?_; rintro e z ⟨rfl, hz⟩; rw [hz]; clear hz))
    exact bodyPost_ret (results_ag2 Tryz.results29 _ _ w.heap.size _ _ _ rfl rfl zZ hut rfl HSIL.out) rfl ⟨⟨none, 0, by rw [HE.out.1, HE.out.2]; rfl, by rw [HE.out.2]; exact fun k hk => absurd hk (by simp [StR.zero, u64L]), fun ad h => by cases h⟩, gZ⟩
  have hw1 : ¬ n1 < -2147483648 := by omega
  have hw2 : ¬ 2147483647 < n1 := by omega
  have SM : Hid (decide (smallC n1) = true) := Lib.hid (decide_eq_true (by unfold smallC; omega))
  have HB3 : Hid (smallB n1 = true) := Lib.hid (decide_eq_true h3)
  clear h3
  go_wp2_with (go_at_call 90; refine (small_is n1 _ SM.out _).mono ?_; rintro e z ⟨rfl, hz⟩; rw [hz]; clear hz)
  refine (HP.out _).mono ?_
  rintro e v3 ⟨rfl, rfl⟩
  cases o0 with
  | none =>
    have HE := HEZ _ (by simp) HE0.out
    clear HE0
    have HTH : Hid (w3.there w.heap.size 0 (#[.int .u64 0, .int .i64 0, .int .i64 0, .int .i64 0, .int .i64 0, .int .u64 0, .int .u64 0, .int .u64 0, .int .u64 0, .int .u64 0, .int .u64 0, .int .u64 0, .int .u64 0, .int .u64 0, .int .u64 0, .int .u64 0, .int .u64 0, .int .u64 0, .int .u64 0, .int .u64 0, .int .u64 0, .int .u64 0, .int .u64 0, .slice none 0 0] : Array Value).size) := Lib.hid (z3.thereN 24 rfl)
    have zZ := Ag.set (vs := (#[.int .u64 0, .int .i64 0, .int .i64 0, .int .i64 0, .int .i64 0, .int .u64 0, .int .u64 0, .int .u64 0, .int .u64 0, .int .u64 0, .int .u64 0, .int .u64 0, .int .u64 0, .int .u64 0, .int .u64 0, .int .u64 0, .int .u64 0, .int .u64 0, .int .u64 0, .int .u64 0, .int .u64 0, .int .u64 0, .int .u64 0, .slice none 0 0] : Array Value).toList) z3 rfl
    have gZ := setCells_grew (o := 0) (b := w.heap.size) (#[.int .u64 0, .int .i64 0, .int .i64 0, .int .i64 0, .int .i64 0, .int .u64 0, .int .u64 0, .int .u64 0, .int .u64 0, .int .u64 0, .int .u64 0, .int .u64 0, .int .u64 0, .int .u64 0, .int .u64 0, .int .u64 0, .int .u64 0, .int .u64 0, .int .u64 0, .int .u64 0, .int .u64 0, .int .u64 0, .int .u64 0, .slice none 0 0] : Array Value).toList g3 (Nat.le_refl _)
    rw [parseRes_none]
    go_wp2_with (first
      | (with_reducible refine wpList_store_mid rfl 30 (.tmp 2) (.tmp 60) rfl w.heap.size 0 (#[.int .u64 0, .int .i64 0, .int .i64 0, .int .i64 0, .int .i64 0, .int .u64 0, .int .u64 0, .int .u64 0, .int .u64 0, .int .u64 0, .int .u64 0, .int .u64 0, .int .u64 0, .int .u64 0, .int .u64 0, .int .u64 0, .int .u64 0, .int .u64 0, .int .u64 0, .int .u64 0, .int .u64 0, .int .u64 0, .int .u64 0, .slice none 0 0]) rfl rfl HTH.out HSI.out HON.out ?_)
      | (go_at_call 90; refine (small_is n1 _ SM.out _).mono ?_; rintro e z ⟨rfl, hz⟩; rw [hz]; clear hz))
    exact bodyPost_ret (results_ag2 Tryz.results29 _ _ w.heap.size _ _ _ rfl rfl zZ hut rfl HSIL.out) rfl ⟨⟨none, 0, by rw [HE.out.1, HE.out.2]; rfl, by rw [HE.out.2]; exact fun k hk => absurd hk (by simp [StR.zero, u64L]), fun ad h => by cases h⟩, gZ⟩
  | some cm =>
    rw [parseRes_some]
    go_wp2_with fail
    refine (KP.out _).mono ?_
    rintro e w4 ⟨⟨A, c, rfl, r4, hA4⟩, gg⟩
    have z4 := z3.grew gg
    have g4 := grew_trans g3 gg
    have HSI1 : Hid ((Tryz.prog.info? 28).map (·.size) = some (sgC sw lf s (.slice A l.length c)).size) := Lib.hid rg_info
    have HSL1 : Hid ((Tryz.prog.info? 28).map (·.size) = some (sgC sw lf s (.slice A l.length c)).toList.length) := Lib.hid rg_info
    have HON1 := Lib.hid (sgC_one sw lf s A l.length c)
    have HBU := Lib.hid (rst_built cm n1 n2 sw lf s A l.length c)
    have zt := Ag.new w4 28 (#[.int .i64 0, .int .i64 0, .int .u64 0, .int .u64 0, .int .u64 0, .int .u64 0, .int .u64 0, .int .u64 0, .int .u64 0, .int .u64 0, .int .u64 0, .int .u64 0, .int .u64 0, .int .u64 0, .int .u64 0, .int .u64 0, .int .u64 0, .int .u64 0, .int .u64 0, .int .u64 0, .slice none 0 0])
    have HTH1 : Hid ((w4.alloc (.cells (#[.int .i64 0, .int .i64 0, .int .u64 0, .int .u64 0, .int .u64 0, .int .u64 0, .int .u64 0, .int .u64 0, .int .u64 0, .int .u64 0, .int .u64 0, .int .u64 0, .int .u64 0, .int .u64 0, .int .u64 0, .int .u64 0, .int .u64 0, .int .u64 0, .int .u64 0, .int .u64 0, .slice none 0 0]) 28)).there w4.heap.size 0 (sgC sw lf s (.slice A l.length c)).size) := Lib.hid (zt.thereN 21 rfl)
    have z5 := Ag.set (vs := (sgC sw lf s (.slice A l.length c)).toList) zt rfl
    have g5 : Grew w4 ((w4.alloc (.cells (#[.int .i64 0, .int .i64 0, .int .u64 0, .int .u64 0, .int .u64 0, .int .u64 0, .int .u64 0, .int .u64 0, .int .u64 0, .int .u64 0, .int .u64 0, .int .u64 0, .int .u64 0, .int .u64 0, .int .u64 0, .int .u64 0, .int .u64 0, .int .u64 0, .int .u64 0, .int .u64 0, .slice none 0 0]) 28)).setCells w4.heap.size 0 (sgC sw lf s (.slice A l.length c)).toList) := setCells_grew (o := 0) (b := w4.heap.size) (sgC sw lf s (.slice A l.length c)).toList (grew_alloc (grew_refl w4) _) (Nat.le_refl _)
    have z6 := z4.grew g5
    have r6 := r4.gr g5
    have g6 := grew_trans g4 g5
    obtain ⟨g1, hg1⟩ : ∃ g, sgC sw lf s (.slice A l.length c) = g := ⟨_, rfl⟩
    rw [hg1] at HSI1 HSL1 HON1 HTH1 HBU z5 z6 r6 g6 ⊢
    obtain ⟨w6, hw6⟩ : ∃ v, (w4.alloc (.cells (#[.int .i64 0, .int .i64 0, .int .u64 0, .int .u64 0, .int .u64 0, .int .u64 0, .int .u64 0, .int .u64 0, .int .u64 0, .int .u64 0, .int .u64 0, .int .u64 0, .int .u64 0, .int .u64 0, .int .u64 0, .int .u64 0, .int .u64 0, .int .u64 0, .int .u64 0, .int .u64 0, .slice none 0 0]) 28)).setCells w4.heap.size 0 g1.toList = v := ⟨_, rfl⟩
    rw [hw6] at z5 z6 r6 g6
    have HW6 := Lib.hid hw6
    have hm5 := z5.cell
    have hz3 := z3.lt
    have HFR : Hid (∀ ad, A = some ad → w.heap.size < ad.block) := Lib.hid (fun ad e => by have := hA4 ad e; omega)
    clear hz3 hA4 hw6 hg1 zt g5 x0 x3 z3 g3 z4 g4 gg r4 hgl3 KP HP
    cases b3 with
    | false =>
      have HE := HEZ _ (by simp) HE0.out
      have he3 : e3 = 2 := HO3.out
      subst he3
      clear HE0 HO3
      have HTH : Hid (w6.there w.heap.size 0 (#[.int .u64 0, .int .i64 0, .int .i64 0, .int .i64 0, .int .i64 0, .int .u64 0, .int .u64 0, .int .u64 0, .int .u64 0, .int .u64 0, .int .u64 0, .int .u64 0, .int .u64 0, .int .u64 0, .int .u64 0, .int .u64 0, .int .u64 0, .int .u64 0, .int .u64 0, .int .u64 0, .int .u64 0, .int .u64 0, .int .u64 0, .slice none 0 0] : Array Value).size) := Lib.hid (z6.thereN 24 rfl)
      have zZ := Ag.set (vs := (#[.int .u64 0, .int .i64 0, .int .i64 0, .int .i64 0, .int .i64 0, .int .u64 0, .int .u64 0, .int .u64 0, .int .u64 0, .int .u64 0, .int .u64 0, .int .u64 0, .int .u64 0, .int .u64 0, .int .u64 0, .int .u64 0, .int .u64 0, .int .u64 0, .int .u64 0, .int .u64 0, .int .u64 0, .int .u64 0, .int .u64 0, .slice none 0 0] : Array Value).toList) z6 rfl
      have gZ := setCells_grew (o := 0) (b := w.heap.size) (#[.int .u64 0, .int .i64 0, .int .i64 0, .int .i64 0, .int .i64 0, .int .u64 0, .int .u64 0, .int .u64 0, .int .u64 0, .int .u64 0, .int .u64 0, .int .u64 0, .int .u64 0, .int .u64 0, .int .u64 0, .int .u64 0, .int .u64 0, .int .u64 0, .int .u64 0, .int .u64 0, .int .u64 0, .int .u64 0, .int .u64 0, .slice none 0 0] : Array Value).toList g6 (Nat.le_refl _)
      go_wp2_with (first
        | (with_reducible refine wpList_store_mid rfl 28 (.tmp 11) (.tmp 67) rfl w4.heap.size 0 g1 rfl rfl HTH1.out HSI1.out HON1.out ?_; rw [HW6.out]; clear HW6 HTH1)
        | (with_reducible refine wpList_store_mid rfl 30 (.tmp 2) (.tmp 71) rfl w.heap.size 0 (#[.int .u64 0, .int .i64 0, .int .i64 0, .int .i64 0, .int .i64 0, .int .u64 0, .int .u64 0, .int .u64 0, .int .u64 0, .int .u64 0, .int .u64 0, .int .u64 0, .int .u64 0, .int .u64 0, .int .u64 0, .int .u64 0, .int .u64 0, .int .u64 0, .int .u64 0, .int .u64 0, .int .u64 0, .int .u64 0, .int .u64 0, .slice none 0 0]) rfl rfl HTH.out HSI.out HON.out ?_)
        | (go_at_call 90; refine (small_is n1 _ SM.out _).mono ?_; rintro e z ⟨rfl, hz⟩; rw [hz]; clear hz))
      exact bodyPost_ret (results_ag2 Tryz.results29 _ _ w.heap.size _ _ _ rfl rfl zZ hut rfl HSIL.out) rfl ⟨⟨none, 0, by rw [HE.out.1, HE.out.2]; rfl, by rw [HE.out.2]; exact fun k hk => absurd hk (by simp [StR.zero, u64L]), fun ad h => by cases h⟩, gZ⟩
    | true =>
      have he3 : e3 = 0 := HO3.out
      subst he3
      have HE : Hid (eS = 0 ∧ oS = ⟨cm, n1, n2, ((sw, lf), s, l)⟩) := Lib.hid (by have := HE0.out; simpa [HB3.out] using this)
      clear HE0 HO3
      have HTZ : Hid (w6.there w.heap.size 0 (stC cm n1 n2 sw lf s (.slice A l.length c)).size) := Lib.hid (z6.thereN 24 rfl)
      have HOZ := Lib.hid (stC_one cm n1 n2 sw lf s A l.length c)
      have HSZ : Hid ((Tryz.prog.info? 30).map (·.size) = some (stC cm n1 n2 sw lf s (.slice A l.length c)).size) := Lib.hid rst_info
      have HSZL : Hid ((Tryz.prog.info? 30).map (·.size) = some (stC cm n1 n2 sw lf s (.slice A l.length c)).toList.length) := Lib.hid rst_info
      have z7 := Ag.set (vs := (stC cm n1 n2 sw lf s (.slice A l.length c)).toList) z6 rfl
      have K7 := setCells_kp (stC cm n1 n2 sw lf s (.slice A l.length c)).toList w.heap.size 0 w6
      have G7 := setCells_grew (o := 0) (b := w.heap.size) (stC cm n1 n2 sw lf s (.slice A l.length c)).toList g6 (Nat.le_refl _)
      have R7 : Rd (w6.setCells w.heap.size 0 (stC cm n1 n2 sw lf s (.slice A l.length c)).toList) (w6.setCells w.heap.size 0 (stC cm n1 n2 sw lf s (.slice A l.length c)).toList).heap.size A (u64L l) :=
        (r6.kp K7 (Nat.le_refl _) (fun ad e1 _ (e3 : ad.block = w.heap.size) => by have := HFR.out ad e1; omega)).more K7.size
      obtain ⟨g2, hg2⟩ : ∃ g, stC cm n1 n2 sw lf s (.slice A l.length c) = g := ⟨_, rfl⟩
      have HG2' := Lib.hid hg2
      rw [hg2] at HTZ HOZ HSZ HSZL HBU z7 G7 R7
      clear z6 K7 r6 g6 hg2
      go_wp2_with (first
        | (with_reducible refine wpList_store_mid rfl 28 (.tmp 11) (.tmp 67) rfl w4.heap.size 0 g1 rfl rfl HTH1.out HSI1.out HON1.out ?_; rw [HW6.out]; clear HW6 HTH1)
        | (with_reducible refine wpList_load_mid rfl 28 (.tmp 11) rfl w4.heap.size 0 rfl g1.toList _ hm5 hus rfl HSL1.out ?_; simp only [Array.toArray_toList])
        | (with_reducible refine wpList_build_is rfl 30 #[(0, .tmp 73), (1, .tmp 74), (2, .tmp 75), (3, .tmp 76)] rfl g2 ?_ ?_; · simpa [Act.eval, Act.put] using HBU.out)
        | (with_reducible refine wpList_store_mid rfl 30 (.tmp 2) (.tmp 77) rfl w.heap.size 0 g2 rfl rfl HTZ.out HSZ.out HOZ.out ?_))
      exact bodyPost_ret (results_ag2 Tryz.results29 _ _ w.heap.size _ _ _ rfl rfl z7 hut rfl HSZL.out) rfl ⟨⟨A, c, by rw [HE.out.1, HE.out.2]; show Ending.returned (.tuple #[.agg g2.toList.toArray, .int .i64 0]) = _; rw [Array.toArray_toList, ← HG2'.out]; rfl, by rw [HE.out.2]; exact R7, HFR.out⟩, G7⟩
theorem rstparse_any (tj : ByteArray) (hz : tj.size ≤ 1000000) (w : World)  :
    Calls Tryz.prog 29 #[.string tj] w fun e w' => (∃ A c, e = .returned (.tuple #[.agg ((stO tj.data.toList).v (.slice A (stO tj.data.toList).g.2.2.length c)), .int .i64 (stE tj.data.toList)]) ∧ Rd w' w'.heap.size A (u64L (stO tj.data.toList).g.2.2) ∧ (∀ ad, A = some ad → w.heap.size < ad.block)) ∧ Grew w w' := by
  have hlen : tj.data.toList.length ≤ 1000000 := by rw [ba_len]; exact hz
  by_cases h4 : ∃ x0 x1 x2 x3, splitF tj.data.toList = some [x0, x1, x2, x3]
  · obtain ⟨x0, x1, x2, x3, hsp⟩ := h4
    have g := fun x hx => Nat.le_trans (split_ge hsp x hx) hlen
    exact rstparse_four tj x0 x1 x2 x3 hsp hz (g x0 (by simp)) (g x1 (by simp)) (g x2 (by simp)) (g x3 (by simp)) w 
  · exact rstparse_split tj hz (fun a b c d h => h4 ⟨a, b, c, d, h⟩) w
end Go.Proofs.YtaeopobofmpioaaGreatDoor

namespace Go.Proofs.YtaeopobofmpioaaGreatDoor
set_option linter.unusedSimpArgs false
set_option linter.unusedVariables false
open Go.RowKit
set_option linter.unusedVariables false
set_option linter.unusedSimpArgs false
structure AgT (w : World) (B : Nat) (cm : Nat) (who at_ sw lf : Int) (s : Nat → Nat) (l : List Nat) (v : Value) : Prop where
  out : ∃ A c, v = .agg (stC cm who at_ sw lf s (.slice A l.length c)) ∧ Rd w w.heap.size A (u64L l) ∧ (∀ ad, A = some ad → B ≤ ad.block)
theorem AgT.gr {w w' : World} {B cm : Nat} {who at_ sw lf : Int} {s : Nat → Nat} {l : List Nat} {v : Value} (h : AgT w B cm who at_ sw lf s l v) (g : Grew w w') : AgT w' B cm who at_ sw lf s l v := by
  obtain ⟨A, c, h1, h2, h3⟩ := h.out
  exact ⟨A, c, h1, h2.gr g, h3⟩
set_option maxRecDepth 100000 in
set_option maxHeartbeats 2000000 in
theorem kof_fr (who leaf : Int) (s : Nat → Nat) (A : Option Addr) (c : Nat) (l : List Nat) (hl : l.length ≤ 1048576) (w : World) (hr : Rd w w.heap.size A (u64L l)) :
    Calls Tryz.prog 94 #[.agg (sgC who leaf s (.slice A l.length c))] w fun e w' => ∃ A' c', e = .returned (.agg (sgC who leaf s (.slice A' l.length c'))) ∧ Rd w' w'.heap.size A' (u64L l) ∧ Grew w w' ∧ (∀ ad, A' = some ad → w.heap.size ≤ ad.block) := by
  have z0 := Ag.new w 42 (sgC who leaf s (.slice A l.length c))
  have G0 := grew_alloc (grew_refl w) (.cells (sgC who leaf s (.slice A l.length c)) 42)
  have hwz : w.heap.size < (w.alloc (.cells (sgC who leaf s (.slice A l.length c)) 42)).heap.size := z0.lt
  have HIA : Hid ((Tryz.prog.info? 40).map (·.size) = some (arrU s).toList.length) := Lib.hid (by rw [show (arrU s).toList.length = 18 by simp [arrU]]; kernel_rfl)
  have hua := Tryz.underlying40
  have hur := Tryz.underlying28
  go_enter Tryz.func94, Tryz.ntmps94
  go_wp2_with fail
  have z2 : Ag ((w.alloc (.cells (sgC who leaf s (.slice A l.length c)) 42)).alloc (.cells (#[.int .i64 0, .int .i64 0, .int .u64 0, .int .u64 0, .int .u64 0, .int .u64 0, .int .u64 0, .int .u64 0, .int .u64 0, .int .u64 0, .int .u64 0, .int .u64 0, .int .u64 0, .int .u64 0, .int .u64 0, .int .u64 0, .int .u64 0, .int .u64 0, .int .u64 0, .int .u64 0, .slice none 0 0]) 28)) (w.heap.size + 1) (#[.int .i64 0, .int .i64 0, .int .u64 0, .int .u64 0, .int .u64 0, .int .u64 0, .int .u64 0, .int .u64 0, .int .u64 0, .int .u64 0, .int .u64 0, .int .u64 0, .int .u64 0, .int .u64 0, .int .u64 0, .int .u64 0, .int .u64 0, .int .u64 0, .int .u64 0, .int .u64 0, .slice none 0 0] : Array Value).toList := by
    have := Ag.new (w.alloc (.cells (sgC who leaf s (.slice A l.length c)) 42)) 28 (#[.int .i64 0, .int .i64 0, .int .u64 0, .int .u64 0, .int .u64 0, .int .u64 0, .int .u64 0, .int .u64 0, .int .u64 0, .int .u64 0, .int .u64 0, .int .u64 0, .int .u64 0, .int .u64 0, .int .u64 0, .int .u64 0, .int .u64 0, .int .u64 0, .int .u64 0, .int .u64 0, .slice none 0 0])
    simpa using this
  have z1 := z0.grew (grew_alloc (grew_refl _) (.cells (#[.int .i64 0, .int .i64 0, .int .u64 0, .int .u64 0, .int .u64 0, .int .u64 0, .int .u64 0, .int .u64 0, .int .u64 0, .int .u64 0, .int .u64 0, .int .u64 0, .int .u64 0, .int .u64 0, .int .u64 0, .int .u64 0, .int .u64 0, .int .u64 0, .int .u64 0, .int .u64 0, .slice none 0 0]) 28))
  have G2 := grew_alloc G0 (.cells (#[.int .i64 0, .int .i64 0, .int .u64 0, .int .u64 0, .int .u64 0, .int .u64 0, .int .u64 0, .int .u64 0, .int .u64 0, .int .u64 0, .int .u64 0, .int .u64 0, .int .u64 0, .int .u64 0, .int .u64 0, .int .u64 0, .int .u64 0, .int .u64 0, .int .u64 0, .int .u64 0, .slice none 0 0]) 28)
  clear z0 G0 hwz
  generalize (w.alloc (.cells (sgC who leaf s (.slice A l.length c)) 42)).alloc (.cells (#[.int .i64 0, .int .i64 0, .int .u64 0, .int .u64 0, .int .u64 0, .int .u64 0, .int .u64 0, .int .u64 0, .int .u64 0, .int .u64 0, .int .u64 0, .int .u64 0, .int .u64 0, .int .u64 0, .int .u64 0, .int .u64 0, .int .u64 0, .int .u64 0, .int .u64 0, .int .u64 0, .slice none 0 0]) 28) = w2 at *
  have HC0 : Hid (∀ y, Grew w2 y → y.cell? ⟨w.heap.size, 0, none⟩ = some (.int .i64 who)) := Lib.hid (fun y g => by simpa using (z1.grew g).cell 0 _ rfl)
  have HC1 : Hid (∀ y, Grew w2 y → y.cell? ⟨w.heap.size, 1, none⟩ = some (.int .i64 leaf)) := Lib.hid (fun y g => by simpa using (z1.grew g).cell 1 _ rfl)
  have HC20 : Hid (∀ y, Grew w2 y → y.cell? ⟨w.heap.size, 20, none⟩ = some (.slice A l.length c)) := Lib.hid (fun y g => by simpa using (z1.grew g).cell 20 _ rfl)
  have HCM : Hid (∀ y, Grew w2 y → y.rangeAt w.heap.size 2 (arrU s).toList) := Lib.hid (fun y g => sg_mid (z1.grew g))
  have r2 := hr.gr G2
  have HRY := Lib.hid (fun y (g : Grew w2 y) => r2.gr g)
  clear z1 hr r2
  refine wp_region_rel 11 (fun i => match i with
      | 0 => fun v _ => v = .pointer (some ⟨w.heap.size, 0, none⟩)
      | 1 => fun v _ => v = .int .i64 who
      | 2 => fun v _ => v = .pointer (some ⟨w.heap.size, 1, none⟩)
      | 3 => fun v _ => v = .int .i64 leaf
      | 4 => fun v _ => v = .pointer (some ⟨w.heap.size, 2, none⟩)
      | 5 => fun v _ => v = .agg (arrU s)
      | 6 => fun v _ => v = .agg (arrU s)
      | 7 => fun v _ => v = .pointer (some ⟨w.heap.size, 20, none⟩)
      | 8 => fun v _ => v = .slice A l.length c
      | 9 => fun v w => PV w w2.heap.size l v
      | 10 => fun v w => AgS w w2.heap.size who leaf s l v
      | _ => fun _ _ => True) (by kernel_rfl) (by kernel_rfl) ?_ ?_ ?_
  · intro i v x y h hg
    match i, h with
    | 0, h | 1, h | 2, h | 3, h | 4, h | 5, h | 6, h | 7, h | 8, h => exact h
    | 9, h => exact PV.gr h hg
    | 10, h => exact AgS.gr h hg
    | m + 11, _ => trivial
  · refine ⟨?_, ?_, ?_, ?_, ?_, ?_, ?_, ?_, ?_, ?_, ?_, trivial⟩
    · intro vs y hg hd
      simp only [actOf, List.take_succ_cons, List.take_zero, List.drop_succ_cons, List.drop_zero, Act.put, List.setIfInBounds_toArray, List.set_cons_succ, List.set_cons_zero, Nat.reduceAdd]
      go_wp2_with fail
      exact ⟨rfl, _, rfl, grew_refl _, rfl⟩
    · intro vs y hg hd
      obtain ⟨h0, _⟩ := hd
      replace h0 := h0 rfl
      simp only [actOf, List.take_succ_cons, List.take_zero, List.drop_succ_cons, List.drop_zero, Act.put, List.setIfInBounds_toArray, List.set_cons_succ, List.set_cons_zero, Nat.reduceAdd]
      rw [show vs 0 = _ from h0]
      have hc := HC0.out y hg
      go_wp2_with fail
      exact ⟨rfl, _, rfl, grew_refl _, rfl⟩
    · intro vs y hg hd
      simp only [actOf, List.take_succ_cons, List.take_zero, List.drop_succ_cons, List.drop_zero, Act.put, List.setIfInBounds_toArray, List.set_cons_succ, List.set_cons_zero, Nat.reduceAdd]
      go_wp2_with fail
      exact ⟨rfl, _, rfl, grew_refl _, rfl⟩
    · intro vs y hg hd
      obtain ⟨h2, _⟩ := hd
      replace h2 := h2 rfl
      simp only [actOf, List.take_succ_cons, List.take_zero, List.drop_succ_cons, List.drop_zero, Act.put, List.setIfInBounds_toArray, List.set_cons_succ, List.set_cons_zero, Nat.reduceAdd]
      rw [show vs 2 = _ from h2]
      have hc := HC1.out y hg
      go_wp2_with fail
      exact ⟨rfl, _, rfl, grew_refl _, rfl⟩
    · intro vs y hg hd
      simp only [actOf, List.take_succ_cons, List.take_zero, List.drop_succ_cons, List.drop_zero, Act.put, List.setIfInBounds_toArray, List.set_cons_succ, List.set_cons_zero, Nat.reduceAdd]
      go_wp2_with fail
      exact ⟨rfl, _, rfl, grew_refl _, rfl⟩
    · intro vs y hg hd
      obtain ⟨h4, _⟩ := hd
      replace h4 := h4 rfl
      simp only [actOf, List.take_succ_cons, List.take_zero, List.drop_succ_cons, List.drop_zero, Act.put, List.setIfInBounds_toArray, List.set_cons_succ, List.set_cons_zero, Nat.reduceAdd]
      rw [show vs 4 = _ from h4]
      have hm := HCM.out y hg
      go_wp2_with (with_reducible refine wpList_load_mid rfl 40 (.tmp 7) rfl w.heap.size 2 rfl (arrU s).toList _ hm hua rfl HIA.out ?_)
      exact ⟨rfl, _, rfl, grew_refl _, rfl⟩
    · intro vs y hg hd
      obtain ⟨h5, _⟩ := hd
      replace h5 := h5 rfl
      simp only [actOf, List.take_succ_cons, List.take_zero, List.drop_succ_cons, List.drop_zero, Act.put, List.setIfInBounds_toArray, List.set_cons_succ, List.set_cons_zero, Nat.reduceAdd]
      rw [show vs 5 = _ from h5]
      go_wp2_with (go_at_call 145; refine (of_row s y).mono ?_; rintro e z ⟨rfl, gz⟩)
      exact ⟨rfl, _, rfl, gz, rfl⟩
    · intro vs y hg hd
      simp only [actOf, List.take_succ_cons, List.take_zero, List.drop_succ_cons, List.drop_zero, Act.put, List.setIfInBounds_toArray, List.set_cons_succ, List.set_cons_zero, Nat.reduceAdd]
      go_wp2_with fail
      exact ⟨rfl, _, rfl, grew_refl _, rfl⟩
    · intro vs y hg hd
      obtain ⟨h7, _⟩ := hd
      replace h7 := h7 rfl
      simp only [actOf, List.take_succ_cons, List.take_zero, List.drop_succ_cons, List.drop_zero, Act.put, List.setIfInBounds_toArray, List.set_cons_succ, List.set_cons_zero, Nat.reduceAdd]
      rw [show vs 7 = _ from h7]
      have hc := HC20.out y hg
      go_wp2_with fail
      exact ⟨rfl, _, rfl, grew_refl _, rfl⟩
    · intro vs y hg hd
      obtain ⟨h8, _⟩ := hd
      replace h8 := h8 rfl
      simp only [actOf, List.take_succ_cons, List.take_zero, List.drop_succ_cons, List.drop_zero, Act.put, List.setIfInBounds_toArray, List.set_cons_succ, List.set_cons_zero, Nat.reduceAdd]
      rw [show vs 8 = _ from h8]
      go_wp2_with (go_at_call 100; refine (mkof_any A c y.heap.size l hl y (HRY.out y hg) (Nat.le_refl _)).mono ?_; rintro e z ⟨A2, c2, rfl, hr9, hb9, gz⟩)
      exact ⟨rfl, _, rfl, gz, ⟨A2, c2, rfl, hr9, fun ad h => Nat.le_trans hg.size (hb9 ad h)⟩⟩
    · intro vs y hg hd
      obtain ⟨h1, h3, h6, h9, _⟩ := hd
      replace h1 := h1 rfl
      replace h3 := h3 rfl
      replace h6 := h6 rfl
      replace h9 := h9 rfl
      simp only [actOf, List.take_succ_cons, List.take_zero, List.drop_succ_cons, List.drop_zero, Act.put, List.setIfInBounds_toArray, List.set_cons_succ, List.set_cons_zero, Nat.reduceAdd]
      rw [show vs 1 = _ from h1, show vs 3 = _ from h3, show vs 6 = _ from h6]
      obtain ⟨A2, c2, hv, hr9, hb9⟩ := PV.out h9
      rw [hv]
      have hbu := rg_built who leaf s A2 l.length c2
      generalize arrU s = aa at *
      refine wpList_build_is rfl 28 #[(0, .tmp 4), (1, .tmp 6), (2, .tmp 9), (3, .tmp 12)] rfl _ (by simpa [Act.eval] using hbu) ?_
      go_wp2_with fail
      exact ⟨rfl, _, rfl, grew_refl _, ⟨A2, c2, rfl, hr9, hb9⟩⟩
  · intro vs y hg hJ
    have j0 : vs 0 = .pointer (some ⟨w.heap.size, 0, none⟩) := hJ 0 (by decide)
    have j1 : vs 1 = .int .i64 who := hJ 1 (by decide)
    have j2 : vs 2 = .pointer (some ⟨w.heap.size, 1, none⟩) := hJ 2 (by decide)
    have j3 : vs 3 = .int .i64 leaf := hJ 3 (by decide)
    have j4 : vs 4 = .pointer (some ⟨w.heap.size, 2, none⟩) := hJ 4 (by decide)
    have j5 : vs 5 = .agg (arrU s) := hJ 5 (by decide)
    have j6 : vs 6 = .agg (arrU s) := hJ 6 (by decide)
    have j7 : vs 7 = .pointer (some ⟨w.heap.size, 20, none⟩) := hJ 7 (by decide)
    have j8 : vs 8 = .slice A l.length c := hJ 8 (by decide)
    simp only [actOf, List.take_succ_cons, List.take_zero, List.drop_succ_cons, List.drop_zero, Act.put, List.setIfInBounds_toArray, List.set_cons_succ, List.set_cons_zero, Nat.reduceAdd]
    obtain ⟨A2, c2, j10, r3, hb3⟩ := AgS.out (show AgS y w2.heap.size who leaf s l (vs 10) from hJ 10 (by decide))
    rw [j10]
    clear hJ j0 j1 j2 j3 j4 j5 j6 j7 j8 j10
    have h2 := z2.lt
    have HLO : Hid (∀ ad, A2 = some ad → w.heap.size ≤ ad.block) := Lib.hid (fun ad h => by have := hb3 ad h; have := G2.size; omega)
    have HNE : Hid (∀ ad, A2 = some ad → ad.block ≠ w.heap.size + 1) := Lib.hid (fun ad h => by have := hb3 ad h; omega)
    have z3 := z2.grew hg
    have G3 := grew_trans G2 hg
    clear z2 G2 hg hb3 h2
    have HTH : Hid (y.there (w.heap.size + 1) 0 (sgC who leaf s (.slice A2 l.length c2)).size) := Lib.hid (z3.thereN 21 rfl)
    have HSI : Hid ((Tryz.prog.info? 28).map (·.size) = some (sgC who leaf s (.slice A2 l.length c2)).size) := Lib.hid rg_info
    have HON := Lib.hid (sgC_one who leaf s A2 l.length c2)
    have K3 := setCells_kp (sgC who leaf s (.slice A2 l.length c2)).toList (w.heap.size + 1) 0 y
    have r4 := (r3.kp K3 (Nat.le_refl _) (fun ad h1 h2 h3 => HNE.out ad h1 h3)).more K3.size
    have z4 := Ag.set (vs := (sgC who leaf s (.slice A2 l.length c2)).toList) z3 rfl
    have G4 := setCells_grew (o := 0) (b := w.heap.size + 1) (sgC who leaf s (.slice A2 l.length c2)).toList G3 (by omega)
    go_wp2_with (with_reducible refine wpList_store_mid rfl 28 (.tmp 2) (.tmp 13) rfl (w.heap.size + 1) 0 (sgC who leaf s (.slice A2 l.length c2)) rfl rfl HTH.out HSI.out HON.out ?_)
    exact bodyPost_ret (results_ag1 Tryz.results94 _ _ (w.heap.size + 1) _ _ rfl z4 hur rfl rg_info) rfl ⟨A2, ⟨c2, rfl⟩, r4, G4, HLO.out⟩
set_option maxRecDepth 100000 in
set_option maxHeartbeats 2000000 in
theorem stof_ok (cm : Nat) (who at_ sw lf : Int) (s : Nat → Nat) (A : Option Addr) (c : Nat) (l : List Nat) (hl : l.length ≤ 1048576) (w : World) (hr : Rd w w.heap.size A (u64L l)) :
    Calls Tryz.prog 31 #[.agg (stC cm who at_ sw lf s (.slice A l.length c))] w fun e w' => ∃ A' c', e = .returned (.agg (stC cm who at_ sw lf s (.slice A' l.length c'))) ∧ Rd w' w'.heap.size A' (u64L l) ∧ Grew w w' ∧ (∀ ad, A' = some ad → w.heap.size ≤ ad.block) := by
  have z0 := Ag.new w 44 (stC cm who at_ sw lf s (.slice A l.length c))
  have G0 := grew_alloc (grew_refl w) (.cells (stC cm who at_ sw lf s (.slice A l.length c)) 44)
  have hus := Tryz.underlying42
  have hur := Tryz.underlying30
  have CO := Lib.hid (fun W hR => kof_fr sw lf s A c l hl W hR)
  have HSL : Hid ((Tryz.prog.info? 42).map (·.size) = some (sgC sw lf s (.slice A l.length c)).toList.length) := Lib.hid sg_info
  go_enter Tryz.func31, Tryz.ntmps31
  go_wp2_with fail
  have z2 : Ag ((w.alloc (.cells (stC cm who at_ sw lf s (.slice A l.length c)) 44)).alloc (.cells (#[.int .u64 0, .int .i64 0, .int .i64 0, .int .i64 0, .int .i64 0, .int .u64 0, .int .u64 0, .int .u64 0, .int .u64 0, .int .u64 0, .int .u64 0, .int .u64 0, .int .u64 0, .int .u64 0, .int .u64 0, .int .u64 0, .int .u64 0, .int .u64 0, .int .u64 0, .int .u64 0, .int .u64 0, .int .u64 0, .int .u64 0, .slice none 0 0]) 30)) (w.heap.size + 1) (#[.int .u64 0, .int .i64 0, .int .i64 0, .int .i64 0, .int .i64 0, .int .u64 0, .int .u64 0, .int .u64 0, .int .u64 0, .int .u64 0, .int .u64 0, .int .u64 0, .int .u64 0, .int .u64 0, .int .u64 0, .int .u64 0, .int .u64 0, .int .u64 0, .int .u64 0, .int .u64 0, .int .u64 0, .int .u64 0, .int .u64 0, .slice none 0 0] : Array Value).toList := by
    have := Ag.new (w.alloc (.cells (stC cm who at_ sw lf s (.slice A l.length c)) 44)) 30 (#[.int .u64 0, .int .i64 0, .int .i64 0, .int .i64 0, .int .i64 0, .int .u64 0, .int .u64 0, .int .u64 0, .int .u64 0, .int .u64 0, .int .u64 0, .int .u64 0, .int .u64 0, .int .u64 0, .int .u64 0, .int .u64 0, .int .u64 0, .int .u64 0, .int .u64 0, .int .u64 0, .int .u64 0, .int .u64 0, .int .u64 0, .slice none 0 0])
    simpa using this
  have z1 := z0.grew (grew_alloc (grew_refl _) (.cells (#[.int .u64 0, .int .i64 0, .int .i64 0, .int .i64 0, .int .i64 0, .int .u64 0, .int .u64 0, .int .u64 0, .int .u64 0, .int .u64 0, .int .u64 0, .int .u64 0, .int .u64 0, .int .u64 0, .int .u64 0, .int .u64 0, .int .u64 0, .int .u64 0, .int .u64 0, .int .u64 0, .int .u64 0, .int .u64 0, .int .u64 0, .slice none 0 0]) 30))
  have G2 := grew_alloc G0 (.cells (#[.int .u64 0, .int .i64 0, .int .i64 0, .int .i64 0, .int .i64 0, .int .u64 0, .int .u64 0, .int .u64 0, .int .u64 0, .int .u64 0, .int .u64 0, .int .u64 0, .int .u64 0, .int .u64 0, .int .u64 0, .int .u64 0, .int .u64 0, .int .u64 0, .int .u64 0, .int .u64 0, .int .u64 0, .int .u64 0, .int .u64 0, .slice none 0 0]) 30)
  clear z0 G0
  generalize (w.alloc (.cells (stC cm who at_ sw lf s (.slice A l.length c)) 44)).alloc (.cells (#[.int .u64 0, .int .i64 0, .int .i64 0, .int .i64 0, .int .i64 0, .int .u64 0, .int .u64 0, .int .u64 0, .int .u64 0, .int .u64 0, .int .u64 0, .int .u64 0, .int .u64 0, .int .u64 0, .int .u64 0, .int .u64 0, .int .u64 0, .int .u64 0, .int .u64 0, .int .u64 0, .int .u64 0, .int .u64 0, .int .u64 0, .slice none 0 0]) 30) = w2 at *
  have HC0 : Hid (∀ y, Grew w2 y → y.cell? ⟨w.heap.size, 0, none⟩ = some (.int .u64 (cm : Nat))) := Lib.hid (fun y g => by simpa using (z1.grew g).cell 0 _ rfl)
  have HC1 : Hid (∀ y, Grew w2 y → y.cell? ⟨w.heap.size, 1, none⟩ = some (.int .i64 who)) := Lib.hid (fun y g => by simpa using (z1.grew g).cell 1 _ rfl)
  have HC2 : Hid (∀ y, Grew w2 y → y.cell? ⟨w.heap.size, 2, none⟩ = some (.int .i64 at_)) := Lib.hid (fun y g => by simpa using (z1.grew g).cell 2 _ rfl)
  have HCM : Hid (∀ y, Grew w2 y → y.rangeAt w.heap.size 3 (sgC sw lf s (.slice A l.length c)).toList) := Lib.hid (fun y g => st_sig (z1.grew g).cell)
  have r2 := hr.gr G2
  have HRY := Lib.hid (fun y (g : Grew w2 y) => r2.gr g)
  clear z1 hr r2
  generalize sgC sw lf s (.slice A l.length c) = gs at *
  refine wp_region_rel 10 (fun i => match i with
      | 0 => fun v _ => v = .pointer (some ⟨w.heap.size, 0, none⟩)
      | 1 => fun v _ => v = .int .u64 (cm : Nat)
      | 2 => fun v _ => v = .pointer (some ⟨w.heap.size, 1, none⟩)
      | 3 => fun v _ => v = .int .i64 who
      | 4 => fun v _ => v = .pointer (some ⟨w.heap.size, 2, none⟩)
      | 5 => fun v _ => v = .int .i64 at_
      | 6 => fun v _ => v = .pointer (some ⟨w.heap.size, 3, none⟩)
      | 7 => fun v _ => v = .agg gs
      | 8 => fun v w => AgS w w2.heap.size sw lf s l v
      | 9 => fun v w => AgT w w2.heap.size cm who at_ sw lf s l v
      | _ => fun _ _ => True) (by kernel_rfl) (by kernel_rfl) ?_ ?_ ?_
  · intro i v x y h hg
    match i, h with
    | 0, h | 1, h | 2, h | 3, h | 4, h | 5, h | 6, h | 7, h => exact h
    | 8, h => exact AgS.gr h hg
    | 9, h => exact AgT.gr h hg
    | m + 10, _ => trivial
  · refine ⟨?_, ?_, ?_, ?_, ?_, ?_, ?_, ?_, ?_, ?_, trivial⟩
    · intro vs y hg hd
      simp only [actOf, List.take_succ_cons, List.take_zero, List.drop_succ_cons, List.drop_zero, Act.put, List.setIfInBounds_toArray, List.set_cons_succ, List.set_cons_zero, Nat.reduceAdd]
      go_wp2_with fail
      exact ⟨rfl, _, rfl, grew_refl _, rfl⟩
    · intro vs y hg hd
      obtain ⟨h0, _⟩ := hd
      replace h0 := h0 rfl
      simp only [actOf, List.take_succ_cons, List.take_zero, List.drop_succ_cons, List.drop_zero, Act.put, List.setIfInBounds_toArray, List.set_cons_succ, List.set_cons_zero, Nat.reduceAdd]
      rw [show vs 0 = _ from h0]
      have hc := HC0.out y hg
      go_wp2_with fail
      exact ⟨rfl, _, rfl, grew_refl _, rfl⟩
    · intro vs y hg hd
      simp only [actOf, List.take_succ_cons, List.take_zero, List.drop_succ_cons, List.drop_zero, Act.put, List.setIfInBounds_toArray, List.set_cons_succ, List.set_cons_zero, Nat.reduceAdd]
      go_wp2_with fail
      exact ⟨rfl, _, rfl, grew_refl _, rfl⟩
    · intro vs y hg hd
      obtain ⟨h2, _⟩ := hd
      replace h2 := h2 rfl
      simp only [actOf, List.take_succ_cons, List.take_zero, List.drop_succ_cons, List.drop_zero, Act.put, List.setIfInBounds_toArray, List.set_cons_succ, List.set_cons_zero, Nat.reduceAdd]
      rw [show vs 2 = _ from h2]
      have hc := HC1.out y hg
      go_wp2_with fail
      exact ⟨rfl, _, rfl, grew_refl _, rfl⟩
    · intro vs y hg hd
      simp only [actOf, List.take_succ_cons, List.take_zero, List.drop_succ_cons, List.drop_zero, Act.put, List.setIfInBounds_toArray, List.set_cons_succ, List.set_cons_zero, Nat.reduceAdd]
      go_wp2_with fail
      exact ⟨rfl, _, rfl, grew_refl _, rfl⟩
    · intro vs y hg hd
      obtain ⟨h4, _⟩ := hd
      replace h4 := h4 rfl
      simp only [actOf, List.take_succ_cons, List.take_zero, List.drop_succ_cons, List.drop_zero, Act.put, List.setIfInBounds_toArray, List.set_cons_succ, List.set_cons_zero, Nat.reduceAdd]
      rw [show vs 4 = _ from h4]
      have hc := HC2.out y hg
      go_wp2_with fail
      exact ⟨rfl, _, rfl, grew_refl _, rfl⟩
    · intro vs y hg hd
      simp only [actOf, List.take_succ_cons, List.take_zero, List.drop_succ_cons, List.drop_zero, Act.put, List.setIfInBounds_toArray, List.set_cons_succ, List.set_cons_zero, Nat.reduceAdd]
      go_wp2_with fail
      exact ⟨rfl, _, rfl, grew_refl _, rfl⟩
    · intro vs y hg hd
      obtain ⟨h6, _⟩ := hd
      replace h6 := h6 rfl
      simp only [actOf, List.take_succ_cons, List.take_zero, List.drop_succ_cons, List.drop_zero, Act.put, List.setIfInBounds_toArray, List.set_cons_succ, List.set_cons_zero, Nat.reduceAdd]
      rw [show vs 6 = _ from h6]
      have hm := HCM.out y hg
      go_wp2_with (with_reducible refine wpList_load_mid rfl 42 (.tmp 9) rfl w.heap.size 3 rfl gs.toList _ hm hus rfl HSL.out ?_; simp only [Array.toArray_toList])
      exact ⟨rfl, _, rfl, grew_refl _, rfl⟩
    · intro vs y hg hd
      obtain ⟨h7, _⟩ := hd
      replace h7 := h7 rfl
      simp only [actOf, List.take_succ_cons, List.take_zero, List.drop_succ_cons, List.drop_zero, Act.put, List.setIfInBounds_toArray, List.set_cons_succ, List.set_cons_zero, Nat.reduceAdd]
      rw [show vs 7 = _ from h7]
      go_wp2_with (go_at_call 94; refine (CO.out y (HRY.out y hg)).mono ?_; rintro e z ⟨A2, c2, rfl, hr2, gz, hb2⟩)
      exact ⟨rfl, _, rfl, gz, ⟨A2, c2, rfl, hr2, fun ad h => by have := hb2 ad h; have := hg.size; omega⟩⟩
    · intro vs y hg hd
      obtain ⟨h1, h3, h5, h8, _⟩ := hd
      replace h1 := h1 rfl
      replace h3 := h3 rfl
      replace h5 := h5 rfl
      replace h8 := h8 rfl
      simp only [actOf, List.take_succ_cons, List.take_zero, List.drop_succ_cons, List.drop_zero, Act.put, List.setIfInBounds_toArray, List.set_cons_succ, List.set_cons_zero, Nat.reduceAdd]
      rw [show vs 1 = _ from h1, show vs 3 = _ from h3, show vs 5 = _ from h5]
      obtain ⟨A2, c2, hv, hr2, hb2⟩ := AgS.out h8
      rw [hv]
      have HBU := Lib.hid (rst_built cm who at_ sw lf s A2 l.length c2)
      go_wp2_with (with_reducible refine wpList_build_is rfl 30 #[(0, .tmp 4), (1, .tmp 6), (2, .tmp 8), (3, .tmp 11)] rfl (stC cm who at_ sw lf s (.slice A2 l.length c2)) ?_ ?_; · simpa [Act.eval, Act.put] using HBU.out)
      exact ⟨rfl, _, rfl, grew_refl _, ⟨A2, c2, rfl, hr2, hb2⟩⟩
  · intro vs y hg hJ
    have j0 : vs 0 = .pointer (some ⟨w.heap.size, 0, none⟩) := hJ 0 (by decide)
    have j1 : vs 1 = .int .u64 (cm : Nat) := hJ 1 (by decide)
    have j2 : vs 2 = .pointer (some ⟨w.heap.size, 1, none⟩) := hJ 2 (by decide)
    have j3 : vs 3 = .int .i64 who := hJ 3 (by decide)
    have j4 : vs 4 = .pointer (some ⟨w.heap.size, 2, none⟩) := hJ 4 (by decide)
    have j5 : vs 5 = .int .i64 at_ := hJ 5 (by decide)
    have j6 : vs 6 = .pointer (some ⟨w.heap.size, 3, none⟩) := hJ 6 (by decide)
    have j7 : vs 7 = .agg gs := hJ 7 (by decide)
    have s11 := hJ 8 (by decide)
    have s12 := hJ 9 (by decide)
    clear hJ
    simp only [actOf, List.take_succ_cons, List.take_zero, List.drop_succ_cons, List.drop_zero, Act.put, List.setIfInBounds_toArray, List.set_cons_succ, List.set_cons_zero, Nat.reduceAdd]
    obtain ⟨A2, c2, j9, r3, hb3⟩ := AgT.out s12
    rw [j9]
    clear s11 s12 j9
    have hz1 := z2.lt
    have hz2 := G2.size
    have HNE : Hid (∀ ad, A2 = some ad → ad.block ≠ w.heap.size + 1) := Lib.hid (fun ad h => by have := hb3 ad h; omega)
    have HLO : Hid (∀ ad, A2 = some ad → w.heap.size ≤ ad.block) := Lib.hid (fun ad h => by have := hb3 ad h; omega)
    have z3 := z2.grew hg
    have G3 := grew_trans G2 hg
    clear z2 G2 hg hb3 hz1 hz2
    have HTH : Hid (y.there (w.heap.size + 1) 0 (stC cm who at_ sw lf s (.slice A2 l.length c2)).size) := Lib.hid (z3.thereN 24 rfl)
    have HSI : Hid ((Tryz.prog.info? 30).map (·.size) = some (stC cm who at_ sw lf s (.slice A2 l.length c2)).size) := Lib.hid rst_info
    have HON := Lib.hid (stC_one cm who at_ sw lf s A2 l.length c2)
    have K3 := setCells_kp (stC cm who at_ sw lf s (.slice A2 l.length c2)).toList (w.heap.size + 1) 0 y
    have r4 := (r3.kp K3 (Nat.le_refl _) (fun ad h1 h2 h3 => HNE.out ad h1 h3)).more K3.size
    have z4 := Ag.set (vs := (stC cm who at_ sw lf s (.slice A2 l.length c2)).toList) z3 rfl
    have G4 := setCells_grew (o := 0) (b := w.heap.size + 1) (stC cm who at_ sw lf s (.slice A2 l.length c2)).toList G3 (by omega)
    go_wp2_with (with_reducible refine wpList_store_mid rfl 30 (.tmp 2) (.tmp 12) rfl (w.heap.size + 1) 0 (stC cm who at_ sw lf s (.slice A2 l.length c2)) rfl rfl HTH.out HSI.out HON.out ?_)
    exact bodyPost_ret (results_ag1 Tryz.results31 _ _ (w.heap.size + 1) _ _ rfl z4 hur rfl rst_info) rfl ⟨A2, ⟨c2, rfl⟩, r4, G4, HLO.out⟩
end Go.Proofs.YtaeopobofmpioaaGreatDoor

namespace Go.Proofs.YtaeopobofmpioaaGreatDoor
set_option linter.unusedSimpArgs false
set_option linter.unusedVariables false
open Go.RowKit
set_option linter.unusedVariables false
set_option linter.unusedSimpArgs false
set_option maxRecDepth 100000 in
set_option maxHeartbeats 1000000 in
theorem rstsame_ok (cm : Nat) (who at_ sw lf : Int) (s : Nat → Nat) (A A' : Option Addr) (c c' : Nat) (l : List Nat) (hl : l.length ≤ 1048576) (w : World) (hr : Rd w w.heap.size A (u64L l)) (hr' : Rd w w.heap.size A' (u64L l)) :
    Calls Tryz.prog 30 #[.agg (stC cm who at_ sw lf s (.slice A l.length c)), .agg (stC cm who at_ sw lf s (.slice A' l.length c'))] w fun e w' => e = .returned (.bool true) ∧ Grew w w' := by
  have z1 := (Ag.new w 30 (stC cm who at_ sw lf s (.slice A l.length c))).grew (grew_alloc (grew_refl _) (.cells (stC cm who at_ sw lf s (.slice A' l.length c')) 30))
  have z2 := Ag.new (w.alloc (.cells (stC cm who at_ sw lf s (.slice A l.length c)) 30)) 30 (stC cm who at_ sw lf s (.slice A' l.length c'))
  rw [alloc_size] at z2
  have G0 := grew_alloc (grew_alloc (grew_refl w) (.cells (stC cm who at_ sw lf s (.slice A l.length c)) 30)) (.cells (stC cm who at_ sw lf s (.slice A' l.length c')) 30)
  have r1 := hr.gr G0
  have r2 := hr'.gr G0
  have hus := Tryz.underlying28
  have HL1 : Hid ((Tryz.prog.info? 28).map (·.size) = some (sgC sw lf s (.slice A l.length c)).toList.length) := Lib.hid rg_info
  have HL2 : Hid ((Tryz.prog.info? 28).map (·.size) = some (sgC sw lf s (.slice A' l.length c')).toList.length) := Lib.hid rg_info
  have m1 := Lib.hid (st_sig z1.cell)
  have m2 := Lib.hid (st_sig z2.cell)
  have x0 : ((w.alloc (.cells (stC cm who at_ sw lf s (.slice A l.length c)) 30)).alloc (.cells (stC cm who at_ sw lf s (.slice A' l.length c')) 30)).cell? ⟨w.heap.size, 0, none⟩ = some (.int .u64 (cm : Nat)) := by simpa using z1.cell 0 _ rfl
  have x1 : ((w.alloc (.cells (stC cm who at_ sw lf s (.slice A l.length c)) 30)).alloc (.cells (stC cm who at_ sw lf s (.slice A' l.length c')) 30)).cell? ⟨w.heap.size, 1, none⟩ = some (.int .i64 who) := by simpa using z1.cell 1 _ rfl
  have x2 : ((w.alloc (.cells (stC cm who at_ sw lf s (.slice A l.length c)) 30)).alloc (.cells (stC cm who at_ sw lf s (.slice A' l.length c')) 30)).cell? ⟨w.heap.size, 2, none⟩ = some (.int .i64 at_) := by simpa using z1.cell 2 _ rfl
  have y0 : ((w.alloc (.cells (stC cm who at_ sw lf s (.slice A l.length c)) 30)).alloc (.cells (stC cm who at_ sw lf s (.slice A' l.length c')) 30)).cell? ⟨w.heap.size + 1, 0, none⟩ = some (.int .u64 (cm : Nat)) := by simpa using z2.cell 0 _ rfl
  have y1 : ((w.alloc (.cells (stC cm who at_ sw lf s (.slice A l.length c)) 30)).alloc (.cells (stC cm who at_ sw lf s (.slice A' l.length c')) 30)).cell? ⟨w.heap.size + 1, 1, none⟩ = some (.int .i64 who) := by simpa using z2.cell 1 _ rfl
  have y2 : ((w.alloc (.cells (stC cm who at_ sw lf s (.slice A l.length c)) 30)).alloc (.cells (stC cm who at_ sw lf s (.slice A' l.length c')) 30)).cell? ⟨w.heap.size + 1, 2, none⟩ = some (.int .i64 at_) := by simpa using z2.cell 2 _ rfl
  have CS := Lib.hid (rsame_ok sw lf s A A' c c' l hl _ r1 r2)
  have e0 : ((cm : Int) == (cm : Int)) = true := by simp
  have e1 : (who == who) = true := by simp
  have e2 : (at_ == at_) = true := by simp
  have GG := Lib.hid G0
  clear z1 z2 r1 r2 G0 hr hr'
  go_enter Tryz.func30, Tryz.ntmps30
  obtain ⟨v, hv⟩ : ∃ v, (w.alloc (.cells (stC cm who at_ sw lf s (.slice A l.length c)) 30)).alloc (.cells (stC cm who at_ sw lf s (.slice A' l.length c')) 30) = v := ⟨_, rfl⟩
  rw [hv] at CS GG x0 x1 x2 y0 y1 y2 m1 m2
  go_wp2_with (first
    | (refine wpList_load_mid_want (by rfl) 28 (.tmp 25) rfl w.heap.size 3 rfl (sgC sw lf s (.slice A l.length c)).toList _ m1.out hus rfl HL1.out ?_; simp only [Array.toArray_toList])
    | (refine wpList_load_mid_want (by rfl) 28 (.tmp 27) rfl (w.heap.size + 1) 3 rfl (sgC sw lf s (.slice A' l.length c')).toList _ m2.out hus rfl HL2.out ?_; simp only [Array.toArray_toList]))
  refine (CS.out).mono ?_
  rintro e w1 ⟨rfl, gg⟩
  go_wp2_with fail
  go_ret
  exact ⟨rfl, grew_trans GG.out gg⟩
end Go.Proofs.YtaeopobofmpioaaGreatDoor

namespace Go.Proofs.YtaeopobofmpioaaGreatDoor
set_option linter.unusedSimpArgs false
set_option linter.unusedVariables false
open Go.RowKit
set_option linter.unusedVariables false
set_option linter.unusedSimpArgs false
theorem st4_parts {x0 x1 x2 x3 : List UInt8} (h : st4 x0 x1 x2 x3 = true) : (pnum x1).2 = 0 ∧ (pnum x2).2 = 0 ∧ (-2147483648 ≤ (pnum x1).1 ∧ (pnum x1).1 ≤ 2147483647) ∧ (parseO x0).isSome = true ∧ (sigP x3).isSome = true := by
  unfold st4 smallB at h
  simp only [Bool.and_eq_true, decide_eq_true_eq] at h
  exact ⟨h.1.1.1.1, h.1.1.1.2, h.1.1.2, h.1.2, h.2⟩
structure StIn (r : StR) : Prop where
  cm : r.cm < 18446744073709551616
  who : in64 r.who
  at_ : in64 r.at_
  sw : in64 r.g.1.1
  lf : in64 r.g.1.2
  s : ∀ k, k < 18 → r.g.2.1 k < 18446744073709551616
  l : ∀ n ∈ r.g.2.2, n < 18446744073709551616
  len : r.g.2.2.length ≤ 8
theorem stF_in {x0 x1 x2 x3 : List UInt8} (h : st4 x0 x1 x2 x3 = true) : StIn (stF x0 x1 x2 x3) := by
  obtain ⟨h1, h2, h3, h4, h5⟩ := st4_parts h
  obtain ⟨d, hd⟩ := Option.isSome_iff_exists.1 h4
  have hb := (parseO_back hd).2
  have a1 := pnum_zero h1
  have a2 := pnum_zero h2
  have g := sgO_in x3
  exact ⟨by show (parseO x0).getD 0 < _; rw [hd]; exact hb, ⟨a1.2.2.1, a1.2.2.2⟩, ⟨a2.2.2.1, a2.2.2.2⟩, g.1, g.2.1, g.2.2.1, g.2.2.2.1, g.2.2.2.2⟩
theorem zero_in : StIn .zero := ⟨by decide, ⟨by decide, by decide⟩, ⟨by decide, by decide⟩, ⟨by decide, by decide⟩, ⟨by decide, by decide⟩, (fun k _ => by show 0 < _; decide), (fun n h => by cases h), by decide⟩
theorem stO_in (S : List UInt8) : StIn (stO S) := by
  unfold stO
  split
  · split
    · rename_i h; exact stF_in h
    · exact zero_in
  · exact zero_in
def StR.t (r : StR) : List UInt8 := stT r.cm r.who r.at_ r.g.1.1 r.g.1.2 r.g.2.1 r.g.2.2
theorem stO_back {S : List UInt8} (h : stE S = 0) : (stO S).t = S := by
  cases hs : splitF S with
  | none => rw [(stE_none hs).1] at h; exact absurd h (by decide)
  | some l =>
    by_cases hl : 4096 < l.length
    · rw [(stE_long hs hl).1] at h; exact absurd h (by decide)
    by_cases h4 : l.length = 4
    · match l, h4, hs with
      | [x0, x1, x2, x3], _, hs =>
        obtain ⟨e1, e2⟩ := stE_four hs
        by_cases hb : st4 x0 x1 x2 x3 = true
        · rw [if_pos hb] at e2
          rw [e2]
          obtain ⟨h1, h2, h3, h4, h5⟩ := st4_parts hb
          obtain ⟨d, hd⟩ := Option.isSome_iff_exists.1 h4
          have b0 := (parseO_back hd).1
          have b1 := (pnum_zero h1).1
          have b2 := (pnum_zero h2).1
          have b3 := sgO_back h5
          unfold StR.t stT stF
          dsimp only
          rw [hd, Option.getD_some, b0, b1, b2, b3]
          exact join_split S _ hs
        · rw [if_neg hb] at e1
          rw [e1] at h; exact absurd h (by decide)
    · rw [(stE_len hs (by omega) h4).1] at h; exact absurd h (by decide)
theorem stE_cases (S : List UInt8) : stE S = 0 ∨ stE S = 2 ∨ stE S = 4 := by
  unfold stE
  split
  · exact .inr (.inl rfl)
  · split
    · exact .inr (.inr rfl)
    · split
      · split
        · exact .inl rfl
        · exact .inr (.inl rfl)
      · exact .inr (.inl rfl)
end Go.Proofs.YtaeopobofmpioaaGreatDoor

namespace Go.Proofs.YtaeopobofmpioaaGreatDoor
set_option linter.unusedSimpArgs false
set_option linter.unusedVariables false
open Go.RowKit
set_option linter.unusedVariables false
set_option linter.unusedSimpArgs false
theorem put_st (W : World) (cs : Array Value) (h : cs.size = 24) : ∃ W', (W.alloc (.cells (#[.int .u64 0, .int .i64 0, .int .i64 0, .int .i64 0, .int .i64 0, .int .u64 0, .int .u64 0, .int .u64 0, .int .u64 0, .int .u64 0, .int .u64 0, .int .u64 0, .int .u64 0, .int .u64 0, .int .u64 0, .int .u64 0, .int .u64 0, .int .u64 0, .int .u64 0, .int .u64 0, .int .u64 0, .int .u64 0, .int .u64 0, .slice none 0 0]) 44)).setCells W.heap.size 0 cs.toList = W' ∧ (W.alloc (.cells (#[.int .u64 0, .int .i64 0, .int .i64 0, .int .i64 0, .int .i64 0, .int .u64 0, .int .u64 0, .int .u64 0, .int .u64 0, .int .u64 0, .int .u64 0, .int .u64 0, .int .u64 0, .int .u64 0, .int .u64 0, .int .u64 0, .int .u64 0, .int .u64 0, .int .u64 0, .int .u64 0, .int .u64 0, .int .u64 0, .int .u64 0, .slice none 0 0]) 44)).there W.heap.size 0 cs.size ∧ Grew W W' ∧ Ag W' W.heap.size cs.toList :=
  ⟨_, rfl, by rw [h]; exact (Ag.new W 44 (#[.int .u64 0, .int .i64 0, .int .i64 0, .int .i64 0, .int .i64 0, .int .u64 0, .int .u64 0, .int .u64 0, .int .u64 0, .int .u64 0, .int .u64 0, .int .u64 0, .int .u64 0, .int .u64 0, .int .u64 0, .int .u64 0, .int .u64 0, .int .u64 0, .int .u64 0, .int .u64 0, .int .u64 0, .int .u64 0, .int .u64 0, .slice none 0 0])).thereN 24 rfl, setCells_grew (o := 0) (b := W.heap.size) cs.toList (grew_alloc (grew_refl W) _) (Nat.le_refl _), Ag.set (vs := cs.toList) (Ag.new W 44 (#[.int .u64 0, .int .i64 0, .int .i64 0, .int .i64 0, .int .i64 0, .int .u64 0, .int .u64 0, .int .u64 0, .int .u64 0, .int .u64 0, .int .u64 0, .int .u64 0, .int .u64 0, .int .u64 0, .int .u64 0, .int .u64 0, .int .u64 0, .int .u64 0, .int .u64 0, .int .u64 0, .int .u64 0, .int .u64 0, .int .u64 0, .slice none 0 0])) (by simp [h])⟩
theorem put_rst (W : World) (cs : Array Value) (h : cs.size = 24) : ∃ W', (W.alloc (.cells (#[.int .u64 0, .int .i64 0, .int .i64 0, .int .i64 0, .int .i64 0, .int .u64 0, .int .u64 0, .int .u64 0, .int .u64 0, .int .u64 0, .int .u64 0, .int .u64 0, .int .u64 0, .int .u64 0, .int .u64 0, .int .u64 0, .int .u64 0, .int .u64 0, .int .u64 0, .int .u64 0, .int .u64 0, .int .u64 0, .int .u64 0, .slice none 0 0]) 30)).setCells W.heap.size 0 cs.toList = W' ∧ (W.alloc (.cells (#[.int .u64 0, .int .i64 0, .int .i64 0, .int .i64 0, .int .i64 0, .int .u64 0, .int .u64 0, .int .u64 0, .int .u64 0, .int .u64 0, .int .u64 0, .int .u64 0, .int .u64 0, .int .u64 0, .int .u64 0, .int .u64 0, .int .u64 0, .int .u64 0, .int .u64 0, .int .u64 0, .int .u64 0, .int .u64 0, .int .u64 0, .slice none 0 0]) 30)).there W.heap.size 0 cs.size ∧ Grew W W' ∧ Ag W' W.heap.size cs.toList :=
  ⟨_, rfl, by rw [h]; exact (Ag.new W 30 (#[.int .u64 0, .int .i64 0, .int .i64 0, .int .i64 0, .int .i64 0, .int .u64 0, .int .u64 0, .int .u64 0, .int .u64 0, .int .u64 0, .int .u64 0, .int .u64 0, .int .u64 0, .int .u64 0, .int .u64 0, .int .u64 0, .int .u64 0, .int .u64 0, .int .u64 0, .int .u64 0, .int .u64 0, .int .u64 0, .int .u64 0, .slice none 0 0])).thereN 24 rfl, setCells_grew (o := 0) (b := W.heap.size) cs.toList (grew_alloc (grew_refl W) _) (Nat.le_refl _), Ag.set (vs := cs.toList) (Ag.new W 30 (#[.int .u64 0, .int .i64 0, .int .i64 0, .int .i64 0, .int .i64 0, .int .u64 0, .int .u64 0, .int .u64 0, .int .u64 0, .int .u64 0, .int .u64 0, .int .u64 0, .int .u64 0, .int .u64 0, .int .u64 0, .int .u64 0, .int .u64 0, .int .u64 0, .int .u64 0, .int .u64 0, .int .u64 0, .int .u64 0, .int .u64 0, .slice none 0 0])) (by simp [h])⟩
set_option maxRecDepth 100000 in
set_option maxHeartbeats 4000000 in
theorem stampWords_law (tj : ByteArray) (w : World) (hS : Std w) :
    Calls Tryz.prog 4 #[.string tj] w fun e w' => e = .returned (.bool true) ∧ Grew w w' := by
  have CK := Lib.hid (sknown_ok w hS)
  have HS := Lib.hid hS
  clear hS
  go_enter Tryz.func4, Tryz.ntmps4
  go_wp2_with fail
  refine (CK.out).mono ?_
  rintro e w1 ⟨rfl, G1⟩
  clear CK
  cases E1 : decide (2000 < (tj.size : Int))
  case true =>
    go_wp2_with fail
    go_ret
    exact ⟨rfl, G1⟩
  case false =>
  simp only [decide_eq_false_iff_not] at E1
  have HE := Lib.hid (show tj.size ≤ 2000 by omega)
  have CA := Lib.hid (stparse_any tj (by omega) w1 (HS.out.grew G1))
  have CB := Lib.hid (fun W => rstparse_any tj (by have := HE.out; omega) W)
  have HIN := Lib.hid (stO_in tj.data.toList)
  have HBK : Hid (stE tj.data.toList = 0 → (stO tj.data.toList).t = tj.data.toList) := Lib.hid stO_back
  have E1 : decide (2000 < (tj.size : Int)) = false := decide_eq_false E1
  generalize stE tj.data.toList = ex at *
  generalize stO tj.data.toList = X at *
  obtain ⟨cm, who, at_, ⟨sw, lf⟩, s, l⟩ := X
  unfold StR.v at CA CB
  unfold StR.t at HBK
  dsimp only at CA CB HBK
  have hur := Tryz.underlying30
  have huk := Tryz.underlying44
  go_wp2_with fail
  refine (CA.out).mono ?_
  rintro e w2 ⟨⟨A5, c5, rfl, r5, -⟩, g2⟩
  clear CA E1
  have G2 := grew_trans G1 g2
  obtain ⟨v2, hv2, th2, gs2, z2⟩ := put_st w2 (stC cm who at_ sw lf s (.slice A5 l.length c5)) rfl
  have HV2 := Lib.hid hv2
  have TH2 := Lib.hid th2
  have SI2 : Hid ((Tryz.prog.info? 44).map (·.size) = some (stC cm who at_ sw lf s (.slice A5 l.length c5)).size) := Lib.hid st_info
  have ON2 := Lib.hid (stC_one cm who at_ sw lf s A5 l.length c5)
  clear hv2 th2 g2 G1
  go_wp2_with (with_reducible refine wpList_store_mid rfl 44 (.tmp 3) (.tmp 15) rfl w2.heap.size 0 (stC cm who at_ sw lf s (.slice A5 l.length c5)) rfl rfl TH2.out SI2.out ON2.out ?_; rw [HV2.out])
  clear HV2 TH2 SI2 ON2
  have H2 := grew_trans G2 gs2
  have r5' := r5.gr gs2
  clear r5
  refine (CB.out v2).mono ?_
  rintro e w3 ⟨⟨A6, c6, rfl, r6, -⟩, g3⟩
  clear CB
  obtain ⟨v3, hv3, th3, gs3, z3⟩ := put_rst w3 (stC cm who at_ sw lf s (.slice A6 l.length c6)) rfl
  have HV3 := Lib.hid hv3
  have TH3 := Lib.hid th3
  have SI3 : Hid ((Tryz.prog.info? 30).map (·.size) = some (stC cm who at_ sw lf s (.slice A6 l.length c6)).size) := Lib.hid rst_info
  have ON3 := Lib.hid (stC_one cm who at_ sw lf s A6 l.length c6)
  clear hv3 th3
  go_upto_region 7 with (with_reducible refine wpList_store_mid rfl 30 (.tmp 5) (.tmp 20) rfl w3.heap.size 0 (stC cm who at_ sw lf s (.slice A6 l.length c6)) rfl rfl TH3.out SI3.out ON3.out ?_; rw [HV3.out])
  clear HV3 TH3 SI3 ON3
  have G8 := grew_trans H2 (grew_trans g3 gs3)
  have F1 := Lib.hid (z2.grew (grew_trans g3 gs3))
  have F2 := Lib.hid z3
  have F5 := Lib.hid (r5'.gr (grew_trans g3 gs3))
  have F6 := Lib.hid (r6.gr gs3)
  clear z2 r5' r6 z3 H2 g3 gs3 gs2 G2
  have hl8 : l.length ≤ 8 := HIN.out.len
  have CO1 := Lib.hid (fun W hR => stof_ok cm who at_ sw lf s A5 c5 l (by omega) W hR)
  have CS1 := Lib.hid (fun A3 c3 W h1 h2 => rstsame_ok cm who at_ sw lf s A3 A6 c3 c6 l (by omega) W h1 h2)
  have CX1 := Lib.hid (fun W hW hR => sttext_ok cm who at_ sw lf s A5 c5 l HIN.out.cm HIN.out.who HIN.out.at_ HIN.out.sw HIN.out.lf (by omega) HIN.out.s HIN.out.l W hW hR)
  have HM1 := Lib.hid (fun y (g : Grew v3 y) => (F1.out.grew g).cell)
  have HM2 := Lib.hid (fun y (g : Grew v3 y) => (F2.out.grew g).cell)
  have R5 := Lib.hid (fun y (g : Grew v3 y) => F5.out.gr g)
  have R6 := Lib.hid (fun y (g : Grew v3 y) => F6.out.gr g)
  have SL1 : Hid ((Tryz.prog.info? 44).map (·.size) = some (stC cm who at_ sw lf s (.slice A5 l.length c5)).toList.length) := Lib.hid st_info
  have SL2 : Hid ((Tryz.prog.info? 30).map (·.size) = some (stC cm who at_ sw lf s (.slice A6 l.length c6)).toList.length) := Lib.hid rst_info
  generalize stC cm who at_ sw lf s (.slice A5 l.length c5) = g1 at *
  generalize stC cm who at_ sw lf s (.slice A6 l.length c6) = g2 at *
  by_cases hex : ex = 0
  · have hbk := HBK.out hex
    have CX1' : Hid (∀ W, Std W → Rd W W.heap.size A5 (u64L l) → Calls Tryz.prog 24 #[.agg g1] W fun e w' => e = .returned (.string tj) ∧ Grew W w') := Lib.hid (fun W hW hR => by
      have := CX1.out W hW hR
      rw [hbk] at this
      exact this)
    clear CX1
    have CX1 := CX1'
    clear CX1' hbk HBK HIN
    subst hex
    refine wp_region_rel 19 (fun i => match i with
        | 0 => fun v _ => v = .int .i64 0
        | 1 => fun v _ => v = .int .i64 0
        | 2 => fun v _ => v = .bool true
        | 3 => fun v _ => v = .bool true
        | 4 => fun v _ => v = .agg g1
        | 5 => fun v w => AgT w 0 cm who at_ sw lf s l v
        | 6 => fun v _ => v = .agg g2
        | 7 => fun v _ => v = .bool true
        | 8 => fun v _ => v = .bool true
        | 9 => fun v _ => v = .bool true
        | 10 => fun v _ => v = .int .i64 0
        | 11 => fun v _ => v = .bool false
        | 12 => fun v _ => v = .bool false
        | 13 => fun v _ => v = .agg g1
        | 14 => fun v _ => v = .string tj
        | 15 => fun v _ => v = .string tj
        | 16 => fun v _ => v = .bool true
        | 17 => fun v _ => v = .bool true
        | 18 => fun v _ => v = .bool true
        | _ => fun _ _ => True) (by kernel_rfl) (by kernel_rfl) ?_ ?_ ?_
    · intro i v x y h hg
      match i, h with
      | 0, h | 1, h | 2, h | 3, h | 4, h | 6, h | 7, h | 8, h | 9, h | 10, h | 11, h | 12, h | 13, h | 14, h | 15, h | 16, h | 17, h | 18, h => exact h
      | 5, h => exact AgT.gr h hg
      | m + 19, _ => trivial
    · refine ⟨?_, ?_, ?_, ?_, ?_, ?_, ?_, ?_, ?_, ?_, ?_, ?_, ?_, ?_, ?_, ?_, ?_, ?_, ?_, trivial⟩
      · intro vs y hg hd
        simp only [actOf, List.take_succ_cons, List.take_zero, List.drop_succ_cons, List.drop_zero, Act.put, List.setIfInBounds_toArray, List.set_cons_succ, List.set_cons_zero, Nat.reduceAdd]
        go_wp2_with fail
        exact ⟨rfl, _, rfl, grew_refl _, rfl⟩
      · intro vs y hg hd
        simp only [actOf, List.take_succ_cons, List.take_zero, List.drop_succ_cons, List.drop_zero, Act.put, List.setIfInBounds_toArray, List.set_cons_succ, List.set_cons_zero, Nat.reduceAdd]
        go_wp2_with fail
        exact ⟨rfl, _, rfl, grew_refl _, rfl⟩
      · intro vs y hg hd
        obtain ⟨h0, h1, _⟩ := hd
        replace h0 := h0 rfl
        replace h1 := h1 rfl
        simp only [actOf, List.take_succ_cons, List.take_zero, List.drop_succ_cons, List.drop_zero, Act.put, List.setIfInBounds_toArray, List.set_cons_succ, List.set_cons_zero, Nat.reduceAdd]
        rw [show vs 0 = _ from h0, show vs 1 = _ from h1]
        go_wp2_with fail
        exact ⟨rfl, _, rfl, grew_refl _, rfl⟩
      · intro vs y hg hd
        obtain ⟨h2, _⟩ := hd
        replace h2 := h2 rfl
        simp only [actOf, List.take_succ_cons, List.take_zero, List.drop_succ_cons, List.drop_zero, Act.put, List.setIfInBounds_toArray, List.set_cons_succ, List.set_cons_zero, Nat.reduceAdd]
        rw [show vs 2 = _ from h2]
        go_wp2_with fail
        exact ⟨rfl, _, rfl, grew_refl _, rfl⟩
      · intro vs y hg hd
        have hx : (Region.binds .any { on := 3, ground := .guard } = true → vs 3 = .bool true) ∧ True := hd
        have h3 : vs 3 = .bool true := hx.1 rfl
        clear hx
        simp only [actOf, List.take_succ_cons, List.take_zero, List.drop_succ_cons, List.drop_zero, Act.put, List.setIfInBounds_toArray, List.set_cons_succ, List.set_cons_zero, Nat.reduceAdd]
        rw [show vs 3 = _ from h3]
        have hm := HM1.out y hg
        go_wp2_with (refine wpList_load_mid_want (by rfl) 44 (.tmp 3) rfl w2.heap.size 0 rfl g1.toList _ hm huk rfl SL1.out ?_; simp only [Array.toArray_toList])
        exact ⟨rfl, _, rfl, grew_refl _, rfl⟩
      · intro vs y hg hd
        have hx : (Region.binds .any { on := 4, ground := .data } = true → vs 4 = .agg g1) ∧ (Region.binds .any { on := 3, ground := .chain } = true → vs 3 = .bool true) ∧ (Region.binds .any { on := 3, ground := .guard } = true → vs 3 = .bool true) ∧ True := hd
        have h4 : vs 4 = .agg g1 := hx.1 rfl
        have h3 : vs 3 = .bool true := hx.2.2.1 rfl
        clear hx
        simp only [actOf, List.take_succ_cons, List.take_zero, List.drop_succ_cons, List.drop_zero, Act.put, List.setIfInBounds_toArray, List.set_cons_succ, List.set_cons_zero, Nat.reduceAdd]
        rw [show vs 4 = _ from h4, show vs 3 = _ from h3]
        go_wp2_with (go_at_call 31; refine (CO1.out y (R5.out y hg)).mono ?_; rintro e z ⟨A3, c3, rfl, hr9, gz, hb9⟩)
        exact ⟨rfl, _, rfl, gz, ⟨A3, c3, rfl, hr9, fun ad h => Nat.zero_le _⟩⟩
      · intro vs y hg hd
        have hx : (Region.binds .any { on := 3, ground := .guard } = true → vs 3 = .bool true) ∧ True := hd
        have h3 : vs 3 = .bool true := hx.1 rfl
        clear hx
        simp only [actOf, List.take_succ_cons, List.take_zero, List.drop_succ_cons, List.drop_zero, Act.put, List.setIfInBounds_toArray, List.set_cons_succ, List.set_cons_zero, Nat.reduceAdd]
        rw [show vs 3 = _ from h3]
        have hm := HM2.out y hg
        go_wp2_with (refine wpList_load_mid_want (by rfl) 30 (.tmp 5) rfl w3.heap.size 0 rfl g2.toList _ hm hur rfl SL2.out ?_; simp only [Array.toArray_toList])
        exact ⟨rfl, _, rfl, grew_refl _, rfl⟩
      · intro vs y hg hd
        have hx : (Region.binds .any { on := 5, ground := .data } = true → (fun v w => AgT w 0 cm who at_ sw lf s l v) (vs 5) y) ∧ (Region.binds .any { on := 6, ground := .data } = true → vs 6 = .agg g2) ∧ (Region.binds .any { on := 5, ground := .chain } = true → (fun v w => AgT w 0 cm who at_ sw lf s l v) (vs 5) y) ∧ (Region.binds .any { on := 3, ground := .guard } = true → vs 3 = .bool true) ∧ True := hd
        have h5 : (fun v w => AgT w 0 cm who at_ sw lf s l v) (vs 5) y := hx.1 rfl
        have h6 : vs 6 = .agg g2 := hx.2.1 rfl
        have h3 : vs 3 = .bool true := hx.2.2.2.1 rfl
        clear hx
        simp only [actOf, List.take_succ_cons, List.take_zero, List.drop_succ_cons, List.drop_zero, Act.put, List.setIfInBounds_toArray, List.set_cons_succ, List.set_cons_zero, Nat.reduceAdd]
        rw [show vs 6 = _ from h6, show vs 3 = _ from h3]
        obtain ⟨A3, c3, hv, hr9, hb9⟩ := AgT.out h5
        rw [hv]
        have hr2 := R6.out y hg
        go_wp2_with (go_at_call 30; refine (CS1.out A3 c3 y hr9 hr2).mono ?_; rintro e z ⟨rfl, gz⟩)
        exact ⟨rfl, _, rfl, gz, rfl⟩
      · intro vs y hg hd
        obtain ⟨h3, h7, _⟩ := hd
        replace h3 := h3 rfl
        replace h7 := h7 rfl
        simp only [actOf, List.take_succ_cons, List.take_zero, List.drop_succ_cons, List.drop_zero, Act.put, List.setIfInBounds_toArray, List.set_cons_succ, List.set_cons_zero, Nat.reduceAdd]
        rw [show vs 3 = _ from h3, show vs 7 = _ from h7]
        go_wp2_with fail
        exact ⟨rfl, _, rfl, grew_refl _, rfl⟩
      · intro vs y hg hd
        obtain ⟨h8, _⟩ := hd
        replace h8 := h8 rfl
        simp only [actOf, List.take_succ_cons, List.take_zero, List.drop_succ_cons, List.drop_zero, Act.put, List.setIfInBounds_toArray, List.set_cons_succ, List.set_cons_zero, Nat.reduceAdd]
        rw [show vs 8 = _ from h8]
        go_wp2_with fail
        exact ⟨rfl, _, rfl, grew_refl _, rfl⟩
      · intro vs y hg hd
        have hx : (Region.binds .any { on := 9, ground := .guard } = true → vs 9 = .bool true) ∧ True := hd
        have h9 : vs 9 = .bool true := hx.1 rfl
        clear hx
        simp only [actOf, List.take_succ_cons, List.take_zero, List.drop_succ_cons, List.drop_zero, Act.put, List.setIfInBounds_toArray, List.set_cons_succ, List.set_cons_zero, Nat.reduceAdd]
        rw [show vs 9 = _ from h9]
        go_wp2_with fail
        exact ⟨rfl, _, rfl, grew_refl _, rfl⟩
      · intro vs y hg hd
        have hx : (Region.binds .any { on := 10, ground := .data } = true → vs 10 = .int .i64 0) ∧ (Region.binds .any { on := 9, ground := .guard } = true → vs 9 = .bool true) ∧ True := hd
        have h10 : vs 10 = .int .i64 0 := hx.1 rfl
        have h9 : vs 9 = .bool true := hx.2.1 rfl
        clear hx
        simp only [actOf, List.take_succ_cons, List.take_zero, List.drop_succ_cons, List.drop_zero, Act.put, List.setIfInBounds_toArray, List.set_cons_succ, List.set_cons_zero, Nat.reduceAdd]
        rw [show vs 10 = _ from h10, show vs 9 = _ from h9]
        go_wp2_with fail
        exact ⟨rfl, _, rfl, grew_refl _, rfl⟩
      · intro vs y hg hd
        have hx : (Region.binds .any { on := 11, ground := .data } = true → vs 11 = .bool false) ∧ (Region.binds .any { on := 9, ground := .chain } = true → vs 9 = .bool true) ∧ (Region.binds .any { on := 9, ground := .guard } = true → vs 9 = .bool true) ∧ True := hd
        have h11 : vs 11 = .bool false := hx.1 rfl
        have h9 : vs 9 = .bool true := hx.2.2.1 rfl
        clear hx
        simp only [actOf, List.take_succ_cons, List.take_zero, List.drop_succ_cons, List.drop_zero, Act.put, List.setIfInBounds_toArray, List.set_cons_succ, List.set_cons_zero, Nat.reduceAdd]
        rw [show vs 11 = _ from h11, show vs 9 = _ from h9]
        go_wp2_with fail
        exact ⟨rfl, _, rfl, grew_refl _, rfl⟩
      · intro vs y hg hd
        have hx : (Region.binds .any { on := 12, ground := .guard } = true → vs 12 = .bool false) ∧ True := hd
        have h12 : vs 12 = .bool false := hx.1 rfl
        clear hx
        simp only [actOf, List.take_succ_cons, List.take_zero, List.drop_succ_cons, List.drop_zero, Act.put, List.setIfInBounds_toArray, List.set_cons_succ, List.set_cons_zero, Nat.reduceAdd]
        rw [show vs 12 = _ from h12]
        have hm := HM1.out y hg
        go_wp2_with (refine wpList_load_mid_want (by rfl) 44 (.tmp 3) rfl w2.heap.size 0 rfl g1.toList _ hm huk rfl SL1.out ?_; simp only [Array.toArray_toList])
        exact ⟨rfl, _, rfl, grew_refl _, rfl⟩
      · intro vs y hg hd
        have hx : (Region.binds .any { on := 13, ground := .data } = true → vs 13 = .agg g1) ∧ (Region.binds .any { on := 12, ground := .chain } = true → vs 12 = .bool false) ∧ (Region.binds .any { on := 12, ground := .guard } = true → vs 12 = .bool false) ∧ True := hd
        have h13 : vs 13 = .agg g1 := hx.1 rfl
        have h12 : vs 12 = .bool false := hx.2.2.1 rfl
        clear hx
        simp only [actOf, List.take_succ_cons, List.take_zero, List.drop_succ_cons, List.drop_zero, Act.put, List.setIfInBounds_toArray, List.set_cons_succ, List.set_cons_zero, Nat.reduceAdd]
        rw [show vs 13 = _ from h13, show vs 12 = _ from h12]
        go_wp2_with (go_at_call 24; refine (CX1.out y (HS.out.grew (grew_trans G8 hg)) (R5.out y hg)).mono ?_; rintro e z ⟨rfl, gz⟩)
        exact ⟨rfl, _, rfl, gz, rfl⟩
      · intro vs y hg hd
        have hx : (Region.binds .any { on := 12, ground := .guard } = true → vs 12 = .bool false) ∧ True := hd
        have h12 : vs 12 = .bool false := hx.1 rfl
        clear hx
        simp only [actOf, List.take_succ_cons, List.take_zero, List.drop_succ_cons, List.drop_zero, Act.put, List.setIfInBounds_toArray, List.set_cons_succ, List.set_cons_zero, Nat.reduceAdd]
        rw [show vs 12 = _ from h12]
        go_wp2_with fail
        exact ⟨rfl, _, rfl, grew_refl _, rfl⟩
      · intro vs y hg hd
        have hx : (Region.binds .any { on := 14, ground := .data } = true → vs 14 = .string tj) ∧ (Region.binds .any { on := 15, ground := .data } = true → vs 15 = .string tj) ∧ (Region.binds .any { on := 12, ground := .guard } = true → vs 12 = .bool false) ∧ True := hd
        have h14 : vs 14 = .string tj := hx.1 rfl
        have h15 : vs 15 = .string tj := hx.2.1 rfl
        have h12 : vs 12 = .bool false := hx.2.2.1 rfl
        clear hx
        simp only [actOf, List.take_succ_cons, List.take_zero, List.drop_succ_cons, List.drop_zero, Act.put, List.setIfInBounds_toArray, List.set_cons_succ, List.set_cons_zero, Nat.reduceAdd]
        rw [show vs 14 = _ from h14, show vs 15 = _ from h15, show vs 12 = _ from h12]
        go_wp2_with fail
        exact ⟨rfl, _, rfl, grew_refl _, by simp⟩
      · intro vs y hg hd
        have hx : (Region.binds .any { on := 12, ground := .data } = true → vs 12 = .bool false) ∧ (Region.binds .any { on := 16, ground := .data } = true → vs 16 = .bool true) ∧ (Region.binds .any { on := 9, ground := .guard } = true → vs 9 = .bool true) ∧ True := hd
        have h12 : vs 12 = .bool false := hx.1 rfl
        have h16 : vs 16 = .bool true := hx.2.1 rfl
        have h9 : vs 9 = .bool true := hx.2.2.1 rfl
        clear hx
        simp only [actOf, List.take_succ_cons, List.take_zero, List.drop_succ_cons, List.drop_zero, Act.put, List.setIfInBounds_toArray, List.set_cons_succ, List.set_cons_zero, Nat.reduceAdd]
        rw [show vs 12 = _ from h12, show vs 16 = _ from h16, show vs 9 = _ from h9]
        go_wp2_with fail
        exact ⟨rfl, _, rfl, grew_refl _, rfl⟩
      · intro vs y hg hd
        obtain ⟨h9, h17, _⟩ := hd
        replace h9 := h9 rfl
        replace h17 := h17 rfl
        simp only [actOf, List.take_succ_cons, List.take_zero, List.drop_succ_cons, List.drop_zero, Act.put, List.setIfInBounds_toArray, List.set_cons_succ, List.set_cons_zero, Nat.reduceAdd]
        rw [show vs 9 = _ from h9, show vs 17 = _ from h17]
        go_wp2_with fail
        exact ⟨rfl, _, rfl, grew_refl _, rfl⟩
    · intro vs y hg hJ
      have j0 : vs 0 = .int .i64 0 := hJ 0 (by decide)
      have j1 : vs 1 = .int .i64 0 := hJ 1 (by decide)
      have j2 : vs 2 = .bool true := hJ 2 (by decide)
      have j3 : vs 3 = .bool true := hJ 3 (by decide)
      have j4 : vs 4 = .agg g1 := hJ 4 (by decide)
      have j6 : vs 6 = .agg g2 := hJ 6 (by decide)
      have j7 : vs 7 = .bool true := hJ 7 (by decide)
      have j8 : vs 8 = .bool true := hJ 8 (by decide)
      have j9 : vs 9 = .bool true := hJ 9 (by decide)
      have j10 : vs 10 = .int .i64 0 := hJ 10 (by decide)
      have j11 : vs 11 = .bool false := hJ 11 (by decide)
      have j12 : vs 12 = .bool false := hJ 12 (by decide)
      have j13 : vs 13 = .agg g1 := hJ 13 (by decide)
      have j14 : vs 14 = .string tj := hJ 14 (by decide)
      have j15 : vs 15 = .string tj := hJ 15 (by decide)
      have j16 : vs 16 = .bool true := hJ 16 (by decide)
      have j17 : vs 17 = .bool true := hJ 17 (by decide)
      have j18 : vs 18 = .bool true := hJ 18 (by decide)
      have s27 := hJ 5 (by decide)
      clear hJ
      simp only [actOf, List.take_succ_cons, List.take_zero, List.drop_succ_cons, List.drop_zero, Act.put, List.setIfInBounds_toArray, List.set_cons_succ, List.set_cons_zero, Nat.reduceAdd]
      go_wp2_with fail
      go_ret
      exact ⟨rfl, grew_trans G8 hg⟩
  · have e1 : (ex != 0) = true := by simpa using hex
    have e2 : (ex == ex) = true := by simp
    clear HBK HIN hex CX1
    refine wp_region_rel 19 (fun i => match i with
        | 0 => fun v _ => v = .int .i64 ex
        | 1 => fun v _ => v = .int .i64 ex
        | 2 => fun v _ => v = .bool true
        | 3 => fun v _ => v = .bool true
        | 4 => fun v _ => v = .agg g1
        | 5 => fun v w => AgT w 0 cm who at_ sw lf s l v
        | 6 => fun v _ => v = .agg g2
        | 7 => fun v _ => v = .bool true
        | 8 => fun v _ => v = .bool true
        | 9 => fun v _ => v = .bool true
        | 10 => fun v _ => v = .int .i64 ex
        | 11 => fun v _ => v = .bool true
        | 12 => fun v _ => v = .bool true
        | 13 => fun v _ => v = undef
        | 14 => fun v _ => v = undef
        | 15 => fun v _ => v = undef
        | 16 => fun v _ => v = undef
        | 17 => fun v _ => v = .bool true
        | 18 => fun v _ => v = .bool true
        | _ => fun _ _ => True) (by kernel_rfl) (by kernel_rfl) ?_ ?_ ?_
    · intro i v x y h hg
      match i, h with
      | 0, h | 1, h | 2, h | 3, h | 4, h | 6, h | 7, h | 8, h | 9, h | 10, h | 11, h | 12, h | 13, h | 14, h | 15, h | 16, h | 17, h | 18, h => exact h
      | 5, h => exact AgT.gr h hg
      | m + 19, _ => trivial
    · refine ⟨?_, ?_, ?_, ?_, ?_, ?_, ?_, ?_, ?_, ?_, ?_, ?_, ?_, ?_, ?_, ?_, ?_, ?_, ?_, trivial⟩
      · intro vs y hg hd
        simp only [actOf, List.take_succ_cons, List.take_zero, List.drop_succ_cons, List.drop_zero, Act.put, List.setIfInBounds_toArray, List.set_cons_succ, List.set_cons_zero, Nat.reduceAdd]
        go_wp2_with fail
        exact ⟨rfl, _, rfl, grew_refl _, rfl⟩
      · intro vs y hg hd
        simp only [actOf, List.take_succ_cons, List.take_zero, List.drop_succ_cons, List.drop_zero, Act.put, List.setIfInBounds_toArray, List.set_cons_succ, List.set_cons_zero, Nat.reduceAdd]
        go_wp2_with fail
        exact ⟨rfl, _, rfl, grew_refl _, rfl⟩
      · intro vs y hg hd
        obtain ⟨h0, h1, _⟩ := hd
        replace h0 := h0 rfl
        replace h1 := h1 rfl
        simp only [actOf, List.take_succ_cons, List.take_zero, List.drop_succ_cons, List.drop_zero, Act.put, List.setIfInBounds_toArray, List.set_cons_succ, List.set_cons_zero, Nat.reduceAdd]
        rw [show vs 0 = _ from h0, show vs 1 = _ from h1]
        go_wp2_with fail
        exact ⟨rfl, _, rfl, grew_refl _, rfl⟩
      · intro vs y hg hd
        obtain ⟨h2, _⟩ := hd
        replace h2 := h2 rfl
        simp only [actOf, List.take_succ_cons, List.take_zero, List.drop_succ_cons, List.drop_zero, Act.put, List.setIfInBounds_toArray, List.set_cons_succ, List.set_cons_zero, Nat.reduceAdd]
        rw [show vs 2 = _ from h2]
        go_wp2_with fail
        exact ⟨rfl, _, rfl, grew_refl _, rfl⟩
      · intro vs y hg hd
        have hx : (Region.binds .any { on := 3, ground := .guard } = true → vs 3 = .bool true) ∧ True := hd
        have h3 : vs 3 = .bool true := hx.1 rfl
        clear hx
        simp only [actOf, List.take_succ_cons, List.take_zero, List.drop_succ_cons, List.drop_zero, Act.put, List.setIfInBounds_toArray, List.set_cons_succ, List.set_cons_zero, Nat.reduceAdd]
        rw [show vs 3 = _ from h3]
        have hm := HM1.out y hg
        go_wp2_with (refine wpList_load_mid_want (by rfl) 44 (.tmp 3) rfl w2.heap.size 0 rfl g1.toList _ hm huk rfl SL1.out ?_; simp only [Array.toArray_toList])
        exact ⟨rfl, _, rfl, grew_refl _, rfl⟩
      · intro vs y hg hd
        have hx : (Region.binds .any { on := 4, ground := .data } = true → vs 4 = .agg g1) ∧ (Region.binds .any { on := 3, ground := .chain } = true → vs 3 = .bool true) ∧ (Region.binds .any { on := 3, ground := .guard } = true → vs 3 = .bool true) ∧ True := hd
        have h4 : vs 4 = .agg g1 := hx.1 rfl
        have h3 : vs 3 = .bool true := hx.2.2.1 rfl
        clear hx
        simp only [actOf, List.take_succ_cons, List.take_zero, List.drop_succ_cons, List.drop_zero, Act.put, List.setIfInBounds_toArray, List.set_cons_succ, List.set_cons_zero, Nat.reduceAdd]
        rw [show vs 4 = _ from h4, show vs 3 = _ from h3]
        go_wp2_with (go_at_call 31; refine (CO1.out y (R5.out y hg)).mono ?_; rintro e z ⟨A3, c3, rfl, hr9, gz, hb9⟩)
        exact ⟨rfl, _, rfl, gz, ⟨A3, c3, rfl, hr9, fun ad h => Nat.zero_le _⟩⟩
      · intro vs y hg hd
        have hx : (Region.binds .any { on := 3, ground := .guard } = true → vs 3 = .bool true) ∧ True := hd
        have h3 : vs 3 = .bool true := hx.1 rfl
        clear hx
        simp only [actOf, List.take_succ_cons, List.take_zero, List.drop_succ_cons, List.drop_zero, Act.put, List.setIfInBounds_toArray, List.set_cons_succ, List.set_cons_zero, Nat.reduceAdd]
        rw [show vs 3 = _ from h3]
        have hm := HM2.out y hg
        go_wp2_with (refine wpList_load_mid_want (by rfl) 30 (.tmp 5) rfl w3.heap.size 0 rfl g2.toList _ hm hur rfl SL2.out ?_; simp only [Array.toArray_toList])
        exact ⟨rfl, _, rfl, grew_refl _, rfl⟩
      · intro vs y hg hd
        have hx : (Region.binds .any { on := 5, ground := .data } = true → (fun v w => AgT w 0 cm who at_ sw lf s l v) (vs 5) y) ∧ (Region.binds .any { on := 6, ground := .data } = true → vs 6 = .agg g2) ∧ (Region.binds .any { on := 5, ground := .chain } = true → (fun v w => AgT w 0 cm who at_ sw lf s l v) (vs 5) y) ∧ (Region.binds .any { on := 3, ground := .guard } = true → vs 3 = .bool true) ∧ True := hd
        have h5 : (fun v w => AgT w 0 cm who at_ sw lf s l v) (vs 5) y := hx.1 rfl
        have h6 : vs 6 = .agg g2 := hx.2.1 rfl
        have h3 : vs 3 = .bool true := hx.2.2.2.1 rfl
        clear hx
        simp only [actOf, List.take_succ_cons, List.take_zero, List.drop_succ_cons, List.drop_zero, Act.put, List.setIfInBounds_toArray, List.set_cons_succ, List.set_cons_zero, Nat.reduceAdd]
        rw [show vs 6 = _ from h6, show vs 3 = _ from h3]
        obtain ⟨A3, c3, hv, hr9, hb9⟩ := AgT.out h5
        rw [hv]
        have hr2 := R6.out y hg
        go_wp2_with (go_at_call 30; refine (CS1.out A3 c3 y hr9 hr2).mono ?_; rintro e z ⟨rfl, gz⟩)
        exact ⟨rfl, _, rfl, gz, rfl⟩
      · intro vs y hg hd
        obtain ⟨h3, h7, _⟩ := hd
        replace h3 := h3 rfl
        replace h7 := h7 rfl
        simp only [actOf, List.take_succ_cons, List.take_zero, List.drop_succ_cons, List.drop_zero, Act.put, List.setIfInBounds_toArray, List.set_cons_succ, List.set_cons_zero, Nat.reduceAdd]
        rw [show vs 3 = _ from h3, show vs 7 = _ from h7]
        go_wp2_with fail
        exact ⟨rfl, _, rfl, grew_refl _, rfl⟩
      · intro vs y hg hd
        obtain ⟨h8, _⟩ := hd
        replace h8 := h8 rfl
        simp only [actOf, List.take_succ_cons, List.take_zero, List.drop_succ_cons, List.drop_zero, Act.put, List.setIfInBounds_toArray, List.set_cons_succ, List.set_cons_zero, Nat.reduceAdd]
        rw [show vs 8 = _ from h8]
        go_wp2_with fail
        exact ⟨rfl, _, rfl, grew_refl _, rfl⟩
      · intro vs y hg hd
        have hx : (Region.binds .any { on := 9, ground := .guard } = true → vs 9 = .bool true) ∧ True := hd
        have h9 : vs 9 = .bool true := hx.1 rfl
        clear hx
        simp only [actOf, List.take_succ_cons, List.take_zero, List.drop_succ_cons, List.drop_zero, Act.put, List.setIfInBounds_toArray, List.set_cons_succ, List.set_cons_zero, Nat.reduceAdd]
        rw [show vs 9 = _ from h9]
        go_wp2_with fail
        exact ⟨rfl, _, rfl, grew_refl _, rfl⟩
      · intro vs y hg hd
        have hx : (Region.binds .any { on := 10, ground := .data } = true → vs 10 = .int .i64 ex) ∧ (Region.binds .any { on := 9, ground := .guard } = true → vs 9 = .bool true) ∧ True := hd
        have h10 : vs 10 = .int .i64 ex := hx.1 rfl
        have h9 : vs 9 = .bool true := hx.2.1 rfl
        clear hx
        simp only [actOf, List.take_succ_cons, List.take_zero, List.drop_succ_cons, List.drop_zero, Act.put, List.setIfInBounds_toArray, List.set_cons_succ, List.set_cons_zero, Nat.reduceAdd]
        rw [show vs 10 = _ from h10, show vs 9 = _ from h9]
        go_wp2_with fail
        exact ⟨rfl, _, rfl, grew_refl _, rfl⟩
      · intro vs y hg hd
        have hx : (Region.binds .any { on := 11, ground := .data } = true → vs 11 = .bool true) ∧ (Region.binds .any { on := 9, ground := .chain } = true → vs 9 = .bool true) ∧ (Region.binds .any { on := 9, ground := .guard } = true → vs 9 = .bool true) ∧ True := hd
        have h11 : vs 11 = .bool true := hx.1 rfl
        have h9 : vs 9 = .bool true := hx.2.2.1 rfl
        clear hx
        simp only [actOf, List.take_succ_cons, List.take_zero, List.drop_succ_cons, List.drop_zero, Act.put, List.setIfInBounds_toArray, List.set_cons_succ, List.set_cons_zero, Nat.reduceAdd]
        rw [show vs 11 = _ from h11, show vs 9 = _ from h9]
        go_wp2_with fail
        exact ⟨rfl, _, rfl, grew_refl _, rfl⟩
      · intro vs y hg hd
        have hx : (Region.binds .any { on := 12, ground := .guard } = true → vs 12 = .bool true) ∧ True := hd
        have h12 : vs 12 = .bool true := hx.1 rfl
        clear hx
        simp only [actOf, List.take_succ_cons, List.take_zero, List.drop_succ_cons, List.drop_zero, Act.put, List.setIfInBounds_toArray, List.set_cons_succ, List.set_cons_zero, Nat.reduceAdd]
        rw [show vs 12 = _ from h12]
        go_wp2_with fail
        exact ⟨rfl, _, rfl, grew_refl _, rfl⟩
      · intro vs y hg hd
        have hx : (Region.binds .any { on := 13, ground := .data } = true → vs 13 = undef) ∧ (Region.binds .any { on := 12, ground := .chain } = true → vs 12 = .bool true) ∧ (Region.binds .any { on := 12, ground := .guard } = true → vs 12 = .bool true) ∧ True := hd
        have h13 : vs 13 = undef := hx.1 rfl
        have h12 : vs 12 = .bool true := hx.2.2.1 rfl
        clear hx
        simp only [actOf, List.take_succ_cons, List.take_zero, List.drop_succ_cons, List.drop_zero, Act.put, List.setIfInBounds_toArray, List.set_cons_succ, List.set_cons_zero, Nat.reduceAdd]
        rw [show vs 13 = _ from h13, show vs 12 = _ from h12]
        go_wp2_with fail
        exact ⟨rfl, _, rfl, grew_refl _, rfl⟩
      · intro vs y hg hd
        have hx : (Region.binds .any { on := 12, ground := .guard } = true → vs 12 = .bool true) ∧ True := hd
        have h12 : vs 12 = .bool true := hx.1 rfl
        clear hx
        simp only [actOf, List.take_succ_cons, List.take_zero, List.drop_succ_cons, List.drop_zero, Act.put, List.setIfInBounds_toArray, List.set_cons_succ, List.set_cons_zero, Nat.reduceAdd]
        rw [show vs 12 = _ from h12]
        go_wp2_with fail
        exact ⟨rfl, _, rfl, grew_refl _, rfl⟩
      · intro vs y hg hd
        have hx : (Region.binds .any { on := 14, ground := .data } = true → vs 14 = undef) ∧ (Region.binds .any { on := 15, ground := .data } = true → vs 15 = undef) ∧ (Region.binds .any { on := 12, ground := .guard } = true → vs 12 = .bool true) ∧ True := hd
        have h14 : vs 14 = undef := hx.1 rfl
        have h15 : vs 15 = undef := hx.2.1 rfl
        have h12 : vs 12 = .bool true := hx.2.2.1 rfl
        clear hx
        simp only [actOf, List.take_succ_cons, List.take_zero, List.drop_succ_cons, List.drop_zero, Act.put, List.setIfInBounds_toArray, List.set_cons_succ, List.set_cons_zero, Nat.reduceAdd]
        rw [show vs 14 = _ from h14, show vs 15 = _ from h15, show vs 12 = _ from h12]
        go_wp2_with fail
        exact ⟨rfl, _, rfl, grew_refl _, rfl⟩
      · intro vs y hg hd
        have hx : (Region.binds .any { on := 12, ground := .data } = true → vs 12 = .bool true) ∧ (Region.binds .any { on := 16, ground := .data } = true → vs 16 = undef) ∧ (Region.binds .any { on := 9, ground := .guard } = true → vs 9 = .bool true) ∧ True := hd
        have h12 : vs 12 = .bool true := hx.1 rfl
        have h16 : vs 16 = undef := hx.2.1 rfl
        have h9 : vs 9 = .bool true := hx.2.2.1 rfl
        clear hx
        simp only [actOf, List.take_succ_cons, List.take_zero, List.drop_succ_cons, List.drop_zero, Act.put, List.setIfInBounds_toArray, List.set_cons_succ, List.set_cons_zero, Nat.reduceAdd]
        rw [show vs 12 = _ from h12, show vs 16 = _ from h16, show vs 9 = _ from h9]
        go_wp2_with fail
        exact ⟨rfl, _, rfl, grew_refl _, rfl⟩
      · intro vs y hg hd
        obtain ⟨h9, h17, _⟩ := hd
        replace h9 := h9 rfl
        replace h17 := h17 rfl
        simp only [actOf, List.take_succ_cons, List.take_zero, List.drop_succ_cons, List.drop_zero, Act.put, List.setIfInBounds_toArray, List.set_cons_succ, List.set_cons_zero, Nat.reduceAdd]
        rw [show vs 9 = _ from h9, show vs 17 = _ from h17]
        go_wp2_with fail
        exact ⟨rfl, _, rfl, grew_refl _, rfl⟩
    · intro vs y hg hJ
      have j0 : vs 0 = .int .i64 ex := hJ 0 (by decide)
      have j1 : vs 1 = .int .i64 ex := hJ 1 (by decide)
      have j2 : vs 2 = .bool true := hJ 2 (by decide)
      have j3 : vs 3 = .bool true := hJ 3 (by decide)
      have j4 : vs 4 = .agg g1 := hJ 4 (by decide)
      have j6 : vs 6 = .agg g2 := hJ 6 (by decide)
      have j7 : vs 7 = .bool true := hJ 7 (by decide)
      have j8 : vs 8 = .bool true := hJ 8 (by decide)
      have j9 : vs 9 = .bool true := hJ 9 (by decide)
      have j10 : vs 10 = .int .i64 ex := hJ 10 (by decide)
      have j11 : vs 11 = .bool true := hJ 11 (by decide)
      have j12 : vs 12 = .bool true := hJ 12 (by decide)
      have j13 : vs 13 = undef := hJ 13 (by decide)
      have j14 : vs 14 = undef := hJ 14 (by decide)
      have j15 : vs 15 = undef := hJ 15 (by decide)
      have j16 : vs 16 = undef := hJ 16 (by decide)
      have j17 : vs 17 = .bool true := hJ 17 (by decide)
      have j18 : vs 18 = .bool true := hJ 18 (by decide)
      have s27 := hJ 5 (by decide)
      clear hJ
      simp only [actOf, List.take_succ_cons, List.take_zero, List.drop_succ_cons, List.drop_zero, Act.put, List.setIfInBounds_toArray, List.set_cons_succ, List.set_cons_zero, Nat.reduceAdd]
      go_wp2_with fail
      go_ret
      exact ⟨rfl, grew_trans G8 hg⟩
end Go.Proofs.YtaeopobofmpioaaGreatDoor
