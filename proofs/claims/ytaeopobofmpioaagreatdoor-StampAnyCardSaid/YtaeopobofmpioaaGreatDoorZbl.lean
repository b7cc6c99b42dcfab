/- The reference's ParseStamp of whatever text. -/
import Derived.Test.YtaeopobofmpioaaGreatDoorZbk
import Derived.Test.YtaeopobofmpioaaGreatDoorZay
import Derived.Test.YtaeopobofmpioaaGreatDoorZat
import Derived.Test.YtaeopobofmpioaaGreatDoorZbj
import Derived.Test.YtaeopobofmpioaaGreatDoorZan
namespace Go.Proofs.YtaeopobofmpioaaGreatDoor
set_option linter.unusedSimpArgs false
set_option linter.unusedVariables false
open Go.RowKit
set_option linter.unusedVariables false
set_option linter.unusedSimpArgs false
set_option maxRecDepth 100000 in
theorem rst_built (cm : Nat) (who at_ sw lf : Int) (s : Nat → Nat) (A : Option Addr) (n c : Nat) : Tryz.prog.built 30 [(0, .int .u64 (cm : Nat)), (1, .int .i64 who), (2, .int .i64 at_), (3, .agg (sgC sw lf s (.slice A n c)))] = some (stC cm who at_ sw lf s (.slice A n c)) := by kernel_rfl
set_option maxRecDepth 100000 in
theorem rst_zero : Tryz.prog.built 30 [] = some (#[.int .u64 0, .int .i64 0, .int .i64 0, .int .i64 0, .int .i64 0, .int .u64 0, .int .u64 0, .int .u64 0, .int .u64 0, .int .u64 0, .int .u64 0, .int .u64 0, .int .u64 0, .int .u64 0, .int .u64 0, .int .u64 0, .int .u64 0, .int .u64 0, .int .u64 0, .int .u64 0, .int .u64 0, .int .u64 0, .int .u64 0, .slice none 0 0]) := by kernel_rfl
theorem rst_info : (Tryz.prog.info? 30).map (·.size) = some 24 := by kernel_rfl
set_option maxRecDepth 100000 in
set_option maxHeartbeats 1000000 in
theorem rstparse_split (tj : ByteArray) (hz : tj.size ≤ 1000000) (hno : ∀ x0 x1 x2 x3, splitF tj.data.toList ≠ some [x0, x1, x2, x3]) (w : World) :
    Calls Tryz.prog 29 #[.string tj] w fun e w' => (∃ A c, e = .returned (.tuple #[.agg ((stO tj.data.toList).v (.slice A (stO tj.data.toList).g.2.2.length c)), .int .i64 (stE tj.data.toList)]) ∧ Rd w' w'.heap.size A (u64L (stO tj.data.toList).g.2.2) ∧ (∀ ad, A = some ad → w.heap.size < ad.block)) ∧ Grew w w' := by
  have hut := Tryz.underlying30
  have hus := Tryz.underlying28
  have bz : ∀ W, (Instr.build 30 #[]).run Tryz.prog W = .ok (.agg (#[.int .u64 0, .int .i64 0, .int .i64 0, .int .i64 0, .int .i64 0, .int .u64 0, .int .u64 0, .int .u64 0, .int .u64 0, .int .u64 0, .int .u64 0, .int .u64 0, .int .u64 0, .int .u64 0, .int .u64 0, .int .u64 0, .int .u64 0, .int .u64 0, .int .u64 0, .int .u64 0, .int .u64 0, .int .u64 0, .int .u64 0, .slice none 0 0])) W := fun W => run_build W 30 #[] _ rst_zero
  have HSI : Hid ((Tryz.prog.info? 30).map (·.size) = some (#[.int .u64 0, .int .i64 0, .int .i64 0, .int .i64 0, .int .i64 0, .int .u64 0, .int .u64 0, .int .u64 0, .int .u64 0, .int .u64 0, .int .u64 0, .int .u64 0, .int .u64 0, .int .u64 0, .int .u64 0, .int .u64 0, .int .u64 0, .int .u64 0, .int .u64 0, .int .u64 0, .int .u64 0, .int .u64 0, .int .u64 0, .slice none 0 0] : Array Value).size) := Lib.hid rst_info
  have HSIL : Hid ((Tryz.prog.info? 30).map (·.size) = some (#[.int .u64 0, .int .i64 0, .int .i64 0, .int .i64 0, .int .i64 0, .int .u64 0, .int .u64 0, .int .u64 0, .int .u64 0, .int .u64 0, .int .u64 0, .int .u64 0, .int .u64 0, .int .u64 0, .int .u64 0, .int .u64 0, .int .u64 0, .int .u64 0, .int .u64 0, .int .u64 0, .int .u64 0, .int .u64 0, .int .u64 0, .slice none 0 0] : Array Value).toList.length) := Lib.hid rst_info
  have HON : Hid ((#[.int .u64 0, .int .i64 0, .int .i64 0, .int .i64 0, .int .i64 0, .int .u64 0, .int .u64 0, .int .u64 0, .int .u64 0, .int .u64 0, .int .u64 0, .int .u64 0, .int .u64 0, .int .u64 0, .int .u64 0, .int .u64 0, .int .u64 0, .int .u64 0, .int .u64 0, .int .u64 0, .int .u64 0, .int .u64 0, .int .u64 0, .slice none 0 0] : Array Value).all (·.oneCell') = true) := Lib.hid (by simp [Value.oneCell'])
  have z0 := Ag.new w 30 (#[.int .u64 0, .int .i64 0, .int .i64 0, .int .i64 0, .int .i64 0, .int .u64 0, .int .u64 0, .int .u64 0, .int .u64 0, .int .u64 0, .int .u64 0, .int .u64 0, .int .u64 0, .int .u64 0, .int .u64 0, .int .u64 0, .int .u64 0, .int .u64 0, .int .u64 0, .int .u64 0, .int .u64 0, .int .u64 0, .int .u64 0, .slice none 0 0])
  have g0 := grew_alloc (grew_refl w) (.cells (#[.int .u64 0, .int .i64 0, .int .i64 0, .int .i64 0, .int .i64 0, .int .u64 0, .int .u64 0, .int .u64 0, .int .u64 0, .int .u64 0, .int .u64 0, .int .u64 0, .int .u64 0, .int .u64 0, .int .u64 0, .int .u64 0, .int .u64 0, .int .u64 0, .int .u64 0, .int .u64 0, .int .u64 0, .int .u64 0, .int .u64 0, .slice none 0 0]) 30)
  have CS := Lib.hid (fun W => rsplit_ok tj (by omega) W)
  go_enter Tryz.func29, Tryz.ntmps29
  go_wp2_with fail
  refine (CS.out _).mono ?_
  rintro e w1 ⟨hs, gg⟩
  have z1 := z0.grew gg
  have g1 := grew_trans g0 gg
  have HTH : Hid (w1.there w.heap.size 0 (#[.int .u64 0, .int .i64 0, .int .i64 0, .int .i64 0, .int .i64 0, .int .u64 0, .int .u64 0, .int .u64 0, .int .u64 0, .int .u64 0, .int .u64 0, .int .u64 0, .int .u64 0, .int .u64 0, .int .u64 0, .int .u64 0, .int .u64 0, .int .u64 0, .int .u64 0, .int .u64 0, .int .u64 0, .int .u64 0, .int .u64 0, .slice none 0 0] : Array Value).size) := Lib.hid (z1.thereN 24 rfl)
  have zZ := Ag.set (vs := (#[.int .u64 0, .int .i64 0, .int .i64 0, .int .i64 0, .int .i64 0, .int .u64 0, .int .u64 0, .int .u64 0, .int .u64 0, .int .u64 0, .int .u64 0, .int .u64 0, .int .u64 0, .int .u64 0, .int .u64 0, .int .u64 0, .int .u64 0, .int .u64 0, .int .u64 0, .int .u64 0, .int .u64 0, .int .u64 0, .int .u64 0, .slice none 0 0] : Array Value).toList) z1 rfl
  have gZ := setCells_grew (o := 0) (b := w.heap.size) (#[.int .u64 0, .int .i64 0, .int .i64 0, .int .i64 0, .int .i64 0, .int .u64 0, .int .u64 0, .int .u64 0, .int .u64 0, .int .u64 0, .int .u64 0, .int .u64 0, .int .u64 0, .int .u64 0, .int .u64 0, .int .u64 0, .int .u64 0, .int .u64 0, .int .u64 0, .int .u64 0, .int .u64 0, .int .u64 0, .int .u64 0, .slice none 0 0] : Array Value).toList g1 (Nat.le_refl _)
  clear CS z0 g0 gg z1 g1
  rcases hs with ⟨h1, rfl⟩ | ⟨l, h1, ⟨h2, rfl⟩ | ⟨h2, v, rfl, o1⟩⟩
  · have HE := Lib.hid (stE_none h1)
    clear h1
    go_wp2_with (first
      | (with_reducible refine wpList_store_mid rfl 30 (.tmp 2) (.tmp 19) rfl w.heap.size 0 (#[.int .u64 0, .int .i64 0, .int .i64 0, .int .i64 0, .int .i64 0, .int .u64 0, .int .u64 0, .int .u64 0, .int .u64 0, .int .u64 0, .int .u64 0, .int .u64 0, .int .u64 0, .int .u64 0, .int .u64 0, .int .u64 0, .int .u64 0, .int .u64 0, .int .u64 0, .int .u64 0, .int .u64 0, .int .u64 0, .int .u64 0, .slice none 0 0]) rfl rfl HTH.out HSI.out HON.out ?_)
      | (go_at_call 90; refine (small_is n1 _ SM.out _).mono ?_; rintro e z ⟨rfl, hz⟩; rw [hz]; clear hz))
    exact bodyPost_ret (results_ag2 Tryz.results29 _ _ w.heap.size _ _ _ rfl rfl zZ hut rfl HSIL.out) rfl ⟨⟨none, 0, by rw [HE.out.1, HE.out.2]; rfl, by rw [HE.out.2]; exact fun k hk => absurd hk (by simp [StR.zero, u64L]), fun ad h => by cases h⟩, gZ⟩
  · have HE := Lib.hid (stE_long h1 h2)
    clear h1 h2
    go_wp2_with (first
      | (with_reducible refine wpList_store_mid rfl 30 (.tmp 2) (.tmp 19) rfl w.heap.size 0 (#[.int .u64 0, .int .i64 0, .int .i64 0, .int .i64 0, .int .i64 0, .int .u64 0, .int .u64 0, .int .u64 0, .int .u64 0, .int .u64 0, .int .u64 0, .int .u64 0, .int .u64 0, .int .u64 0, .int .u64 0, .int .u64 0, .int .u64 0, .int .u64 0, .int .u64 0, .int .u64 0, .int .u64 0, .int .u64 0, .int .u64 0, .slice none 0 0]) rfl rfl HTH.out HSI.out HON.out ?_)
      | (go_at_call 90; refine (small_is n1 _ SM.out _).mono ?_; rintro e z ⟨rfl, hz⟩; rw [hz]; clear hz))
    exact bodyPost_ret (results_ag2 Tryz.results29 _ _ w.heap.size _ _ _ rfl rfl zZ hut rfl HSIL.out) rfl ⟨⟨none, 0, by rw [HE.out.1, HE.out.2]; rfl, by rw [HE.out.2]; exact fun k hk => absurd hk (by simp [StR.zero, u64L]), fun ad h => by cases h⟩, gZ⟩
  · have hl4 : l.length ≠ 4 := fun h4 => by
      match l, h4 with
      | [a, b, c, d], _ => exact hno a b c d h1
    have HE := Lib.hid (stE_len h1 h2 hl4)
    obtain ⟨A4, c4, rfl, -, -, -⟩ := own_rd o1
    have e4 : ((l.length : Int) != 4) = true := by simp; omega
    clear o1 h1 h2 hl4
    go_wp2_with (first
      | (with_reducible refine wpList_store_mid rfl 30 (.tmp 2) (.tmp 24) rfl w.heap.size 0 (#[.int .u64 0, .int .i64 0, .int .i64 0, .int .i64 0, .int .i64 0, .int .u64 0, .int .u64 0, .int .u64 0, .int .u64 0, .int .u64 0, .int .u64 0, .int .u64 0, .int .u64 0, .int .u64 0, .int .u64 0, .int .u64 0, .int .u64 0, .int .u64 0, .int .u64 0, .int .u64 0, .int .u64 0, .int .u64 0, .int .u64 0, .slice none 0 0]) rfl rfl HTH.out HSI.out HON.out ?_)
      | (go_at_call 90; refine (small_is n1 _ SM.out _).mono ?_; rintro e z ⟨rfl, hz⟩; rw [hz]; clear hz))
    exact bodyPost_ret (results_ag2 Tryz.results29 _ _ w.heap.size _ _ _ rfl rfl zZ hut rfl HSIL.out) rfl ⟨⟨none, 0, by rw [HE.out.1, HE.out.2]; rfl, by rw [HE.out.2]; exact fun k hk => absurd hk (by simp [StR.zero, u64L]), fun ad h => by cases h⟩, gZ⟩
set_option maxRecDepth 100000 in
set_option maxHeartbeats 4000000 in
theorem rstparse_four (tj : ByteArray) (x0 x1 x2 x3 : List UInt8) (hsp : splitF tj.data.toList = some [x0, x1, x2, x3]) (hz : tj.size ≤ 1000000) (l0 : x0.length ≤ 1000000) (l1 : x1.length ≤ 1000000) (l2 : x2.length ≤ 1000000) (l3 : x3.length ≤ 1000000) (w : World)  :
    Calls Tryz.prog 29 #[.string tj] w fun e w' => (∃ A c, e = .returned (.tuple #[.agg ((stO tj.data.toList).v (.slice A (stO tj.data.toList).g.2.2.length c)), .int .i64 (stE tj.data.toList)]) ∧ Rd w' w'.heap.size A (u64L (stO tj.data.toList).g.2.2) ∧ (∀ ad, A = some ad → w.heap.size < ad.block)) ∧ Grew w w' := by
  have HE0 := stE_four hsp
  have CS := Lib.hid (fun W => rsplit_some (s := tj) (l := [x0, x1, x2, x3]) hsp (by simp) (by omega) W)
  rw [show txt [x0, x1, x2, x3] = [⟨x0.toArray⟩, ⟨x1.toArray⟩, ⟨x2.toArray⟩, ⟨x3.toArray⟩] from rfl] at CS
  have N1 := (fun W => rparse_ok ⟨x1.toArray⟩ (by show x1.toArray.size ≤ _; simp; omega) W)
  have N2 := (fun W => rparse_ok ⟨x2.toArray⟩ (by show x2.toArray.size ≤ _; simp; omega) W)
  have HP := (fun W => rparse_any ⟨x0.toArray⟩ W)
  have KP := (fun W => rps_fr2 ⟨x3.toArray⟩ (by show x3.toArray.size ≤ _; simp; omega) W)
  unfold st4 stF at HE0
  simp only [show (⟨x0.toArray⟩ : ByteArray).data.toList = x0 from rfl, show (⟨x1.toArray⟩ : ByteArray).data.toList = x1 from rfl, show (⟨x2.toArray⟩ : ByteArray).data.toList = x2 from rfl, show (⟨x3.toArray⟩ : ByteArray).data.toList = x3 from rfl, pnumRes] at N1 N2 HP KP
  clear hsp
  generalize (⟨x0.toArray⟩ : ByteArray) = t0 at *
  generalize (⟨x1.toArray⟩ : ByteArray) = t1 at *
  generalize (⟨x2.toArray⟩ : ByteArray) = t2 at *
  generalize (⟨x3.toArray⟩ : ByteArray) = t3 at *
  generalize (pnum x1).1 = n1 at *
  generalize (pnum x1).2 = a1 at *
  generalize (pnum x2).1 = n2 at *
  generalize (pnum x2).2 = a2 at *
  generalize parseO x0 = o0 at *
  have HO3 : Hid (sgE (sigP x3) = if (sigP x3).isSome = true then 0 else 2) := Lib.hid rfl
  generalize sgE (sigP x3) = e3 at *
  generalize (sigP x3).isSome = b3 at *
  generalize sgO (sigP x3) = X at *
  obtain ⟨⟨sw, lf⟩, s, l⟩ := X
  dsimp only at KP HE0
  replace N1 := Lib.hid N1
  replace N2 := Lib.hid N2
  replace HP := Lib.hid HP
  replace KP := Lib.hid KP
  replace HE0 := Lib.hid HE0
  have HEZ : ∀ b : Bool, b = false → stE tj.data.toList = (if b = true then 0 else 2) ∧ stO tj.data.toList = (if b = true then (⟨o0.getD 0, n1, n2, ((sw, lf), s, l)⟩ : StR) else .zero) → Hid (stE tj.data.toList = 2 ∧ stO tj.data.toList = .zero) := fun b hb h => Lib.hid (by rw [hb] at h; exact h)
  generalize stE tj.data.toList = eS at *
  generalize stO tj.data.toList = oS at *
  clear l0 l1 l2 l3 hz
  have hut := Tryz.underlying30
  have hus := Tryz.underlying28
  have bz : ∀ W, (Instr.build 30 #[]).run Tryz.prog W = .ok (.agg (#[.int .u64 0, .int .i64 0, .int .i64 0, .int .i64 0, .int .i64 0, .int .u64 0, .int .u64 0, .int .u64 0, .int .u64 0, .int .u64 0, .int .u64 0, .int .u64 0, .int .u64 0, .int .u64 0, .int .u64 0, .int .u64 0, .int .u64 0, .int .u64 0, .int .u64 0, .int .u64 0, .int .u64 0, .int .u64 0, .int .u64 0, .slice none 0 0])) W := fun W => run_build W 30 #[] _ rst_zero
  have HSI : Hid ((Tryz.prog.info? 30).map (·.size) = some (#[.int .u64 0, .int .i64 0, .int .i64 0, .int .i64 0, .int .i64 0, .int .u64 0, .int .u64 0, .int .u64 0, .int .u64 0, .int .u64 0, .int .u64 0, .int .u64 0, .int .u64 0, .int .u64 0, .int .u64 0, .int .u64 0, .int .u64 0, .int .u64 0, .int .u64 0, .int .u64 0, .int .u64 0, .int .u64 0, .int .u64 0, .slice none 0 0] : Array Value).size) := Lib.hid rst_info
  have HSIL : Hid ((Tryz.prog.info? 30).map (·.size) = some (#[.int .u64 0, .int .i64 0, .int .i64 0, .int .i64 0, .int .i64 0, .int .u64 0, .int .u64 0, .int .u64 0, .int .u64 0, .int .u64 0, .int .u64 0, .int .u64 0, .int .u64 0, .int .u64 0, .int .u64 0, .int .u64 0, .int .u64 0, .int .u64 0, .int .u64 0, .int .u64 0, .int .u64 0, .int .u64 0, .int .u64 0, .slice none 0 0] : Array Value).toList.length) := Lib.hid rst_info
  have HON : Hid ((#[.int .u64 0, .int .i64 0, .int .i64 0, .int .i64 0, .int .i64 0, .int .u64 0, .int .u64 0, .int .u64 0, .int .u64 0, .int .u64 0, .int .u64 0, .int .u64 0, .int .u64 0, .int .u64 0, .int .u64 0, .int .u64 0, .int .u64 0, .int .u64 0, .int .u64 0, .int .u64 0, .int .u64 0, .int .u64 0, .int .u64 0, .slice none 0 0] : Array Value).all (·.oneCell') = true) := Lib.hid (by simp [Value.oneCell'])
  have z0 := Ag.new w 30 (#[.int .u64 0, .int .i64 0, .int .i64 0, .int .i64 0, .int .i64 0, .int .u64 0, .int .u64 0, .int .u64 0, .int .u64 0, .int .u64 0, .int .u64 0, .int .u64 0, .int .u64 0, .int .u64 0, .int .u64 0, .int .u64 0, .int .u64 0, .int .u64 0, .int .u64 0, .int .u64 0, .int .u64 0, .int .u64 0, .int .u64 0, .slice none 0 0])
  have g0 := grew_alloc (grew_refl w) (.cells (#[.int .u64 0, .int .i64 0, .int .i64 0, .int .i64 0, .int .i64 0, .int .u64 0, .int .u64 0, .int .u64 0, .int .u64 0, .int .u64 0, .int .u64 0, .int .u64 0, .int .u64 0, .int .u64 0, .int .u64 0, .int .u64 0, .int .u64 0, .int .u64 0, .int .u64 0, .int .u64 0, .int .u64 0, .int .u64 0, .int .u64 0, .slice none 0 0]) 30)
  go_enter Tryz.func29, Tryz.ntmps29
  go_wp2_with fail
  refine (CS.out _).mono ?_
  rintro e w1 ⟨⟨v1, rfl, o1⟩, gg⟩
  have z1 := z0.grew gg
  have g1 := grew_trans g0 gg
  obtain ⟨g, k1, rfl, hk1, hgl, hcs⟩ := own_cells o1 (by simp)
  have x0 : w1.cell? ⟨g, 0, none⟩ = some (.string t0) := by simpa using hcs 0 (.string t0) rfl
  have x1 : w1.cell? ⟨g, 1, none⟩ = some (.string t1) := by simpa using hcs 1 (.string t1) rfl
  have x2 : w1.cell? ⟨g, 2, none⟩ = some (.string t2) := by simpa using hcs 2 (.string t2) rfl
  have x3 : w1.cell? ⟨g, 3, none⟩ = some (.string t3) := by simpa using hcs 3 (.string t3) rfl
  clear CS z0 g0 gg o1 hcs
  have hk1' : (4 : Int) ≤ (k1 : Int) := by
    have : 4 ≤ k1 := hk1
    omega
  go_wp2_with fail
  refine (N1.out _).mono ?_
  rintro e w2 ⟨rfl, hw2⟩
  have gg : Grew w1 w2 := by rw [hw2]; exact grew_refl _
  clear hw2
  have y0 := (gg.cell (p := ⟨g, 0, none⟩) hgl).trans x0
  have y2 := (gg.cell (p := ⟨g, 2, none⟩) hgl).trans x2
  have y3 := (gg.cell (p := ⟨g, 3, none⟩) hgl).trans x3
  have hgl2 := Nat.lt_of_lt_of_le hgl gg.size
  have z2 := z1.grew gg
  have g2 := grew_trans g1 gg
  clear N1 x0 x1 x2 x3 z1 g1 gg hgl
  go_wp2_with fail
  refine (N2.out _).mono ?_
  rintro e w3 ⟨rfl, hw3⟩
  have gg : Grew w2 w3 := by rw [hw3]; exact grew_refl _
  clear hw3
  have x0 := (gg.cell (p := ⟨g, 0, none⟩) hgl2).trans y0
  have x3 := (gg.cell (p := ⟨g, 3, none⟩) hgl2).trans y3
  have hgl3 := Nat.lt_of_lt_of_le hgl2 gg.size
  have z3 := z2.grew gg
  have g3 := grew_trans g2 gg
  clear N2 y0 y2 y3 z2 g2 gg hgl2
  by_cases h1 : a1 = 0
  case neg =>
    have HE := HEZ _ (by simp [h1]) HE0.out
    have e1 : (a1 != 0) = true := by simpa using h1
    clear h1 HE0
    have HTH : Hid (w3.there w.heap.size 0 (#[.int .u64 0, .int .i64 0, .int .i64 0, .int .i64 0, .int .i64 0, .int .u64 0, .int .u64 0, .int .u64 0, .int .u64 0, .int .u64 0, .int .u64 0, .int .u64 0, .int .u64 0, .int .u64 0, .int .u64 0, .int .u64 0, .int .u64 0, .int .u64 0, .int .u64 0, .int .u64 0, .int .u64 0, .int .u64 0, .int .u64 0, .slice none 0 0] : Array Value).size) := Lib.hid (z3.thereN 24 rfl)
    have zZ := Ag.set (vs := (#[.int .u64 0, .int .i64 0, .int .i64 0, .int .i64 0, .int .i64 0, .int .u64 0, .int .u64 0, .int .u64 0, .int .u64 0, .int .u64 0, .int .u64 0, .int .u64 0, .int .u64 0, .int .u64 0, .int .u64 0, .int .u64 0, .int .u64 0, .int .u64 0, .int .u64 0, .int .u64 0, .int .u64 0, .int .u64 0, .int .u64 0, .slice none 0 0] : Array Value).toList) z3 rfl
    have gZ := setCells_grew (o := 0) (b := w.heap.size) (#[.int .u64 0, .int .i64 0, .int .i64 0, .int .i64 0, .int .i64 0, .int .u64 0, .int .u64 0, .int .u64 0, .int .u64 0, .int .u64 0, .int .u64 0, .int .u64 0, .int .u64 0, .int .u64 0, .int .u64 0, .int .u64 0, .int .u64 0, .int .u64 0, .int .u64 0, .int .u64 0, .int .u64 0, .int .u64 0, .int .u64 0, .slice none 0 0] : Array Value).toList g3 (Nat.le_refl _)
    go_wp2_with (first
      | (with_reducible refine wpList_store_mid rfl 30 (.tmp 2) (.tmp 50) rfl w.heap.size 0 (#[.int .u64 0, .int .i64 0, .int .i64 0, .int .i64 0, .int .i64 0, .int .u64 0, .int .u64 0, .int .u64 0, .int .u64 0, .int .u64 0, .int .u64 0, .int .u64 0, .int .u64 0, .int .u64 0, .int .u64 0, .int .u64 0, .int .u64 0, .int .u64 0, .int .u64 0, .int .u64 0, .int .u64 0, .int .u64 0, .int .u64 0, .slice none 0 0]) rfl rfl HTH.out HSI.out HON.out ?_)
      | (go_at_call 90; refine (small_is n1 _ SM.out _).mono ?_; rintro e z ⟨rfl, hz⟩; rw [hz]; clear hz))
    exact bodyPost_ret (results_ag2 Tryz.results29 _ _ w.heap.size _ _ _ rfl rfl zZ hut rfl HSIL.out) rfl ⟨⟨none, 0, by rw [HE.out.1, HE.out.2]; rfl, by rw [HE.out.2]; exact fun k hk => absurd hk (by simp [StR.zero, u64L]), fun ad h => by cases h⟩, gZ⟩
  subst h1
  by_cases h2 : a2 = 0
  case neg =>
    have HE := HEZ _ (by simp [h2]) HE0.out
    have e1 : (a2 != 0) = true := by simpa using h2
    clear h2 HE0
    have HTH : Hid (w3.there w.heap.size 0 (#[.int .u64 0, .int .i64 0, .int .i64 0, .int .i64 0, .int .i64 0, .int .u64 0, .int .u64 0, .int .u64 0, .int .u64 0, .int .u64 0, .int .u64 0, .int .u64 0, .int .u64 0, .int .u64 0, .int .u64 0, .int .u64 0, .int .u64 0, .int .u64 0, .int .u64 0, .int .u64 0, .int .u64 0, .int .u64 0, .int .u64 0, .slice none 0 0] : Array Value).size) := Lib.hid (z3.thereN 24 rfl)
    have zZ := Ag.set (vs := (#[.int .u64 0, .int .i64 0, .int .i64 0, .int .i64 0, .int .i64 0, .int .u64 0, .int .u64 0, .int .u64 0, .int .u64 0, .int .u64 0, .int .u64 0, .int .u64 0, .int .u64 0, .int .u64 0, .int .u64 0, .int .u64 0, .int .u64 0, .int .u64 0, .int .u64 0, .int .u64 0, .int .u64 0, .int .u64 0, .int .u64 0, .slice none 0 0] : Array Value).toList) z3 rfl
    have gZ := setCells_grew (o := 0) (b := w.heap.size) (#[.int .u64 0, .int .i64 0, .int .i64 0, .int .i64 0, .int .i64 0, .int .u64 0, .int .u64 0, .int .u64 0, .int .u64 0, .int .u64 0, .int .u64 0, .int .u64 0, .int .u64 0, .int .u64 0, .int .u64 0, .int .u64 0, .int .u64 0, .int .u64 0, .int .u64 0, .int .u64 0, .int .u64 0, .int .u64 0, .int .u64 0, .slice none 0 0] : Array Value).toList g3 (Nat.le_refl _)
    go_wp2_with (first
      | (with_reducible refine wpList_store_mid rfl 30 (.tmp 2) (.tmp 50) rfl w.heap.size 0 (#[.int .u64 0, .int .i64 0, .int .i64 0, .int .i64 0, .int .i64 0, .int .u64 0, .int .u64 0, .int .u64 0, .int .u64 0, .int .u64 0, .int .u64 0, .int .u64 0, .int .u64 0, .int .u64 0, .int .u64 0, .int .u64 0, .int .u64 0, .int .u64 0, .int .u64 0, .int .u64 0, .int .u64 0, .int .u64 0, .int .u64 0, .slice none 0 0]) rfl rfl HTH.out HSI.out HON.out ?_)
      | (go_at_call 90; refine (small_is n1 _ SM.out _).mono ?_; rintro e z ⟨rfl, hz⟩; rw [hz]; clear hz))
    exact bodyPost_ret (results_ag2 Tryz.results29 _ _ w.heap.size _ _ _ rfl rfl zZ hut rfl HSIL.out) rfl ⟨⟨none, 0, by rw [HE.out.1, HE.out.2]; rfl, by rw [HE.out.2]; exact fun k hk => absurd hk (by simp [StR.zero, u64L]), fun ad h => by cases h⟩, gZ⟩
  subst h2
  by_cases h3 : -2147483648 ≤ n1 ∧ n1 ≤ 2147483647
  case neg =>
    have HE := HEZ _ (by simp [smallB, h3]) HE0.out
    have SM : Hid (decide (smallC n1) = false) := Lib.hid (decide_eq_false (by unfold smallC; omega))
    clear HE0
    have HTH : Hid (w3.there w.heap.size 0 (#[.int .u64 0, .int .i64 0, .int .i64 0, .int .i64 0, .int .i64 0, .int .u64 0, .int .u64 0, .int .u64 0, .int .u64 0, .int .u64 0, .int .u64 0, .int .u64 0, .int .u64 0, .int .u64 0, .int .u64 0, .int .u64 0, .int .u64 0, .int .u64 0, .int .u64 0, .int .u64 0, .int .u64 0, .int .u64 0, .int .u64 0, .slice none 0 0] : Array Value).size) := Lib.hid (z3.thereN 24 rfl)
    have zZ := Ag.set (vs := (#[.int .u64 0, .int .i64 0, .int .i64 0, .int .i64 0, .int .i64 0, .int .u64 0, .int .u64 0, .int .u64 0, .int .u64 0, .int .u64 0, .int .u64 0, .int .u64 0, .int .u64 0, .int .u64 0, .int .u64 0, .int .u64 0, .int .u64 0, .int .u64 0, .int .u64 0, .int .u64 0, .int .u64 0, .int .u64 0, .int .u64 0, .slice none 0 0] : Array Value).toList) z3 rfl
    have gZ := setCells_grew (o := 0) (b := w.heap.size) (#[.int .u64 0, .int .i64 0, .int .i64 0, .int .i64 0, .int .i64 0, .int .u64 0, .int .u64 0, .int .u64 0, .int .u64 0, .int .u64 0, .int .u64 0, .int .u64 0, .int .u64 0, .int .u64 0, .int .u64 0, .int .u64 0, .int .u64 0, .int .u64 0, .int .u64 0, .int .u64 0, .int .u64 0, .int .u64 0, .int .u64 0, .slice none 0 0] : Array Value).toList g3 (Nat.le_refl _)
    clear h3
    go_wp2_with (first
      | (with_reducible refine wpList_store_mid rfl 30 (.tmp 2) (.tmp 50) rfl w.heap.size 0 (#[.int .u64 0, .int .i64 0, .int .i64 0, .int .i64 0, .int .i64 0, .int .u64 0, .int .u64 0, .int .u64 0, .int .u64 0, .int .u64 0, .int .u64 0, .int .u64 0, .int .u64 0, .int .u64 0, .int .u64 0, .int .u64 0, .int .u64 0, .int .u64 0, .int .u64 0, .int .u64 0, .int .u64 0, .int .u64 0, .int .u64 0, .slice none 0 0]) rfl rfl HTH.out HSI.out HON.out ?_)
      | (go_at_call 90; refine (small_is n1 _ SM.out _).mono ?_; rintro e z ⟨rfl, hz⟩; rw [hz]; clear hz))
    exact bodyPost_ret (results_ag2 Tryz.results29 _ _ w.heap.size _ _ _ rfl rfl zZ hut rfl HSIL.out) rfl ⟨⟨none, 0, by rw [HE.out.1, HE.out.2]; rfl, by rw [HE.out.2]; exact fun k hk => absurd hk (by simp [StR.zero, u64L]), fun ad h => by cases h⟩, gZ⟩
  have hw1 : ¬ n1 < -2147483648 := by omega
  have hw2 : ¬ 2147483647 < n1 := by omega
  have SM : Hid (decide (smallC n1) = true) := Lib.hid (decide_eq_true (by unfold smallC; omega))
  have HB3 : Hid (smallB n1 = true) := Lib.hid (decide_eq_true h3)
  clear h3
  go_wp2_with (go_at_call 90; refine (small_is n1 _ SM.out _).mono ?_; rintro e z ⟨rfl, hz⟩; rw [hz]; clear hz)
  refine (HP.out _).mono ?_
  rintro e v3 ⟨rfl, rfl⟩
  cases o0 with
  | none =>
    have HE := HEZ _ (by simp) HE0.out
    clear HE0
    have HTH : Hid (w3.there w.heap.size 0 (#[.int .u64 0, .int .i64 0, .int .i64 0, .int .i64 0, .int .i64 0, .int .u64 0, .int .u64 0, .int .u64 0, .int .u64 0, .int .u64 0, .int .u64 0, .int .u64 0, .int .u64 0, .int .u64 0, .int .u64 0, .int .u64 0, .int .u64 0, .int .u64 0, .int .u64 0, .int .u64 0, .int .u64 0, .int .u64 0, .int .u64 0, .slice none 0 0] : Array Value).size) := Lib.hid (z3.thereN 24 rfl)
    have zZ := Ag.set (vs := (#[.int .u64 0, .int .i64 0, .int .i64 0, .int .i64 0, .int .i64 0, .int .u64 0, .int .u64 0, .int .u64 0, .int .u64 0, .int .u64 0, .int .u64 0, .int .u64 0, .int .u64 0, .int .u64 0, .int .u64 0, .int .u64 0, .int .u64 0, .int .u64 0, .int .u64 0, .int .u64 0, .int .u64 0, .int .u64 0, .int .u64 0, .slice none 0 0] : Array Value).toList) z3 rfl
    have gZ := setCells_grew (o := 0) (b := w.heap.size) (#[.int .u64 0, .int .i64 0, .int .i64 0, .int .i64 0, .int .i64 0, .int .u64 0, .int .u64 0, .int .u64 0, .int .u64 0, .int .u64 0, .int .u64 0, .int .u64 0, .int .u64 0, .int .u64 0, .int .u64 0, .int .u64 0, .int .u64 0, .int .u64 0, .int .u64 0, .int .u64 0, .int .u64 0, .int .u64 0, .int .u64 0, .slice none 0 0] : Array Value).toList g3 (Nat.le_refl _)
    rw [parseRes_none]
    go_wp2_with (first
      | (with_reducible refine wpList_store_mid rfl 30 (.tmp 2) (.tmp 60) rfl w.heap.size 0 (#[.int .u64 0, .int .i64 0, .int .i64 0, .int .i64 0, .int .i64 0, .int .u64 0, .int .u64 0, .int .u64 0, .int .u64 0, .int .u64 0, .int .u64 0, .int .u64 0, .int .u64 0, .int .u64 0, .int .u64 0, .int .u64 0, .int .u64 0, .int .u64 0, .int .u64 0, .int .u64 0, .int .u64 0, .int .u64 0, .int .u64 0, .slice none 0 0]) rfl rfl HTH.out HSI.out HON.out ?_)
      | (go_at_call 90; refine (small_is n1 _ SM.out _).mono ?_; rintro e z ⟨rfl, hz⟩; rw [hz]; clear hz))
    exact bodyPost_ret (results_ag2 Tryz.results29 _ _ w.heap.size _ _ _ rfl rfl zZ hut rfl HSIL.out) rfl ⟨⟨none, 0, by rw [HE.out.1, HE.out.2]; rfl, by rw [HE.out.2]; exact fun k hk => absurd hk (by simp [StR.zero, u64L]), fun ad h => by cases h⟩, gZ⟩
  | some cm =>
    rw [parseRes_some]
    go_wp2_with fail
    refine (KP.out _).mono ?_
    rintro e w4 ⟨⟨A, c, rfl, r4, hA4⟩, gg⟩
    have z4 := z3.grew gg
    have g4 := grew_trans g3 gg
    have HSI1 : Hid ((Tryz.prog.info? 28).map (·.size) = some (sgC sw lf s (.slice A l.length c)).size) := Lib.hid rg_info
    have HSL1 : Hid ((Tryz.prog.info? 28).map (·.size) = some (sgC sw lf s (.slice A l.length c)).toList.length) := Lib.hid rg_info
    have HON1 := Lib.hid (sgC_one sw lf s A l.length c)
    have HBU := Lib.hid (rst_built cm n1 n2 sw lf s A l.length c)
    have zt := Ag.new w4 28 (#[.int .i64 0, .int .i64 0, .int .u64 0, .int .u64 0, .int .u64 0, .int .u64 0, .int .u64 0, .int .u64 0, .int .u64 0, .int .u64 0, .int .u64 0, .int .u64 0, .int .u64 0, .int .u64 0, .int .u64 0, .int .u64 0, .int .u64 0, .int .u64 0, .int .u64 0, .int .u64 0, .slice none 0 0])
    have HTH1 : Hid ((w4.alloc (.cells (#[.int .i64 0, .int .i64 0, .int .u64 0, .int .u64 0, .int .u64 0, .int .u64 0, .int .u64 0, .int .u64 0, .int .u64 0, .int .u64 0, .int .u64 0, .int .u64 0, .int .u64 0, .int .u64 0, .int .u64 0, .int .u64 0, .int .u64 0, .int .u64 0, .int .u64 0, .int .u64 0, .slice none 0 0]) 28)).there w4.heap.size 0 (sgC sw lf s (.slice A l.length c)).size) := Lib.hid (zt.thereN 21 rfl)
    have z5 := Ag.set (vs := (sgC sw lf s (.slice A l.length c)).toList) zt rfl
    have g5 : Grew w4 ((w4.alloc (.cells (#[.int .i64 0, .int .i64 0, .int .u64 0, .int .u64 0, .int .u64 0, .int .u64 0, .int .u64 0, .int .u64 0, .int .u64 0, .int .u64 0, .int .u64 0, .int .u64 0, .int .u64 0, .int .u64 0, .int .u64 0, .int .u64 0, .int .u64 0, .int .u64 0, .int .u64 0, .int .u64 0, .slice none 0 0]) 28)).setCells w4.heap.size 0 (sgC sw lf s (.slice A l.length c)).toList) := setCells_grew (o := 0) (b := w4.heap.size) (sgC sw lf s (.slice A l.length c)).toList (grew_alloc (grew_refl w4) _) (Nat.le_refl _)
    have z6 := z4.grew g5
    have r6 := r4.gr g5
    have g6 := grew_trans g4 g5
    obtain ⟨g1, hg1⟩ : ∃ g, sgC sw lf s (.slice A l.length c) = g := ⟨_, rfl⟩
    rw [hg1] at HSI1 HSL1 HON1 HTH1 HBU z5 z6 r6 g6 ⊢
    obtain ⟨w6, hw6⟩ : ∃ v, (w4.alloc (.cells (#[.int .i64 0, .int .i64 0, .int .u64 0, .int .u64 0, .int .u64 0, .int .u64 0, .int .u64 0, .int .u64 0, .int .u64 0, .int .u64 0, .int .u64 0, .int .u64 0, .int .u64 0, .int .u64 0, .int .u64 0, .int .u64 0, .int .u64 0, .int .u64 0, .int .u64 0, .int .u64 0, .slice none 0 0]) 28)).setCells w4.heap.size 0 g1.toList = v := ⟨_, rfl⟩
    rw [hw6] at z5 z6 r6 g6
    have HW6 := Lib.hid hw6
    have hm5 := z5.cell
    have hz3 := z3.lt
    have HFR : Hid (∀ ad, A = some ad → w.heap.size < ad.block) := Lib.hid (fun ad e => by have := hA4 ad e; omega)
    clear hz3 hA4 hw6 hg1 zt g5 x0 x3 z3 g3 z4 g4 gg r4 hgl3 KP HP
    cases b3 with
    | false =>
      have HE := HEZ _ (by simp) HE0.out
      have he3 : e3 = 2 := HO3.out
      subst he3
      clear HE0 HO3
      have HTH : Hid (w6.there w.heap.size 0 (#[.int .u64 0, .int .i64 0, .int .i64 0, .int .i64 0, .int .i64 0, .int .u64 0, .int .u64 0, .int .u64 0, .int .u64 0, .int .u64 0, .int .u64 0, .int .u64 0, .int .u64 0, .int .u64 0, .int .u64 0, .int .u64 0, .int .u64 0, .int .u64 0, .int .u64 0, .int .u64 0, .int .u64 0, .int .u64 0, .int .u64 0, .slice none 0 0] : Array Value).size) := Lib.hid (z6.thereN 24 rfl)
      have zZ := Ag.set (vs := (#[.int .u64 0, .int .i64 0, .int .i64 0, .int .i64 0, .int .i64 0, .int .u64 0, .int .u64 0, .int .u64 0, .int .u64 0, .int .u64 0, .int .u64 0, .int .u64 0, .int .u64 0, .int .u64 0, .int .u64 0, .int .u64 0, .int .u64 0, .int .u64 0, .int .u64 0, .int .u64 0, .int .u64 0, .int .u64 0, .int .u64 0, .slice none 0 0] : Array Value).toList) z6 rfl
      have gZ := setCells_grew (o := 0) (b := w.heap.size) (#[.int .u64 0, .int .i64 0, .int .i64 0, .int .i64 0, .int .i64 0, .int .u64 0, .int .u64 0, .int .u64 0, .int .u64 0, .int .u64 0, .int .u64 0, .int .u64 0, .int .u64 0, .int .u64 0, .int .u64 0, .int .u64 0, .int .u64 0, .int .u64 0, .int .u64 0, .int .u64 0, .int .u64 0, .int .u64 0, .int .u64 0, .slice none 0 0] : Array Value).toList g6 (Nat.le_refl _)
      go_wp2_with (first
        | (with_reducible refine wpList_store_mid rfl 28 (.tmp 11) (.tmp 67) rfl w4.heap.size 0 g1 rfl rfl HTH1.out HSI1.out HON1.out ?_; rw [HW6.out]; clear HW6 HTH1)
        | (with_reducible refine wpList_store_mid rfl 30 (.tmp 2) (.tmp 71) rfl w.heap.size 0 (#[.int .u64 0, .int .i64 0, .int .i64 0, .int .i64 0, .int .i64 0, .int .u64 0, .int .u64 0, .int .u64 0, .int .u64 0, .int .u64 0, .int .u64 0, .int .u64 0, .int .u64 0, .int .u64 0, .int .u64 0, .int .u64 0, .int .u64 0, .int .u64 0, .int .u64 0, .int .u64 0, .int .u64 0, .int .u64 0, .int .u64 0, .slice none 0 0]) rfl rfl HTH.out HSI.out HON.out ?_)
        | (go_at_call 90; refine (small_is n1 _ SM.out _).mono ?_; rintro e z ⟨rfl, hz⟩; rw [hz]; clear hz))
      exact bodyPost_ret (results_ag2 Tryz.results29 _ _ w.heap.size _ _ _ rfl rfl zZ hut rfl HSIL.out) rfl ⟨⟨none, 0, by rw [HE.out.1, HE.out.2]; rfl, by rw [HE.out.2]; exact fun k hk => absurd hk (by simp [StR.zero, u64L]), fun ad h => by cases h⟩, gZ⟩
    | true =>
      have he3 : e3 = 0 := HO3.out
      subst he3
      have HE : Hid (eS = 0 ∧ oS = ⟨cm, n1, n2, ((sw, lf), s, l)⟩) := Lib.hid (by have := HE0.out; simpa [HB3.out] using this)
      clear HE0 HO3
      have HTZ : Hid (w6.there w.heap.size 0 (stC cm n1 n2 sw lf s (.slice A l.length c)).size) := Lib.hid (z6.thereN 24 rfl)
      have HOZ := Lib.hid (stC_one cm n1 n2 sw lf s A l.length c)
      have HSZ : Hid ((Tryz.prog.info? 30).map (·.size) = some (stC cm n1 n2 sw lf s (.slice A l.length c)).size) := Lib.hid rst_info
      have HSZL : Hid ((Tryz.prog.info? 30).map (·.size) = some (stC cm n1 n2 sw lf s (.slice A l.length c)).toList.length) := Lib.hid rst_info
      have z7 := Ag.set (vs := (stC cm n1 n2 sw lf s (.slice A l.length c)).toList) z6 rfl
      have K7 := setCells_kp (stC cm n1 n2 sw lf s (.slice A l.length c)).toList w.heap.size 0 w6
      have G7 := setCells_grew (o := 0) (b := w.heap.size) (stC cm n1 n2 sw lf s (.slice A l.length c)).toList g6 (Nat.le_refl _)
      have R7 : Rd (w6.setCells w.heap.size 0 (stC cm n1 n2 sw lf s (.slice A l.length c)).toList) (w6.setCells w.heap.size 0 (stC cm n1 n2 sw lf s (.slice A l.length c)).toList).heap.size A (u64L l) :=
        (r6.kp K7 (Nat.le_refl _) (fun ad e1 _ (e3 : ad.block = w.heap.size) => by have := HFR.out ad e1; omega)).more K7.size
      obtain ⟨g2, hg2⟩ : ∃ g, stC cm n1 n2 sw lf s (.slice A l.length c) = g := ⟨_, rfl⟩
      have HG2' := Lib.hid hg2
      rw [hg2] at HTZ HOZ HSZ HSZL HBU z7 G7 R7
      clear z6 K7 r6 g6 hg2
      go_wp2_with (first
        | (with_reducible refine wpList_store_mid rfl 28 (.tmp 11) (.tmp 67) rfl w4.heap.size 0 g1 rfl rfl HTH1.out HSI1.out HON1.out ?_; rw [HW6.out]; clear HW6 HTH1)
        | (with_reducible refine wpList_load_mid rfl 28 (.tmp 11) rfl w4.heap.size 0 rfl g1.toList _ hm5 hus rfl HSL1.out ?_; simp only [Array.toArray_toList])
        | (with_reducible refine wpList_build_is rfl 30 #[(0, .tmp 73), (1, .tmp 74), (2, .tmp 75), (3, .tmp 76)] rfl g2 ?_ ?_; · simpa [Act.eval, Act.put] using HBU.out)
        | (with_reducible refine wpList_store_mid rfl 30 (.tmp 2) (.tmp 77) rfl w.heap.size 0 g2 rfl rfl HTZ.out HSZ.out HOZ.out ?_))
      exact bodyPost_ret (results_ag2 Tryz.results29 _ _ w.heap.size _ _ _ rfl rfl z7 hut rfl HSZL.out) rfl ⟨⟨A, c, by rw [HE.out.1, HE.out.2]; show Ending.returned (.tuple #[.agg g2.toList.toArray, .int .i64 0]) = _; rw [Array.toArray_toList, ← HG2'.out]; rfl, by rw [HE.out.2]; exact R7, HFR.out⟩, G7⟩
theorem rstparse_any (tj : ByteArray) (hz : tj.size ≤ 1000000) (w : World)  :
    Calls Tryz.prog 29 #[.string tj] w fun e w' => (∃ A c, e = .returned (.tuple #[.agg ((stO tj.data.toList).v (.slice A (stO tj.data.toList).g.2.2.length c)), .int .i64 (stE tj.data.toList)]) ∧ Rd w' w'.heap.size A (u64L (stO tj.data.toList).g.2.2) ∧ (∀ ad, A = some ad → w.heap.size < ad.block)) ∧ Grew w w' := by
  have hlen : tj.data.toList.length ≤ 1000000 := by rw [ba_len]; exact hz
  by_cases h4 : ∃ x0 x1 x2 x3, splitF tj.data.toList = some [x0, x1, x2, x3]
  · obtain ⟨x0, x1, x2, x3, hsp⟩ := h4
    have g := fun x hx => Nat.le_trans (split_ge hsp x hx) hlen
    exact rstparse_four tj x0 x1 x2 x3 hsp hz (g x0 (by simp)) (g x1 (by simp)) (g x2 (by simp)) (g x3 (by simp)) w 
  · exact rstparse_split tj hz (fun a b c d h => h4 ⟨a, b, c, d, h⟩) w
end Go.Proofs.YtaeopobofmpioaaGreatDoor

namespace Go.Proofs.YtaeopobofmpioaaGreatDoor
set_option linter.unusedSimpArgs false
set_option linter.unusedVariables false
open Go.RowKit
set_option linter.unusedVariables false
set_option linter.unusedSimpArgs false
structure AgT (w : World) (B : Nat) (cm : Nat) (who at_ sw lf : Int) (s : Nat → Nat) (l : List Nat) (v : Value) : Prop where
  out : ∃ A c, v = .agg (stC cm who at_ sw lf s (.slice A l.length c)) ∧ Rd w w.heap.size A (u64L l) ∧ (∀ ad, A = some ad → B ≤ ad.block)
theorem AgT.gr {w w' : World} {B cm : Nat} {who at_ sw lf : Int} {s : Nat → Nat} {l : List Nat} {v : Value} (h : AgT w B cm who at_ sw lf s l v) (g : Grew w w') : AgT w' B cm who at_ sw lf s l v := by
  obtain ⟨A, c, h1, h2, h3⟩ := h.out
  exact ⟨A, c, h1, h2.gr g, h3⟩
set_option maxRecDepth 100000 in
set_option maxHeartbeats 2000000 in
theorem kof_fr (who leaf : Int) (s : Nat → Nat) (A : Option Addr) (c : Nat) (l : List Nat) (hl : l.length ≤ 1048576) (w : World) (hr : Rd w w.heap.size A (u64L l)) :
    Calls Tryz.prog 94 #[.agg (sgC who leaf s (.slice A l.length c))] w fun e w' => ∃ A' c', e = .returned (.agg (sgC who leaf s (.slice A' l.length c'))) ∧ Rd w' w'.heap.size A' (u64L l) ∧ Grew w w' ∧ (∀ ad, A' = some ad → w.heap.size ≤ ad.block) := by
  have z0 := Ag.new w 42 (sgC who leaf s (.slice A l.length c))
  have G0 := grew_alloc (grew_refl w) (.cells (sgC who leaf s (.slice A l.length c)) 42)
  have hwz : w.heap.size < (w.alloc (.cells (sgC who leaf s (.slice A l.length c)) 42)).heap.size := z0.lt
  have HIA : Hid ((Tryz.prog.info? 40).map (·.size) = some (arrU s).toList.length) := Lib.hid (by rw [show (arrU s).toList.length = 18 by simp [arrU]]; kernel_rfl)
  have hua := Tryz.underlying40
  have hur := Tryz.underlying28
  go_enter Tryz.func94, Tryz.ntmps94
  go_wp2_with fail
  have z2 : Ag ((w.alloc (.cells (sgC who leaf s (.slice A l.length c)) 42)).alloc (.cells (#[.int .i64 0, .int .i64 0, .int .u64 0, .int .u64 0, .int .u64 0, .int .u64 0, .int .u64 0, .int .u64 0, .int .u64 0, .int .u64 0, .int .u64 0, .int .u64 0, .int .u64 0, .int .u64 0, .int .u64 0, .int .u64 0, .int .u64 0, .int .u64 0, .int .u64 0, .int .u64 0, .slice none 0 0]) 28)) (w.heap.size + 1) (#[.int .i64 0, .int .i64 0, .int .u64 0, .int .u64 0, .int .u64 0, .int .u64 0, .int .u64 0, .int .u64 0, .int .u64 0, .int .u64 0, .int .u64 0, .int .u64 0, .int .u64 0, .int .u64 0, .int .u64 0, .int .u64 0, .int .u64 0, .int .u64 0, .int .u64 0, .int .u64 0, .slice none 0 0] : Array Value).toList := by
    have := Ag.new (w.alloc (.cells (sgC who leaf s (.slice A l.length c)) 42)) 28 (#[.int .i64 0, .int .i64 0, .int .u64 0, .int .u64 0, .int .u64 0, .int .u64 0, .int .u64 0, .int .u64 0, .int .u64 0, .int .u64 0, .int .u64 0, .int .u64 0, .int .u64 0, .int .u64 0, .int .u64 0, .int .u64 0, .int .u64 0, .int .u64 0, .int .u64 0, .int .u64 0, .slice none 0 0])
    simpa using this
  have z1 := z0.grew (grew_alloc (grew_refl _) (.cells (#[.int .i64 0, .int .i64 0, .int .u64 0, .int .u64 0, .int .u64 0, .int .u64 0, .int .u64 0, .int .u64 0, .int .u64 0, .int .u64 0, .int .u64 0, .int .u64 0, .int .u64 0, .int .u64 0, .int .u64 0, .int .u64 0, .int .u64 0, .int .u64 0, .int .u64 0, .int .u64 0, .slice none 0 0]) 28))
  have G2 := grew_alloc G0 (.cells (#[.int .i64 0, .int .i64 0, .int .u64 0, .int .u64 0, .int .u64 0, .int .u64 0, .int .u64 0, .int .u64 0, .int .u64 0, .int .u64 0, .int .u64 0, .int .u64 0, .int .u64 0, .int .u64 0, .int .u64 0, .int .u64 0, .int .u64 0, .int .u64 0, .int .u64 0, .int .u64 0, .slice none 0 0]) 28)
  clear z0 G0 hwz
  generalize (w.alloc (.cells (sgC who leaf s (.slice A l.length c)) 42)).alloc (.cells (#[.int .i64 0, .int .i64 0, .int .u64 0, .int .u64 0, .int .u64 0, .int .u64 0, .int .u64 0, .int .u64 0, .int .u64 0, .int .u64 0, .int .u64 0, .int .u64 0, .int .u64 0, .int .u64 0, .int .u64 0, .int .u64 0, .int .u64 0, .int .u64 0, .int .u64 0, .int .u64 0, .slice none 0 0]) 28) = w2 at *
  have HC0 : Hid (∀ y, Grew w2 y → y.cell? ⟨w.heap.size, 0, none⟩ = some (.int .i64 who)) := Lib.hid (fun y g => by simpa using (z1.grew g).cell 0 _ rfl)
  have HC1 : Hid (∀ y, Grew w2 y → y.cell? ⟨w.heap.size, 1, none⟩ = some (.int .i64 leaf)) := Lib.hid (fun y g => by simpa using (z1.grew g).cell 1 _ rfl)
  have HC20 : Hid (∀ y, Grew w2 y → y.cell? ⟨w.heap.size, 20, none⟩ = some (.slice A l.length c)) := Lib.hid (fun y g => by simpa using (z1.grew g).cell 20 _ rfl)
  have HCM : Hid (∀ y, Grew w2 y → y.rangeAt w.heap.size 2 (arrU s).toList) := Lib.hid (fun y g => sg_mid (z1.grew g))
  have r2 := hr.gr G2
  have HRY := Lib.hid (fun y (g : Grew w2 y) => r2.gr g)
  clear z1 hr r2
  refine wp_region_rel 11 (fun i => match i with
      | 0 => fun v _ => v = .pointer (some ⟨w.heap.size, 0, none⟩)
      | 1 => fun v _ => v = .int .i64 who
      | 2 => fun v _ => v = .pointer (some ⟨w.heap.size, 1, none⟩)
      | 3 => fun v _ => v = .int .i64 leaf
      | 4 => fun v _ => v = .pointer (some ⟨w.heap.size, 2, none⟩)
      | 5 => fun v _ => v = .agg (arrU s)
      | 6 => fun v _ => v = .agg (arrU s)
      | 7 => fun v _ => v = .pointer (some ⟨w.heap.size, 20, none⟩)
      | 8 => fun v _ => v = .slice A l.length c
      | 9 => fun v w => PV w w2.heap.size l v
      | 10 => fun v w => AgS w w2.heap.size who leaf s l v
      | _ => fun _ _ => True) (by kernel_rfl) (by kernel_rfl) ?_ ?_ ?_
  · intro i v x y h hg
    match i, h with
    | 0, h | 1, h | 2, h | 3, h | 4, h | 5, h | 6, h | 7, h | 8, h => exact h
    | 9, h => exact PV.gr h hg
    | 10, h => exact AgS.gr h hg
    | m + 11, _ => trivial
  · refine ⟨?_, ?_, ?_, ?_, ?_, ?_, ?_, ?_, ?_, ?_, ?_, trivial⟩
    · intro vs y hg hd
      simp only [actOf, List.take_succ_cons, List.take_zero, List.drop_succ_cons, List.drop_zero, Act.put, List.setIfInBounds_toArray, List.set_cons_succ, List.set_cons_zero, Nat.reduceAdd]
      go_wp2_with fail
      exact ⟨rfl, _, rfl, grew_refl _, rfl⟩
    · intro vs y hg hd
      obtain ⟨h0, _⟩ := hd
      replace h0 := h0 rfl
      simp only [actOf, List.take_succ_cons, List.take_zero, List.drop_succ_cons, List.drop_zero, Act.put, List.setIfInBounds_toArray, List.set_cons_succ, List.set_cons_zero, Nat.reduceAdd]
      rw [show vs 0 = _ from h0]
      have hc := HC0.out y hg
      go_wp2_with fail
      exact ⟨rfl, _, rfl, grew_refl _, rfl⟩
    · intro vs y hg hd
      simp only [actOf, List.take_succ_cons, List.take_zero, List.drop_succ_cons, List.drop_zero, Act.put, List.setIfInBounds_toArray, List.set_cons_succ, List.set_cons_zero, Nat.reduceAdd]
      go_wp2_with fail
      exact ⟨rfl, _, rfl, grew_refl _, rfl⟩
    · intro vs y hg hd
      obtain ⟨h2, _⟩ := hd
      replace h2 := h2 rfl
      simp only [actOf, List.take_succ_cons, List.take_zero, List.drop_succ_cons, List.drop_zero, Act.put, List.setIfInBounds_toArray, List.set_cons_succ, List.set_cons_zero, Nat.reduceAdd]
      rw [show vs 2 = _ from h2]
      have hc := HC1.out y hg
      go_wp2_with fail
      exact ⟨rfl, _, rfl, grew_refl _, rfl⟩
    · intro vs y hg hd
      simp only [actOf, List.take_succ_cons, List.take_zero, List.drop_succ_cons, List.drop_zero, Act.put, List.setIfInBounds_toArray, List.set_cons_succ, List.set_cons_zero, Nat.reduceAdd]
      go_wp2_with fail
      exact ⟨rfl, _, rfl, grew_refl _, rfl⟩
    · intro vs y hg hd
      obtain ⟨h4, _⟩ := hd
      replace h4 := h4 rfl
      simp only [actOf, List.take_succ_cons, List.take_zero, List.drop_succ_cons, List.drop_zero, Act.put, List.setIfInBounds_toArray, List.set_cons_succ, List.set_cons_zero, Nat.reduceAdd]
      rw [show vs 4 = _ from h4]
      have hm := HCM.out y hg
      go_wp2_with (with_reducible refine wpList_load_mid rfl 40 (.tmp 7) rfl w.heap.size 2 rfl (arrU s).toList _ hm hua rfl HIA.out ?_)
      exact ⟨rfl, _, rfl, grew_refl _, rfl⟩
    · intro vs y hg hd
      obtain ⟨h5, _⟩ := hd
      replace h5 := h5 rfl
      simp only [actOf, List.take_succ_cons, List.take_zero, List.drop_succ_cons, List.drop_zero, Act.put, List.setIfInBounds_toArray, List.set_cons_succ, List.set_cons_zero, Nat.reduceAdd]
      rw [show vs 5 = _ from h5]
      go_wp2_with (go_at_call 145; refine (of_row s y).mono ?_; rintro e z ⟨rfl, gz⟩)
      exact ⟨rfl, _, rfl, gz, rfl⟩
    · intro vs y hg hd
      simp only [actOf, List.take_succ_cons, List.take_zero, List.drop_succ_cons, List.drop_zero, Act.put, List.setIfInBounds_toArray, List.set_cons_succ, List.set_cons_zero, Nat.reduceAdd]
      go_wp2_with fail
      exact ⟨rfl, _, rfl, grew_refl _, rfl⟩
    · intro vs y hg hd
      obtain ⟨h7, _⟩ := hd
      replace h7 := h7 rfl
      simp only [actOf, List.take_succ_cons, List.take_zero, List.drop_succ_cons, List.drop_zero, Act.put, List.setIfInBounds_toArray, List.set_cons_succ, List.set_cons_zero, Nat.reduceAdd]
      rw [show vs 7 = _ from h7]
      have hc := HC20.out y hg
      go_wp2_with fail
      exact ⟨rfl, _, rfl, grew_refl _, rfl⟩
    · intro vs y hg hd
      obtain ⟨h8, _⟩ := hd
      replace h8 := h8 rfl
      simp only [actOf, List.take_succ_cons, List.take_zero, List.drop_succ_cons, List.drop_zero, Act.put, List.setIfInBounds_toArray, List.set_cons_succ, List.set_cons_zero, Nat.reduceAdd]
      rw [show vs 8 = _ from h8]
      go_wp2_with (go_at_call 100; refine (mkof_any A c y.heap.size l hl y (HRY.out y hg) (Nat.le_refl _)).mono ?_; rintro e z ⟨A2, c2, rfl, hr9, hb9, gz⟩)
      exact ⟨rfl, _, rfl, gz, ⟨A2, c2, rfl, hr9, fun ad h => Nat.le_trans hg.size (hb9 ad h)⟩⟩
    · intro vs y hg hd
      obtain ⟨h1, h3, h6, h9, _⟩ := hd
      replace h1 := h1 rfl
      replace h3 := h3 rfl
      replace h6 := h6 rfl
      replace h9 := h9 rfl
      simp only [actOf, List.take_succ_cons, List.take_zero, List.drop_succ_cons, List.drop_zero, Act.put, List.setIfInBounds_toArray, List.set_cons_succ, List.set_cons_zero, Nat.reduceAdd]
      rw [show vs 1 = _ from h1, show vs 3 = _ from h3, show vs 6 = _ from h6]
      obtain ⟨A2, c2, hv, hr9, hb9⟩ := PV.out h9
      rw [hv]
      have hbu := rg_built who leaf s A2 l.length c2
      generalize arrU s = aa at *
      refine wpList_build_is rfl 28 #[(0, .tmp 4), (1, .tmp 6), (2, .tmp 9), (3, .tmp 12)] rfl _ (by simpa [Act.eval] using hbu) ?_
      go_wp2_with fail
      exact ⟨rfl, _, rfl, grew_refl _, ⟨A2, c2, rfl, hr9, hb9⟩⟩
  · intro vs y hg hJ
    have j0 : vs 0 = .pointer (some ⟨w.heap.size, 0, none⟩) := hJ 0 (by decide)
    have j1 : vs 1 = .int .i64 who := hJ 1 (by decide)
    have j2 : vs 2 = .pointer (some ⟨w.heap.size, 1, none⟩) := hJ 2 (by decide)
    have j3 : vs 3 = .int .i64 leaf := hJ 3 (by decide)
    have j4 : vs 4 = .pointer (some ⟨w.heap.size, 2, none⟩) := hJ 4 (by decide)
    have j5 : vs 5 = .agg (arrU s) := hJ 5 (by decide)
    have j6 : vs 6 = .agg (arrU s) := hJ 6 (by decide)
    have j7 : vs 7 = .pointer (some ⟨w.heap.size, 20, none⟩) := hJ 7 (by decide)
    have j8 : vs 8 = .slice A l.length c := hJ 8 (by decide)
    simp only [actOf, List.take_succ_cons, List.take_zero, List.drop_succ_cons, List.drop_zero, Act.put, List.setIfInBounds_toArray, List.set_cons_succ, List.set_cons_zero, Nat.reduceAdd]
    obtain ⟨A2, c2, j10, r3, hb3⟩ := AgS.out (show AgS y w2.heap.size who leaf s l (vs 10) from hJ 10 (by decide))
    rw [j10]
    clear hJ j0 j1 j2 j3 j4 j5 j6 j7 j8 j10
    have h2 := z2.lt
    have HLO : Hid (∀ ad, A2 = some ad → w.heap.size ≤ ad.block) := Lib.hid (fun ad h => by have := hb3 ad h; have := G2.size; omega)
    have HNE : Hid (∀ ad, A2 = some ad → ad.block ≠ w.heap.size + 1) := Lib.hid (fun ad h => by have := hb3 ad h; omega)
    have z3 := z2.grew hg
    have G3 := grew_trans G2 hg
    clear z2 G2 hg hb3 h2
    have HTH : Hid (y.there (w.heap.size + 1) 0 (sgC who leaf s (.slice A2 l.length c2)).size) := Lib.hid (z3.thereN 21 rfl)
    have HSI : Hid ((Tryz.prog.info? 28).map (·.size) = some (sgC who leaf s (.slice A2 l.length c2)).size) := Lib.hid rg_info
    have HON := Lib.hid (sgC_one who leaf s A2 l.length c2)
    have K3 := setCells_kp (sgC who leaf s (.slice A2 l.length c2)).toList (w.heap.size + 1) 0 y
    have r4 := (r3.kp K3 (Nat.le_refl _) (fun ad h1 h2 h3 => HNE.out ad h1 h3)).more K3.size
    have z4 := Ag.set (vs := (sgC who leaf s (.slice A2 l.length c2)).toList) z3 rfl
    have G4 := setCells_grew (o := 0) (b := w.heap.size + 1) (sgC who leaf s (.slice A2 l.length c2)).toList G3 (by omega)
    go_wp2_with (with_reducible refine wpList_store_mid rfl 28 (.tmp 2) (.tmp 13) rfl (w.heap.size + 1) 0 (sgC who leaf s (.slice A2 l.length c2)) rfl rfl HTH.out HSI.out HON.out ?_)
    exact bodyPost_ret (results_ag1 Tryz.results94 _ _ (w.heap.size + 1) _ _ rfl z4 hur rfl rg_info) rfl ⟨A2, ⟨c2, rfl⟩, r4, G4, HLO.out⟩
set_option maxRecDepth 100000 in
set_option maxHeartbeats 2000000 in
theorem stof_ok (cm : Nat) (who at_ sw lf : Int) (s : Nat → Nat) (A : Option Addr) (c : Nat) (l : List Nat) (hl : l.length ≤ 1048576) (w : World) (hr : Rd w w.heap.size A (u64L l)) :
    Calls Tryz.prog 31 #[.agg (stC cm who at_ sw lf s (.slice A l.length c))] w fun e w' => ∃ A' c', e = .returned (.agg (stC cm who at_ sw lf s (.slice A' l.length c'))) ∧ Rd w' w'.heap.size A' (u64L l) ∧ Grew w w' ∧ (∀ ad, A' = some ad → w.heap.size ≤ ad.block) := by
  have z0 := Ag.new w 44 (stC cm who at_ sw lf s (.slice A l.length c))
  have G0 := grew_alloc (grew_refl w) (.cells (stC cm who at_ sw lf s (.slice A l.length c)) 44)
  have hus := Tryz.underlying42
  have hur := Tryz.underlying30
  have CO := Lib.hid (fun W hR => kof_fr sw lf s A c l hl W hR)
  have HSL : Hid ((Tryz.prog.info? 42).map (·.size) = some (sgC sw lf s (.slice A l.length c)).toList.length) := Lib.hid sg_info
  go_enter Tryz.func31, Tryz.ntmps31
  go_wp2_with fail
  have z2 : Ag ((w.alloc (.cells (stC cm who at_ sw lf s (.slice A l.length c)) 44)).alloc (.cells (#[.int .u64 0, .int .i64 0, .int .i64 0, .int .i64 0, .int .i64 0, .int .u64 0, .int .u64 0, .int .u64 0, .int .u64 0, .int .u64 0, .int .u64 0, .int .u64 0, .int .u64 0, .int .u64 0, .int .u64 0, .int .u64 0, .int .u64 0, .int .u64 0, .int .u64 0, .int .u64 0, .int .u64 0, .int .u64 0, .int .u64 0, .slice none 0 0]) 30)) (w.heap.size + 1) (#[.int .u64 0, .int .i64 0, .int .i64 0, .int .i64 0, .int .i64 0, .int .u64 0, .int .u64 0, .int .u64 0, .int .u64 0, .int .u64 0, .int .u64 0, .int .u64 0, .int .u64 0, .int .u64 0, .int .u64 0, .int .u64 0, .int .u64 0, .int .u64 0, .int .u64 0, .int .u64 0, .int .u64 0, .int .u64 0, .int .u64 0, .slice none 0 0] : Array Value).toList := by
    have := Ag.new (w.alloc (.cells (stC cm who at_ sw lf s (.slice A l.length c)) 44)) 30 (#[.int .u64 0, .int .i64 0, .int .i64 0, .int .i64 0, .int .i64 0, .int .u64 0, .int .u64 0, .int .u64 0, .int .u64 0, .int .u64 0, .int .u64 0, .int .u64 0, .int .u64 0, .int .u64 0, .int .u64 0, .int .u64 0, .int .u64 0, .int .u64 0, .int .u64 0, .int .u64 0, .int .u64 0, .int .u64 0, .int .u64 0, .slice none 0 0])
    simpa using this
  have z1 := z0.grew (grew_alloc (grew_refl _) (.cells (#[.int .u64 0, .int .i64 0, .int .i64 0, .int .i64 0, .int .i64 0, .int .u64 0, .int .u64 0, .int .u64 0, .int .u64 0, .int .u64 0, .int .u64 0, .int .u64 0, .int .u64 0, .int .u64 0, .int .u64 0, .int .u64 0, .int .u64 0, .int .u64 0, .int .u64 0, .int .u64 0, .int .u64 0, .int .u64 0, .int .u64 0, .slice none 0 0]) 30))
  have G2 := grew_alloc G0 (.cells (#[.int .u64 0, .int .i64 0, .int .i64 0, .int .i64 0, .int .i64 0, .int .u64 0, .int .u64 0, .int .u64 0, .int .u64 0, .int .u64 0, .int .u64 0, .int .u64 0, .int .u64 0, .int .u64 0, .int .u64 0, .int .u64 0, .int .u64 0, .int .u64 0, .int .u64 0, .int .u64 0, .int .u64 0, .int .u64 0, .int .u64 0, .slice none 0 0]) 30)
  clear z0 G0
  generalize (w.alloc (.cells (stC cm who at_ sw lf s (.slice A l.length c)) 44)).alloc (.cells (#[.int .u64 0, .int .i64 0, .int .i64 0, .int .i64 0, .int .i64 0, .int .u64 0, .int .u64 0, .int .u64 0, .int .u64 0, .int .u64 0, .int .u64 0, .int .u64 0, .int .u64 0, .int .u64 0, .int .u64 0, .int .u64 0, .int .u64 0, .int .u64 0, .int .u64 0, .int .u64 0, .int .u64 0, .int .u64 0, .int .u64 0, .slice none 0 0]) 30) = w2 at *
  have HC0 : Hid (∀ y, Grew w2 y → y.cell? ⟨w.heap.size, 0, none⟩ = some (.int .u64 (cm : Nat))) := Lib.hid (fun y g => by simpa using (z1.grew g).cell 0 _ rfl)
  have HC1 : Hid (∀ y, Grew w2 y → y.cell? ⟨w.heap.size, 1, none⟩ = some (.int .i64 who)) := Lib.hid (fun y g => by simpa using (z1.grew g).cell 1 _ rfl)
  have HC2 : Hid (∀ y, Grew w2 y → y.cell? ⟨w.heap.size, 2, none⟩ = some (.int .i64 at_)) := Lib.hid (fun y g => by simpa using (z1.grew g).cell 2 _ rfl)
  have HCM : Hid (∀ y, Grew w2 y → y.rangeAt w.heap.size 3 (sgC sw lf s (.slice A l.length c)).toList) := Lib.hid (fun y g => st_sig (z1.grew g).cell)
  have r2 := hr.gr G2
  have HRY := Lib.hid (fun y (g : Grew w2 y) => r2.gr g)
  clear z1 hr r2
  generalize sgC sw lf s (.slice A l.length c) = gs at *
  refine wp_region_rel 10 (fun i => match i with
      | 0 => fun v _ => v = .pointer (some ⟨w.heap.size, 0, none⟩)
      | 1 => fun v _ => v = .int .u64 (cm : Nat)
      | 2 => fun v _ => v = .pointer (some ⟨w.heap.size, 1, none⟩)
      | 3 => fun v _ => v = .int .i64 who
      | 4 => fun v _ => v = .pointer (some ⟨w.heap.size, 2, none⟩)
      | 5 => fun v _ => v = .int .i64 at_
      | 6 => fun v _ => v = .pointer (some ⟨w.heap.size, 3, none⟩)
      | 7 => fun v _ => v = .agg gs
      | 8 => fun v w => AgS w w2.heap.size sw lf s l v
      | 9 => fun v w => AgT w w2.heap.size cm who at_ sw lf s l v
      | _ => fun _ _ => True) (by kernel_rfl) (by kernel_rfl) ?_ ?_ ?_
  · intro i v x y h hg
    match i, h with
    | 0, h | 1, h | 2, h | 3, h | 4, h | 5, h | 6, h | 7, h => exact h
    | 8, h => exact AgS.gr h hg
    | 9, h => exact AgT.gr h hg
    | m + 10, _ => trivial
  · refine ⟨?_, ?_, ?_, ?_, ?_, ?_, ?_, ?_, ?_, ?_, trivial⟩
    · intro vs y hg hd
      simp only [actOf, List.take_succ_cons, List.take_zero, List.drop_succ_cons, List.drop_zero, Act.put, List.setIfInBounds_toArray, List.set_cons_succ, List.set_cons_zero, Nat.reduceAdd]
      go_wp2_with fail
      exact ⟨rfl, _, rfl, grew_refl _, rfl⟩
    · intro vs y hg hd
      obtain ⟨h0, _⟩ := hd
      replace h0 := h0 rfl
      simp only [actOf, List.take_succ_cons, List.take_zero, List.drop_succ_cons, List.drop_zero, Act.put, List.setIfInBounds_toArray, List.set_cons_succ, List.set_cons_zero, Nat.reduceAdd]
      rw [show vs 0 = _ from h0]
      have hc := HC0.out y hg
      go_wp2_with fail
      exact ⟨rfl, _, rfl, grew_refl _, rfl⟩
    · intro vs y hg hd
      simp only [actOf, List.take_succ_cons, List.take_zero, List.drop_succ_cons, List.drop_zero, Act.put, List.setIfInBounds_toArray, List.set_cons_succ, List.set_cons_zero, Nat.reduceAdd]
      go_wp2_with fail
      exact ⟨rfl, _, rfl, grew_refl _, rfl⟩
    · intro vs y hg hd
      obtain ⟨h2, _⟩ := hd
      replace h2 := h2 rfl
      simp only [actOf, List.take_succ_cons, List.take_zero, List.drop_succ_cons, List.drop_zero, Act.put, List.setIfInBounds_toArray, List.set_cons_succ, List.set_cons_zero, Nat.reduceAdd]
      rw [show vs 2 = _ from h2]
      have hc := HC1.out y hg
      go_wp2_with fail
      exact ⟨rfl, _, rfl, grew_refl _, rfl⟩
    · intro vs y hg hd
      simp only [actOf, List.take_succ_cons, List.take_zero, List.drop_succ_cons, List.drop_zero, Act.put, List.setIfInBounds_toArray, List.set_cons_succ, List.set_cons_zero, Nat.reduceAdd]
      go_wp2_with fail
      exact ⟨rfl, _, rfl, grew_refl _, rfl⟩
    · intro vs y hg hd
      obtain ⟨h4, _⟩ := hd
      replace h4 := h4 rfl
      simp only [actOf, List.take_succ_cons, List.take_zero, List.drop_succ_cons, List.drop_zero, Act.put, List.setIfInBounds_toArray, List.set_cons_succ, List.set_cons_zero, Nat.reduceAdd]
      rw [show vs 4 = _ from h4]
      have hc := HC2.out y hg
      go_wp2_with fail
      exact ⟨rfl, _, rfl, grew_refl _, rfl⟩
    · intro vs y hg hd
      simp only [actOf, List.take_succ_cons, List.take_zero, List.drop_succ_cons, List.drop_zero, Act.put, List.setIfInBounds_toArray, List.set_cons_succ, List.set_cons_zero, Nat.reduceAdd]
      go_wp2_with fail
      exact ⟨rfl, _, rfl, grew_refl _, rfl⟩
    · intro vs y hg hd
      obtain ⟨h6, _⟩ := hd
      replace h6 := h6 rfl
      simp only [actOf, List.take_succ_cons, List.take_zero, List.drop_succ_cons, List.drop_zero, Act.put, List.setIfInBounds_toArray, List.set_cons_succ, List.set_cons_zero, Nat.reduceAdd]
      rw [show vs 6 = _ from h6]
      have hm := HCM.out y hg
      go_wp2_with (with_reducible refine wpList_load_mid rfl 42 (.tmp 9) rfl w.heap.size 3 rfl gs.toList _ hm hus rfl HSL.out ?_; simp only [Array.toArray_toList])
      exact ⟨rfl, _, rfl, grew_refl _, rfl⟩
    · intro vs y hg hd
      obtain ⟨h7, _⟩ := hd
      replace h7 := h7 rfl
      simp only [actOf, List.take_succ_cons, List.take_zero, List.drop_succ_cons, List.drop_zero, Act.put, List.setIfInBounds_toArray, List.set_cons_succ, List.set_cons_zero, Nat.reduceAdd]
      rw [show vs 7 = _ from h7]
      go_wp2_with (go_at_call 94; refine (CO.out y (HRY.out y hg)).mono ?_; rintro e z ⟨A2, c2, rfl, hr2, gz, hb2⟩)
      exact ⟨rfl, _, rfl, gz, ⟨A2, c2, rfl, hr2, fun ad h => by have := hb2 ad h; have := hg.size; omega⟩⟩
    · intro vs y hg hd
      obtain ⟨h1, h3, h5, h8, _⟩ := hd
      replace h1 := h1 rfl
      replace h3 := h3 rfl
      replace h5 := h5 rfl
      replace h8 := h8 rfl
      simp only [actOf, List.take_succ_cons, List.take_zero, List.drop_succ_cons, List.drop_zero, Act.put, List.setIfInBounds_toArray, List.set_cons_succ, List.set_cons_zero, Nat.reduceAdd]
      rw [show vs 1 = _ from h1, show vs 3 = _ from h3, show vs 5 = _ from h5]
      obtain ⟨A2, c2, hv, hr2, hb2⟩ := AgS.out h8
      rw [hv]
      have HBU := Lib.hid (rst_built cm who at_ sw lf s A2 l.length c2)
      go_wp2_with (with_reducible refine wpList_build_is rfl 30 #[(0, .tmp 4), (1, .tmp 6), (2, .tmp 8), (3, .tmp 11)] rfl (stC cm who at_ sw lf s (.slice A2 l.length c2)) ?_ ?_; · simpa [Act.eval, Act.put] using HBU.out)
      exact ⟨rfl, _, rfl, grew_refl _, ⟨A2, c2, rfl, hr2, hb2⟩⟩
  · intro vs y hg hJ
    have j0 : vs 0 = .pointer (some ⟨w.heap.size, 0, none⟩) := hJ 0 (by decide)
    have j1 : vs 1 = .int .u64 (cm : Nat) := hJ 1 (by decide)
    have j2 : vs 2 = .pointer (some ⟨w.heap.size, 1, none⟩) := hJ 2 (by decide)
    have j3 : vs 3 = .int .i64 who := hJ 3 (by decide)
    have j4 : vs 4 = .pointer (some ⟨w.heap.size, 2, none⟩) := hJ 4 (by decide)
    have j5 : vs 5 = .int .i64 at_ := hJ 5 (by decide)
    have j6 : vs 6 = .pointer (some ⟨w.heap.size, 3, none⟩) := hJ 6 (by decide)
    have j7 : vs 7 = .agg gs := hJ 7 (by decide)
    have s11 := hJ 8 (by decide)
    have s12 := hJ 9 (by decide)
    clear hJ
    simp only [actOf, List.take_succ_cons, List.take_zero, List.drop_succ_cons, List.drop_zero, Act.put, List.setIfInBounds_toArray, List.set_cons_succ, List.set_cons_zero, Nat.reduceAdd]
    obtain ⟨A2, c2, j9, r3, hb3⟩ := AgT.out s12
    rw [j9]
    clear s11 s12 j9
    have hz1 := z2.lt
    have hz2 := G2.size
    have HNE : Hid (∀ ad, A2 = some ad → ad.block ≠ w.heap.size + 1) := Lib.hid (fun ad h => by have := hb3 ad h; omega)
    have HLO : Hid (∀ ad, A2 = some ad → w.heap.size ≤ ad.block) := Lib.hid (fun ad h => by have := hb3 ad h; omega)
    have z3 := z2.grew hg
    have G3 := grew_trans G2 hg
    clear z2 G2 hg hb3 hz1 hz2
    have HTH : Hid (y.there (w.heap.size + 1) 0 (stC cm who at_ sw lf s (.slice A2 l.length c2)).size) := Lib.hid (z3.thereN 24 rfl)
    have HSI : Hid ((Tryz.prog.info? 30).map (·.size) = some (stC cm who at_ sw lf s (.slice A2 l.length c2)).size) := Lib.hid rst_info
    have HON := Lib.hid (stC_one cm who at_ sw lf s A2 l.length c2)
    have K3 := setCells_kp (stC cm who at_ sw lf s (.slice A2 l.length c2)).toList (w.heap.size + 1) 0 y
    have r4 := (r3.kp K3 (Nat.le_refl _) (fun ad h1 h2 h3 => HNE.out ad h1 h3)).more K3.size
    have z4 := Ag.set (vs := (stC cm who at_ sw lf s (.slice A2 l.length c2)).toList) z3 rfl
    have G4 := setCells_grew (o := 0) (b := w.heap.size + 1) (stC cm who at_ sw lf s (.slice A2 l.length c2)).toList G3 (by omega)
    go_wp2_with (with_reducible refine wpList_store_mid rfl 30 (.tmp 2) (.tmp 12) rfl (w.heap.size + 1) 0 (stC cm who at_ sw lf s (.slice A2 l.length c2)) rfl rfl HTH.out HSI.out HON.out ?_)
    exact bodyPost_ret (results_ag1 Tryz.results31 _ _ (w.heap.size + 1) _ _ rfl z4 hur rfl rst_info) rfl ⟨A2, ⟨c2, rfl⟩, r4, G4, HLO.out⟩
end Go.Proofs.YtaeopobofmpioaaGreatDoor

namespace Go.Proofs.YtaeopobofmpioaaGreatDoor
set_option linter.unusedSimpArgs false
set_option linter.unusedVariables false
open Go.RowKit
set_option linter.unusedVariables false
set_option linter.unusedSimpArgs false
set_option maxRecDepth 100000 in
set_option maxHeartbeats 1000000 in
theorem rstsame_ok (cm : Nat) (who at_ sw lf : Int) (s : Nat → Nat) (A A' : Option Addr) (c c' : Nat) (l : List Nat) (hl : l.length ≤ 1048576) (w : World) (hr : Rd w w.heap.size A (u64L l)) (hr' : Rd w w.heap.size A' (u64L l)) :
    Calls Tryz.prog 30 #[.agg (stC cm who at_ sw lf s (.slice A l.length c)), .agg (stC cm who at_ sw lf s (.slice A' l.length c'))] w fun e w' => e = .returned (.bool true) ∧ Grew w w' := by
  have z1 := (Ag.new w 30 (stC cm who at_ sw lf s (.slice A l.length c))).grew (grew_alloc (grew_refl _) (.cells (stC cm who at_ sw lf s (.slice A' l.length c')) 30))
  have z2 := Ag.new (w.alloc (.cells (stC cm who at_ sw lf s (.slice A l.length c)) 30)) 30 (stC cm who at_ sw lf s (.slice A' l.length c'))
  rw [alloc_size] at z2
  have G0 := grew_alloc (grew_alloc (grew_refl w) (.cells (stC cm who at_ sw lf s (.slice A l.length c)) 30)) (.cells (stC cm who at_ sw lf s (.slice A' l.length c')) 30)
  have r1 := hr.gr G0
  have r2 := hr'.gr G0
  have hus := Tryz.underlying28
  have HL1 : Hid ((Tryz.prog.info? 28).map (·.size) = some (sgC sw lf s (.slice A l.length c)).toList.length) := Lib.hid rg_info
  have HL2 : Hid ((Tryz.prog.info? 28).map (·.size) = some (sgC sw lf s (.slice A' l.length c')).toList.length) := Lib.hid rg_info
  have m1 := Lib.hid (st_sig z1.cell)
  have m2 := Lib.hid (st_sig z2.cell)
  have x0 : ((w.alloc (.cells (stC cm who at_ sw lf s (.slice A l.length c)) 30)).alloc (.cells (stC cm who at_ sw lf s (.slice A' l.length c')) 30)).cell? ⟨w.heap.size, 0, none⟩ = some (.int .u64 (cm : Nat)) := by simpa using z1.cell 0 _ rfl
  have x1 : ((w.alloc (.cells (stC cm who at_ sw lf s (.slice A l.length c)) 30)).alloc (.cells (stC cm who at_ sw lf s (.slice A' l.length c')) 30)).cell? ⟨w.heap.size, 1, none⟩ = some (.int .i64 who) := by simpa using z1.cell 1 _ rfl
  have x2 : ((w.alloc (.cells (stC cm who at_ sw lf s (.slice A l.length c)) 30)).alloc (.cells (stC cm who at_ sw lf s (.slice A' l.length c')) 30)).cell? ⟨w.heap.size, 2, none⟩ = some (.int .i64 at_) := by simpa using z1.cell 2 _ rfl
  have y0 : ((w.alloc (.cells (stC cm who at_ sw lf s (.slice A l.length c)) 30)).alloc (.cells (stC cm who at_ sw lf s (.slice A' l.length c')) 30)).cell? ⟨w.heap.size + 1, 0, none⟩ = some (.int .u64 (cm : Nat)) := by simpa using z2.cell 0 _ rfl
  have y1 : ((w.alloc (.cells (stC cm who at_ sw lf s (.slice A l.length c)) 30)).alloc (.cells (stC cm who at_ sw lf s (.slice A' l.length c')) 30)).cell? ⟨w.heap.size + 1, 1, none⟩ = some (.int .i64 who) := by simpa using z2.cell 1 _ rfl
  have y2 : ((w.alloc (.cells (stC cm who at_ sw lf s (.slice A l.length c)) 30)).alloc (.cells (stC cm who at_ sw lf s (.slice A' l.length c')) 30)).cell? ⟨w.heap.size + 1, 2, none⟩ = some (.int .i64 at_) := by simpa using z2.cell 2 _ rfl
  have CS := Lib.hid (rsame_ok sw lf s A A' c c' l hl _ r1 r2)
  have e0 : ((cm : Int) == (cm : Int)) = true := by simp
  have e1 : (who == who) = true := by simp
  have e2 : (at_ == at_) = true := by simp
  have GG := Lib.hid G0
  clear z1 z2 r1 r2 G0 hr hr'
  go_enter Tryz.func30, Tryz.ntmps30
  obtain ⟨v, hv⟩ : ∃ v, (w.alloc (.cells (stC cm who at_ sw lf s (.slice A l.length c)) 30)).alloc (.cells (stC cm who at_ sw lf s (.slice A' l.length c')) 30) = v := ⟨_, rfl⟩
  rw [hv] at CS GG x0 x1 x2 y0 y1 y2 m1 m2
  go_wp2_with (first
    | (refine wpList_load_mid_want (by rfl) 28 (.tmp 25) rfl w.heap.size 3 rfl (sgC sw lf s (.slice A l.length c)).toList _ m1.out hus rfl HL1.out ?_; simp only [Array.toArray_toList])
    | (refine wpList_load_mid_want (by rfl) 28 (.tmp 27) rfl (w.heap.size + 1) 3 rfl (sgC sw lf s (.slice A' l.length c')).toList _ m2.out hus rfl HL2.out ?_; simp only [Array.toArray_toList]))
  refine (CS.out).mono ?_
  rintro e w1 ⟨rfl, gg⟩
  go_wp2_with fail
  go_ret
  exact ⟨rfl, grew_trans GG.out gg⟩
end Go.Proofs.YtaeopobofmpioaaGreatDoor

namespace Go.Proofs.YtaeopobofmpioaaGreatDoor
set_option linter.unusedSimpArgs false
set_option linter.unusedVariables false
open Go.RowKit
set_option linter.unusedVariables false
set_option linter.unusedSimpArgs false
theorem st4_parts {x0 x1 x2 x3 : List UInt8} (h : st4 x0 x1 x2 x3 = true) : (pnum x1).2 = 0 ∧ (pnum x2).2 = 0 ∧ (-2147483648 ≤ (pnum x1).1 ∧ (pnum x1).1 ≤ 2147483647) ∧ (parseO x0).isSome = true ∧ (sigP x3).isSome = true := by
  unfold st4 smallB at h
  simp only [Bool.and_eq_true, decide_eq_true_eq] at h
  exact ⟨h.1.1.1.1, h.1.1.1.2, h.1.1.2, h.1.2, h.2⟩
structure StIn (r : StR) : Prop where
  cm : r.cm < 18446744073709551616
  who : in64 r.who
  at_ : in64 r.at_
  sw : in64 r.g.1.1
  lf : in64 r.g.1.2
  s : ∀ k, k < 18 → r.g.2.1 k < 18446744073709551616
  l : ∀ n ∈ r.g.2.2, n < 18446744073709551616
  len : r.g.2.2.length ≤ 8
theorem stF_in {x0 x1 x2 x3 : List UInt8} (h : st4 x0 x1 x2 x3 = true) : StIn (stF x0 x1 x2 x3) := by
  obtain ⟨h1, h2, h3, h4, h5⟩ := st4_parts h
  obtain ⟨d, hd⟩ := Option.isSome_iff_exists.1 h4
  have hb := (parseO_back hd).2
  have a1 := pnum_zero h1
  have a2 := pnum_zero h2
  have g := sgO_in x3
  exact ⟨by show (parseO x0).getD 0 < _; rw [hd]; exact hb, ⟨a1.2.2.1, a1.2.2.2⟩, ⟨a2.2.2.1, a2.2.2.2⟩, g.1, g.2.1, g.2.2.1, g.2.2.2.1, g.2.2.2.2⟩
theorem zero_in : StIn .zero := ⟨by decide, ⟨by decide, by decide⟩, ⟨by decide, by decide⟩, ⟨by decide, by decide⟩, ⟨by decide, by decide⟩, (fun k _ => by show 0 < _; decide), (fun n h => by cases h), by decide⟩
theorem stO_in (S : List UInt8) : StIn (stO S) := by
  unfold stO
  split
  · split
    · rename_i h; exact stF_in h
    · exact zero_in
  · exact zero_in
def StR.t (r : StR) : List UInt8 := stT r.cm r.who r.at_ r.g.1.1 r.g.1.2 r.g.2.1 r.g.2.2
theorem stO_back {S : List UInt8} (h : stE S = 0) : (stO S).t = S := by
  cases hs : splitF S with
  | none => rw [(stE_none hs).1] at h; exact absurd h (by decide)
  | some l =>
    by_cases hl : 4096 < l.length
    · rw [(stE_long hs hl).1] at h; exact absurd h (by decide)
    by_cases h4 : l.length = 4
    · match l, h4, hs with
      | [x0, x1, x2, x3], _, hs =>
        obtain ⟨e1, e2⟩ := stE_four hs
        by_cases hb : st4 x0 x1 x2 x3 = true
        · rw [if_pos hb] at e2
          rw [e2]
          obtain ⟨h1, h2, h3, h4, h5⟩ := st4_parts hb
          obtain ⟨d, hd⟩ := Option.isSome_iff_exists.1 h4
          have b0 := (parseO_back hd).1
          have b1 := (pnum_zero h1).1
          have b2 := (pnum_zero h2).1
          have b3 := sgO_back h5
          unfold StR.t stT stF
          dsimp only
          rw [hd, Option.getD_some, b0, b1, b2, b3]
          exact join_split S _ hs
        · rw [if_neg hb] at e1
          rw [e1] at h; exact absurd h (by decide)
    · rw [(stE_len hs (by omega) h4).1] at h; exact absurd h (by decide)
theorem stE_cases (S : List UInt8) : stE S = 0 ∨ stE S = 2 ∨ stE S = 4 := by
  unfold stE
  split
  · exact .inr (.inl rfl)
  · split
    · exact .inr (.inr rfl)
    · split
      · split
        · exact .inl rfl
        · exact .inr (.inl rfl)
      · exact .inr (.inl rfl)
end Go.Proofs.YtaeopobofmpioaaGreatDoor

namespace Go.Proofs.YtaeopobofmpioaaGreatDoor
set_option linter.unusedSimpArgs false
set_option linter.unusedVariables false
open Go.RowKit
set_option linter.unusedVariables false
set_option linter.unusedSimpArgs false
structure KV (w : World) (B : Nat) (f : Int) (R : List Nat) (h : Int) (v : Value) : Prop where
  out : ∃ A c, v = .agg (kyS f A R.length c h) ∧ Rd w w.heap.size A (u64L R) ∧ (∀ ad, A = some ad → B ≤ ad.block)
theorem KV.gr {w w' : World} {B : Nat} {f : Int} {R : List Nat} {h : Int} {v : Value} (k : KV w B f R h v) (g : Grew w w') : KV w' B f R h v := by
  obtain ⟨A, c, h1, h2, h3⟩ := k.out
  exact ⟨A, c, h1, h2.gr g, h3⟩
theorem rk_built (f h : Int) (A : Option Addr) (n c : Nat) : Tryz.prog.built 24 [(0, .int .i64 f), (1, .slice A n c), (2, .int .i64 h)] = some (kyS f A n c h) := by kernel_rfl
theorem rk_info : (Tryz.prog.info? 24).map (·.size) = some 3 := by kernel_rfl
theorem kyS_one (f h : Int) (A : Option Addr) (n c : Nat) : (kyS f A n c h).all (·.oneCell') = true := by simp [kyS, Value.oneCell']
set_option maxRecDepth 100000 in
set_option maxHeartbeats 1000000 in
theorem ofkeys_ok (f : Int) (R : List Nat) (RA : Option Addr) (Rc : Nat) (h : Int) (hl : R.length ≤ 1048576) (w : World) (hr : Rd w w.heap.size RA (u64L R)) :
    Calls Tryz.prog 35 #[.agg (kyS f RA R.length Rc h)] w fun e w' => ∃ A' c', e = .returned (.agg (kyS f A' R.length c' h)) ∧ Rd w' w'.heap.size A' (u64L R) ∧ Grew w w' := by
  have z0 := Ag.new w 36 (kyS f RA R.length Rc h)
  have G0 := grew_alloc (grew_refl w) (.cells (kyS f RA R.length Rc h) 36)
  have hur := Tryz.underlying24
  have CO := Lib.hid (fun W hR => mkof_any RA Rc _ R hl W hR (Nat.le_refl _))
  go_enter Tryz.func35, Tryz.ntmps35
  go_wp2_with fail
  have z2 : Ag ((w.alloc (.cells (kyS f RA R.length Rc h) 36)).alloc (.cells (#[.int .i64 0, .slice none 0 0, .int .i64 0]) 24)) (w.heap.size + 1) (#[.int .i64 0, .slice none 0 0, .int .i64 0] : Array Value).toList := by
    have := Ag.new (w.alloc (.cells (kyS f RA R.length Rc h) 36)) 24 (#[.int .i64 0, .slice none 0 0, .int .i64 0])
    simpa using this
  have z1 := z0.grew (grew_alloc (grew_refl _) (.cells (#[.int .i64 0, .slice none 0 0, .int .i64 0]) 24))
  have G2 := grew_alloc G0 (.cells (#[.int .i64 0, .slice none 0 0, .int .i64 0]) 24)
  clear z0 G0
  generalize (w.alloc (.cells (kyS f RA R.length Rc h) 36)).alloc (.cells (#[.int .i64 0, .slice none 0 0, .int .i64 0]) 24) = w2 at *
  have HC0 : Hid (∀ y, Grew w2 y → y.cell? ⟨w.heap.size, 0, none⟩ = some (.int .i64 f)) := Lib.hid (fun y g => by simpa using (z1.grew g).cell 0 _ rfl)
  have HC1 : Hid (∀ y, Grew w2 y → y.cell? ⟨w.heap.size, 1, none⟩ = some (.slice RA R.length Rc)) := Lib.hid (fun y g => by simpa using (z1.grew g).cell 1 _ rfl)
  have HC2 : Hid (∀ y, Grew w2 y → y.cell? ⟨w.heap.size, 2, none⟩ = some (.int .i64 h)) := Lib.hid (fun y g => by simpa using (z1.grew g).cell 2 _ rfl)
  have r2 := hr.gr G2
  have HRY := Lib.hid (fun y (g : Grew w2 y) => r2.gr g)
  clear z1 hr r2
  refine wp_region_rel 9 (fun i => match i with
      | 0 => fun v _ => v = .pointer (some ⟨w.heap.size, 0, none⟩)
      | 1 => fun v _ => v = .pointer (some ⟨w.heap.size, 0, none⟩)
      | 2 => fun v _ => v = .int .i64 f
      | 3 => fun v _ => v = .pointer (some ⟨w.heap.size, 1, none⟩)
      | 4 => fun v _ => v = .slice RA R.length Rc
      | 5 => fun v w => PV w w2.heap.size R v
      | 6 => fun v _ => v = .pointer (some ⟨w.heap.size, 2, none⟩)
      | 7 => fun v _ => v = .int .i64 h
      | 8 => fun v w => KV w w2.heap.size f R h v
      | _ => fun _ _ => True) (by kernel_rfl) (by kernel_rfl) ?_ ?_ ?_
  · intro i v x y h hg
    match i, h with
    | 0, h | 1, h | 2, h | 3, h | 4, h | 6, h | 7, h => exact h
    | 5, h => exact PV.gr h hg
    | 8, h => exact KV.gr h hg
    | m + 9, _ => trivial
  · refine ⟨?_, ?_, ?_, ?_, ?_, ?_, ?_, ?_, ?_, trivial⟩
    · intro vs y hg hd
      simp only [actOf, List.take_succ_cons, List.take_zero, List.drop_succ_cons, List.drop_zero, Act.put, List.setIfInBounds_toArray, List.set_cons_succ, List.set_cons_zero, Nat.reduceAdd]
      go_wp2_with fail
      exact ⟨rfl, _, rfl, grew_refl _, rfl⟩
    · intro vs y hg hd
      obtain ⟨h0, _⟩ := hd
      replace h0 := h0 rfl
      simp only [actOf, List.take_succ_cons, List.take_zero, List.drop_succ_cons, List.drop_zero, Act.put, List.setIfInBounds_toArray, List.set_cons_succ, List.set_cons_zero, Nat.reduceAdd]
      rw [show vs 0 = _ from h0]
      go_wp2_with fail
      exact ⟨rfl, _, rfl, grew_refl _, rfl⟩
    · intro vs y hg hd
      obtain ⟨h1, _⟩ := hd
      replace h1 := h1 rfl
      simp only [actOf, List.take_succ_cons, List.take_zero, List.drop_succ_cons, List.drop_zero, Act.put, List.setIfInBounds_toArray, List.set_cons_succ, List.set_cons_zero, Nat.reduceAdd]
      rw [show vs 1 = _ from h1]
      have hc := HC0.out y hg
      go_wp2_with fail
      exact ⟨rfl, _, rfl, grew_refl _, rfl⟩
    · intro vs y hg hd
      simp only [actOf, List.take_succ_cons, List.take_zero, List.drop_succ_cons, List.drop_zero, Act.put, List.setIfInBounds_toArray, List.set_cons_succ, List.set_cons_zero, Nat.reduceAdd]
      go_wp2_with fail
      exact ⟨rfl, _, rfl, grew_refl _, rfl⟩
    · intro vs y hg hd
      obtain ⟨h3, _⟩ := hd
      replace h3 := h3 rfl
      simp only [actOf, List.take_succ_cons, List.take_zero, List.drop_succ_cons, List.drop_zero, Act.put, List.setIfInBounds_toArray, List.set_cons_succ, List.set_cons_zero, Nat.reduceAdd]
      rw [show vs 3 = _ from h3]
      have hc := HC1.out y hg
      go_wp2_with fail
      exact ⟨rfl, _, rfl, grew_refl _, rfl⟩
    · intro vs y hg hd
      obtain ⟨h4, _⟩ := hd
      replace h4 := h4 rfl
      simp only [actOf, List.take_succ_cons, List.take_zero, List.drop_succ_cons, List.drop_zero, Act.put, List.setIfInBounds_toArray, List.set_cons_succ, List.set_cons_zero, Nat.reduceAdd]
      rw [show vs 4 = _ from h4]
      go_wp2_with (go_at_call 100; refine (CO.out y (HRY.out y hg)).mono ?_; rintro e z ⟨A2, c2, rfl, hr2, hb2, gz⟩)
      exact ⟨rfl, _, rfl, gz, ⟨A2, c2, rfl, hr2, fun ad h => by have := hb2 ad h; have := hg.size; omega⟩⟩
    · intro vs y hg hd
      simp only [actOf, List.take_succ_cons, List.take_zero, List.drop_succ_cons, List.drop_zero, Act.put, List.setIfInBounds_toArray, List.set_cons_succ, List.set_cons_zero, Nat.reduceAdd]
      go_wp2_with fail
      exact ⟨rfl, _, rfl, grew_refl _, rfl⟩
    · intro vs y hg hd
      obtain ⟨h6, _⟩ := hd
      replace h6 := h6 rfl
      simp only [actOf, List.take_succ_cons, List.take_zero, List.drop_succ_cons, List.drop_zero, Act.put, List.setIfInBounds_toArray, List.set_cons_succ, List.set_cons_zero, Nat.reduceAdd]
      rw [show vs 6 = _ from h6]
      have hc := HC2.out y hg
      go_wp2_with fail
      exact ⟨rfl, _, rfl, grew_refl _, rfl⟩
    · intro vs y hg hd
      obtain ⟨h2, h5, h7, _⟩ := hd
      replace h2 := h2 rfl
      replace h5 := h5 rfl
      replace h7 := h7 rfl
      simp only [actOf, List.take_succ_cons, List.take_zero, List.drop_succ_cons, List.drop_zero, Act.put, List.setIfInBounds_toArray, List.set_cons_succ, List.set_cons_zero, Nat.reduceAdd]
      rw [show vs 2 = _ from h2, show vs 7 = _ from h7]
      obtain ⟨A2, c2, hv, hr2, hb2⟩ := PV.out h5
      rw [hv]
      have HBU := Lib.hid (rk_built f h A2 R.length c2)
      go_wp2_with (with_reducible refine wpList_build_is rfl 24 #[(0, .tmp 5), (1, .tmp 8), (2, .tmp 10)] rfl (kyS f A2 R.length c2 h) ?_ ?_; · simpa [Act.eval, Act.put] using HBU.out)
      exact ⟨rfl, _, rfl, grew_refl _, ⟨A2, c2, rfl, hr2, hb2⟩⟩
  · intro vs y hg hJ
    have j0 : vs 0 = .pointer (some ⟨w.heap.size, 0, none⟩) := hJ 0 (by decide)
    have j1 : vs 1 = .pointer (some ⟨w.heap.size, 0, none⟩) := hJ 1 (by decide)
    have j2 : vs 2 = .int .i64 f := hJ 2 (by decide)
    have j3 : vs 3 = .pointer (some ⟨w.heap.size, 1, none⟩) := hJ 3 (by decide)
    have j4 : vs 4 = .slice RA R.length Rc := hJ 4 (by decide)
    have j6 : vs 6 = .pointer (some ⟨w.heap.size, 2, none⟩) := hJ 6 (by decide)
    have j7 : vs 7 = .int .i64 h := hJ 7 (by decide)
    have s8 := hJ 5 (by decide)
    have s11 := hJ 8 (by decide)
    clear hJ
    simp only [actOf, List.take_succ_cons, List.take_zero, List.drop_succ_cons, List.drop_zero, Act.put, List.setIfInBounds_toArray, List.set_cons_succ, List.set_cons_zero, Nat.reduceAdd]
    obtain ⟨A2, c2, j9, r3, hb3⟩ := KV.out s11
    rw [j9]
    clear s8 s11 j9
    have hz1 := z2.lt
    have HNE : Hid (∀ ad, A2 = some ad → ad.block ≠ w.heap.size + 1) := Lib.hid (fun ad h => by have := hb3 ad h; omega)
    have z3 := z2.grew hg
    have G3 := grew_trans G2 hg
    clear z2 G2 hg hb3 hz1
    have HTH : Hid (y.there (w.heap.size + 1) 0 (kyS f A2 R.length c2 h).size) := Lib.hid (z3.thereN 3 rfl)
    have HSI : Hid ((Tryz.prog.info? 24).map (·.size) = some (kyS f A2 R.length c2 h).size) := Lib.hid rk_info
    have HON := Lib.hid (kyS_one f h A2 R.length c2)
    have K3 := setCells_kp (kyS f A2 R.length c2 h).toList (w.heap.size + 1) 0 y
    have r4 := (r3.kp K3 (Nat.le_refl _) (fun ad h1 h2 h3 => HNE.out ad h1 h3)).more K3.size
    have z4 := Ag.set (vs := (kyS f A2 R.length c2 h).toList) z3 rfl
    have G4 := setCells_grew (o := 0) (b := w.heap.size + 1) (kyS f A2 R.length c2 h).toList G3 (by omega)
    go_wp2_with (with_reducible refine wpList_store_mid rfl 24 (.tmp 2) (.tmp 11) rfl (w.heap.size + 1) 0 (kyS f A2 R.length c2 h) rfl rfl HTH.out HSI.out HON.out ?_)
    exact bodyPost_ret (results_ag1 Tryz.results35 _ _ (w.heap.size + 1) _ _ rfl z4 hur rfl rk_info) rfl ⟨A2, ⟨c2, rfl⟩, r4, G4⟩
def whB (f who : Int) : Bool := decide (0 ≤ who ∧ who < 3 * f + 1)
set_option maxRecDepth 100000 in
theorem rwho_ok (f : Int) (hf : 1 ≤ f ∧ f ≤ 3) (RA : Option Addr) (n Rc : Nat) (h who : Int) (w : World) :
    Calls Tryz.prog 83 #[.agg (kyS f RA n Rc h), .int .i64 who] w fun e w' => e = .returned (.bool (whB f who)) ∧ Grew w w' := by
  have z0 := Ag.new w 24 (kyS f RA n Rc h)
  have G0 := grew_alloc (grew_refl w) (.cells (kyS f RA n Rc h) 24)
  have c0 : (w.alloc (.cells (kyS f RA n Rc h) 24)).cell? ⟨w.heap.size, 0, none⟩ = some (.int .i64 f) := by simpa using z0.cell 0 _ rfl
  have CN := Lib.hid (fun W => rn_ok f hf W)
  obtain ⟨nn, hnn⟩ : ∃ nn, 3 * f + 1 = nn := ⟨_, rfl⟩
  have HB : Hid (whB f who = decide (0 ≤ who ∧ who < nn)) := Lib.hid (by unfold whB; rw [hnn])
  rw [hnn] at CN
  clear z0 hnn hf
  by_cases h0 : 0 ≤ who
  · by_cases h1 : who < nn
    · have e0 : decide (0 ≤ who) = true := decide_eq_true h0
      have e1 : decide (who < nn) = true := decide_eq_true h1
      rw [HB.out, decide_eq_true ⟨h0, h1⟩]
      clear HB
      go_enter Tryz.func83, Tryz.ntmps83
      go_wp2_with (go_at_call 70; refine (CN.out _).mono ?_; rintro e z ⟨rfl, hz⟩; rw [hz]; clear hz)
      go_ret
      exact ⟨rfl, G0⟩
    · have e0 : decide (0 ≤ who) = true := decide_eq_true h0
      have e1 : decide (who < nn) = false := decide_eq_false h1
      rw [HB.out, decide_eq_false (by omega)]
      clear HB
      go_enter Tryz.func83, Tryz.ntmps83
      go_wp2_with (go_at_call 70; refine (CN.out _).mono ?_; rintro e z ⟨rfl, hz⟩; rw [hz]; clear hz)
      go_ret
      exact ⟨rfl, G0⟩
  · have e0 : decide (0 ≤ who) = false := decide_eq_false h0
    rw [HB.out, decide_eq_false (by omega)]
    clear HB
    go_enter Tryz.func83, Tryz.ntmps83
    go_wp2_with fail
    go_ret
    exact ⟨rfl, G0⟩
def sgB (R : List Nat) (h : Int) (n : Nat) (d : Nat) (sw lf : Int) (s : Nat → Nat) (l : List Nat) : Prop := sw = (n : Int) ∧ n < R.length ∧ vrS (R.getD n 0) lf s l (d : Int) h = true
set_option maxRecDepth 100000 in
set_option maxHeartbeats 2000000 in
theorem rsigned_ok (f : Int) (R : List Nat) (RA : Option Addr) (Rc : Nat) (h : Int) (n d : Nat) (sw lf : Int) (s : Nat → Nat) (A : Option Addr) (c : Nat) (l : List Nat) (hn : n ≤ 1000) (hlf : in64 lf) (hl : l.length ≤ 1000) (hs : ∀ k, k < 18 → s k < 18446744073709551616) (hb : ∀ x ∈ l, x < 18446744073709551616) (hd : d < 18446744073709551616)
    (hRl : R.length ≤ 1000) (w : World) (hrR : Rd w w.heap.size RA (u64L R)) (hrl : Rd w w.heap.size A (u64L l)) :
    Calls Tryz.prog 84 #[.agg (kyS f RA R.length Rc h), .int .i64 (n : Int), .agg (sgC sw lf s (.slice A l.length c)), .int .u64 (d : Nat)] w fun e w' => e = .returned (.bool (decide (ckE R h n d sw lf s l = 0))) ∧ Grew w w' := by
  have z1 := (Ag.new w 24 (kyS f RA R.length Rc h)).grew (grew_alloc (grew_refl _) (.cells (sgC sw lf s (.slice A l.length c)) 28))
  have z2 := Ag.new (w.alloc (.cells (kyS f RA R.length Rc h) 24)) 28 (sgC sw lf s (.slice A l.length c))
  rw [alloc_size] at z2
  have G0 := grew_alloc (grew_alloc (grew_refl w) (.cells (kyS f RA R.length Rc h) 24)) (.cells (sgC sw lf s (.slice A l.length c)) 28)
  have hug := Tryz.underlying28
  have HSL : Hid ((Tryz.prog.info? 28).map (·.size) = some (sgC sw lf s (.slice A l.length c)).toList.length) := Lib.hid rg_info
  have CV := Lib.hid (fun W hR => refvsig_ok (R.getD n 0) sw lf s A c l (d : Int) h (by omega) hlf hs hb ⟨by omega, by omega⟩ W hR)
  have HLL := Lib.hid hrl
  have HRR := Lib.hid hrR
  have HCK : Hid (∀ b, (decide (sw = (n : Int)) && decide (n < R.length) && vrS (R.getD n 0) lf s l (d : Int) h) = b → decide (ckE R h n d sw lf s l = 0) = b) := Lib.hid (fun b hb => by
    rw [← hb]
    unfold ckE
    by_cases a1 : R.length ≤ n
    · rw [if_pos a1]
      have : ¬ n < R.length := by omega
      simp [this]
    · rw [if_neg a1]
      have a1' : n < R.length := by omega
      by_cases a2 : sw = (n : Int)
      · rw [if_pos a2]
        cases hv : vrS (R.getD n 0) lf s l (d : Int) h <;> simp [a2, a1']
      · rw [if_neg a2]; simp [a2])
  clear hrR hrl hs hb hlf hl hd
  go_enter Tryz.func84, Tryz.ntmps84
  go_wp2_with fail
  generalize (w.alloc (.cells (kyS f RA R.length Rc h) 24)).alloc (.cells (sgC sw lf s (.slice A l.length c)) 28) = w1 at *
  have k1 : ∀ y : Gr w1, y.val.cell? ⟨w.heap.size, 1, none⟩ = some (.slice RA R.length Rc) := fun y => by simpa using (z1.gr y).cell 1 _ rfl
  have k2 : ∀ y : Gr w1, y.val.cell? ⟨w.heap.size, 2, none⟩ = some (.int .i64 h) := fun y => by simpa using (z1.gr y).cell 2 _ rfl
  have k0 : ∀ y : Gr w1, y.val.cell? ⟨w.heap.size + 1, 0, none⟩ = some (.int .i64 sw) := fun y => by simpa using (z2.gr y).cell 0 _ rfl
  have M2 : Hid (∀ y : Gr w1, y.val.rangeAt (w.heap.size + 1) 0 (sgC sw lf s (.slice A l.length c)).toList) := Lib.hid (fun y => (z2.gr y).cell)
  have RL : Hid (∀ y : Gr w1, Rd y.val y.val.heap.size A (u64L l)) := Lib.hid (fun y => (HLL.out.gr G0).gr y.ok)
  have hn0 : (0 : Int) ≤ (n : Int) := by omega
  have g0 : decide ((0 : Int) ≤ (n : Int)) = true := decide_eq_true hn0
  clear z1 z2 HLL
  by_cases a2 : sw = (n : Int)
  case neg =>
    have e2 : (sw == (n : Int)) = false := by simpa using a2
    have HE := HCK.out false (by simp [a2])
    clear HCK a2 HRR
    refine wp_region_grew (grew_refl w1) (by kernel_rfl) (by kernel_rfl) ?_
    repeat (first
      | (go_big_quiet_want; refine quiet_load_mid 28 (.tmp 6) rfl (w.heap.size + 1) 0 rfl (sgC sw lf s (.slice A l.length c)).toList _ M2.out hug rfl HSL.out ?_; simp only [Act.put, List.setIfInBounds_toArray, List.set_cons_succ, List.set_cons_zero, Array.toArray_toList]; go_big_quiet_on)
      | (go_big_quiet_step (first
        | (go_at_call 138; exact callG (CV.out _ (RL.out _))))))
    refine wpQuiet_nil ?_
    rintro w8 ⟨⟨w8', g8⟩, rfl⟩
    go_wp2_with fail
    go_ret
    exact ⟨by rw [HE]; rfl, grew_trans G0 g8⟩
  have e2 : (sw == (n : Int)) = true := by simpa using a2
  by_cases a1 : n < R.length
  case neg =>
    have e1 : decide (n < R.length) = false := decide_eq_false a1
    have HE := HCK.out false (by simp [a1])
    clear HCK a2 HRR a1
    refine wp_region_grew (grew_refl w1) (by kernel_rfl) (by kernel_rfl) ?_
    repeat (first
      | (go_big_quiet_want; refine quiet_load_mid 28 (.tmp 6) rfl (w.heap.size + 1) 0 rfl (sgC sw lf s (.slice A l.length c)).toList _ M2.out hug rfl HSL.out ?_; simp only [Act.put, List.setIfInBounds_toArray, List.set_cons_succ, List.set_cons_zero, Array.toArray_toList]; go_big_quiet_on)
      | (go_big_quiet_step (first
        | (go_at_call 138; exact callG (CV.out _ (RL.out _))))))
    refine wpQuiet_nil ?_
    rintro w8 ⟨⟨w8', g8⟩, rfl⟩
    go_wp2_with fail
    go_ret
    exact ⟨by rw [HE]; rfl, grew_trans G0 g8⟩
  have e1 : decide (n < R.length) = true := decide_eq_true a1
  have hn1 : (n : Int) < (R.length : Int) := by omega
  have HE := HCK.out (vrS (R.getD n 0) lf s l (d : Int) h) (by simp [a2, a1])
  obtain ⟨ad, hA, -, -⟩ := HRR.out n (by simpa [u64L] using a1)
  have kR : ∀ y : Gr w1, y.val.cell? (ad.add n) = some (.int .u64 (R.getD n 0 : Nat)) := fun y => by
    obtain ⟨ad', hA', _, hc⟩ := (HRR.out.gr (grew_trans G0 y.ok)) n (by simpa [u64L] using a1)
    rw [hA] at hA'
    injection hA' with hA'
    subst hA'
    rw [hc]
    simp [u64L, List.getD_eq_getElem?_getD, a1]
  subst hA
  have HE2 := Lib.hid HE
  clear HCK a2 HRR HE
  generalize R.getD n 0 = root at *
  refine wp_region_grew (grew_refl w1) (by kernel_rfl) (by kernel_rfl) ?_
  repeat (first
    | (go_big_quiet_want; refine quiet_load_mid 28 (.tmp 6) rfl (w.heap.size + 1) 0 rfl (sgC sw lf s (.slice A l.length c)).toList _ M2.out hug rfl HSL.out ?_; simp only [Act.put, List.setIfInBounds_toArray, List.set_cons_succ, List.set_cons_zero, Array.toArray_toList]; go_big_quiet_on)
    | (go_big_quiet_step (first
      | (go_at_call 138; exact callG (CV.out _ (RL.out _))))))
  refine wpQuiet_nil ?_
  rintro w8 ⟨⟨w8', g8⟩, rfl⟩
  go_wp2_with fail
  go_ret
  exact ⟨by rw [HE2.out]; rfl, grew_trans G0 g8⟩
end Go.Proofs.YtaeopobofmpioaaGreatDoor

namespace Go.Proofs.YtaeopobofmpioaaGreatDoor
set_option linter.unusedSimpArgs false
set_option linter.unusedVariables false
open Go.RowKit
set_option linter.unusedVariables false
set_option linter.unusedSimpArgs false
theorem ckE_07 (R : List Nat) (h : Int) (n d : Nat) (sw lf : Int) (s : Nat → Nat) (l : List Nat) : ckE R h n d sw lf s l = 0 ∨ ckE R h n d sw lf s l = 7 := by
  unfold ckE
  split
  · exact .inr rfl
  · split
    · split
      · exact .inl rfl
      · exact .inr rfl
    · exact .inr rfl
set_option maxRecDepth 100000 in
set_option maxHeartbeats 2000000 in
theorem rstvalid_ok (f : Int) (hf : 1 ≤ f ∧ f ≤ 3) (R : List Nat) (RA : Option Addr) (Rc : Nat) (h : Int) (cm : Nat) (who at_ sw lf : Int) (s : Nat → Nat) (A : Option Addr) (c : Nat) (l : List Nat) (hc : cm < 18446744073709551616) (hw : in64 who) (ha : in64 at_) (hsw : in64 sw) (hlf : in64 lf) (hl : l.length ≤ 1000) (hs : ∀ k, k < 18 → s k < 18446744073709551616) (hb : ∀ x ∈ l, x < 18446744073709551616)
    (hRl : R.length ≤ 1000) (w : World) (hrR : Rd w w.heap.size RA (u64L R)) (hrl : Rd w w.heap.size A (u64L l)) :
    Calls Tryz.prog 27 #[.agg (kyS f RA R.length Rc h), .agg (stC cm who at_ sw lf s (.slice A l.length c))] w fun e w' => e = .returned (.int .i64 (vaE f R h cm who at_ sw lf s l)) ∧ Grew w w' := by
  have huk := Tryz.underlying24
  have hug := Tryz.underlying28
  have HSK : Hid ((Tryz.prog.info? 24).map (·.size) = some (kyS f RA R.length Rc h).toList.length) := Lib.hid rk_info
  have HSG : Hid ((Tryz.prog.info? 28).map (·.size) = some (sgC sw lf s (.slice A l.length c)).toList.length) := Lib.hid rg_info
  have z1 := (Ag.new w 24 (kyS f RA R.length Rc h)).grew (grew_alloc (grew_refl _) (.cells (stC cm who at_ sw lf s (.slice A l.length c)) 30))
  have z2 := Ag.new (w.alloc (.cells (kyS f RA R.length Rc h) 24)) 30 (stC cm who at_ sw lf s (.slice A l.length c))
  rw [alloc_size] at z2
  have G0 := grew_alloc (grew_alloc (grew_refl w) (.cells (kyS f RA R.length Rc h) 24)) (.cells (stC cm who at_ sw lf s (.slice A l.length c)) 30)
  have b1 : ((w.alloc (.cells (kyS f RA R.length Rc h) 24)).alloc (.cells (stC cm who at_ sw lf s (.slice A l.length c)) 30)).cell? ⟨w.heap.size + 1, 1, none⟩ = some (.int .i64 who) := by simpa using z2.cell 1 _ rfl
  have hm := z1.cell
  have CW := Lib.hid (fun W => rwho_ok f hf RA R.length Rc h who W)
  have HRR := Lib.hid hrR
  have HLL := Lib.hid hrl
  clear hrR hrl
  by_cases hA : 0 ≤ who ∧ who < 3 * f + 1
  case neg =>
    have HE : Hid (vaE f R h cm who at_ sw lf s l = 1) := Lib.hid (by
      unfold vaE
      by_cases h0 : who < 0
      · rw [if_pos h0]
      · rw [if_neg h0, if_pos (by omega)])
    rw [show whB f who = false from decide_eq_false hA] at CW
    clear hs hb hA
    go_enter Tryz.func27, Tryz.ntmps27
    go_wp2_with (first
      | (with_reducible refine wpList_load_mid rfl 24 (.tmp 2) rfl w.heap.size 0 rfl (kyS f RA R.length Rc h).toList _ hm huk rfl HSK.out ?_; simp only [Array.toArray_toList]))
    refine (CW.out _).mono ?_
    rintro e w2 ⟨rfl, gg⟩
    have G2 := grew_trans G0 gg
    have y1 := z1.grew gg
    have y2 := z2.grew gg
    have c2 : w2.cell? ⟨w.heap.size + 1, 2, none⟩ = some (.int .i64 at_) := by simpa using y2.cell 2 _ rfl
    clear hm z1 z2 gg CW G0
    go_wp2_with fail
    go_ret
    exact ⟨by rw [HE.out]; rfl, G2⟩
  rw [show whB f who = true from decide_eq_true hA] at CW
  have HV : Hid (vaE f R h cm who at_ sw lf s l = if tmB at_ = true then ckE R h who.toNat (stD cm who at_) sw lf s l else 1) := Lib.hid (by unfold vaE; rw [if_neg (by omega), if_neg (by omega)])
  by_cases hT : 1 ≤ at_ ∧ at_ ≤ 1099511627776
  case neg =>
    have HE : Hid (vaE f R h cm who at_ sw lf s l = 1) := Lib.hid (by rw [HV.out, show tmB at_ = false from decide_eq_false hT]; rfl)
    clear HV hs hb hA
    rcases (show at_ < 1 ∨ (¬ at_ < 1 ∧ 1099511627776 < at_) by omega) with t | ⟨t, t'⟩
    · have t0 : decide (at_ < 1) = true := decide_eq_true t
      clear hT t
      go_enter Tryz.func27, Tryz.ntmps27
      go_wp2_with (first
        | (with_reducible refine wpList_load_mid rfl 24 (.tmp 2) rfl w.heap.size 0 rfl (kyS f RA R.length Rc h).toList _ hm huk rfl HSK.out ?_; simp only [Array.toArray_toList]))
      refine (CW.out _).mono ?_
      rintro e w2 ⟨rfl, gg⟩
      have G2 := grew_trans G0 gg
      have y1 := z1.grew gg
      have y2 := z2.grew gg
      have c2 : w2.cell? ⟨w.heap.size + 1, 2, none⟩ = some (.int .i64 at_) := by simpa using y2.cell 2 _ rfl
      clear hm z1 z2 gg CW G0
      go_wp2_with fail
      go_ret
      exact ⟨by rw [HE.out]; rfl, G2⟩
    · have t0 : decide (at_ < 1) = false := decide_eq_false t
      have t1 : decide (1099511627776 < at_) = true := decide_eq_true t'
      clear hT t t'
      go_enter Tryz.func27, Tryz.ntmps27
      go_wp2_with (first
        | (with_reducible refine wpList_load_mid rfl 24 (.tmp 2) rfl w.heap.size 0 rfl (kyS f RA R.length Rc h).toList _ hm huk rfl HSK.out ?_; simp only [Array.toArray_toList]))
      refine (CW.out _).mono ?_
      rintro e w2 ⟨rfl, gg⟩
      have G2 := grew_trans G0 gg
      have y1 := z1.grew gg
      have y2 := z2.grew gg
      have c2 : w2.cell? ⟨w.heap.size + 1, 2, none⟩ = some (.int .i64 at_) := by simpa using y2.cell 2 _ rfl
      clear hm z1 z2 gg CW G0
      go_wp2_with fail
      go_ret
      exact ⟨by rw [HE.out]; rfl, G2⟩
  obtain ⟨n, rfl⟩ := Int.eq_ofNat_of_zero_le hA.1
  have HE : Hid (vaE f R h cm (n : Int) at_ sw lf s l = ckE R h n (stD cm (n : Int) at_) sw lf s l) := Lib.hid (by rw [HV.out, show tmB at_ = true from decide_eq_true hT]; simp)
  have CS := Lib.hid (fun W h1 h2 => rsigned_ok f R RA Rc h n (stD cm (n : Int) at_) sw lf s A c l (by omega) hlf hl hs hb (stD_lt _ _ _) hRl W h1 h2)
  have CD := Lib.hid (fun W => rstdigest_ok cm (n : Int) at_ hc hw ha W)
  have t0 : decide (at_ < 1) = false := decide_eq_false (by omega)
  have t1 : decide (1099511627776 < at_) = false := decide_eq_false (by omega)
  have H07 := Lib.hid (ckE_07 R h n (stD cm (n : Int) at_) sw lf s l)
  clear HV hs hb hA hT
  generalize stD cm (n : Int) at_ = d at *
  generalize ckE R h n d sw lf s l = ck at *
  obtain ⟨bk, hbk⟩ : ∃ b, decide (ck = 0) = b := ⟨_, rfl⟩
  rw [hbk] at CS
  have HBK := Lib.hid hbk
  clear hbk
  go_enter Tryz.func27, Tryz.ntmps27
  go_wp2_with (first
    | (with_reducible refine wpList_load_mid rfl 24 (.tmp 2) rfl w.heap.size 0 rfl (kyS f RA R.length Rc h).toList _ hm huk rfl HSK.out ?_; simp only [Array.toArray_toList]))
  refine (CW.out _).mono ?_
  rintro e w2 ⟨rfl, gg⟩
  have G2 := grew_trans G0 gg
  have y1 := z1.grew gg
  have y2 := z2.grew gg
  have c2 : w2.cell? ⟨w.heap.size + 1, 2, none⟩ = some (.int .i64 at_) := by simpa using y2.cell 2 _ rfl
  clear hm z1 z2 gg CW G0
  have M1 : Hid (∀ y : Gr w2, y.val.rangeAt w.heap.size 0 (kyS f RA R.length Rc h).toList) := Lib.hid (fun y => (y1.gr y).cell)
  have M2 : Hid (∀ y : Gr w2, y.val.rangeAt (w.heap.size + 1) 3 (sgC sw lf s (.slice A l.length c)).toList) := Lib.hid (fun y => st_sig (y2.gr y).cell)
  have RR : Hid (∀ y : Gr w2, Rd y.val y.val.heap.size RA (u64L R)) := Lib.hid (fun y => (HRR.out.gr G2).gr y.ok)
  have RL : Hid (∀ y : Gr w2, Rd y.val y.val.heap.size A (u64L l)) := Lib.hid (fun y => (HLL.out.gr G2).gr y.ok)
  have q0 : ∀ y : Gr w2, y.val.cell? ⟨w.heap.size + 1, 0, none⟩ = some (.int .u64 (cm : Nat)) := fun y => by simpa using (y2.gr y).cell 0 _ rfl
  have q1 : ∀ y : Gr w2, y.val.cell? ⟨w.heap.size + 1, 1, none⟩ = some (.int .i64 (n : Int)) := fun y => by simpa using (y2.gr y).cell 1 _ rfl
  have q2 : ∀ y : Gr w2, y.val.cell? ⟨w.heap.size + 1, 2, none⟩ = some (.int .i64 at_) := fun y => by simpa using (y2.gr y).cell 2 _ rfl
  clear y1 y2 HRR HLL
  go_wp2_with fail
  clear c2
  refine wp_region_grew (grew_refl w2) (by kernel_rfl) (by kernel_rfl) ?_
  repeat (first
    | (go_big_quiet_want; refine quiet_load_mid 24 (.tmp 2) rfl w.heap.size 0 rfl (kyS f RA R.length Rc h).toList _ M1.out huk rfl HSK.out ?_; simp only [Act.put, List.setIfInBounds_toArray, List.set_cons_succ, List.set_cons_zero, Array.toArray_toList]; go_big_quiet_on)
    | (go_big_quiet_want; refine quiet_load_mid 28 (.tmp 23) rfl (w.heap.size + 1) 3 rfl (sgC sw lf s (.slice A l.length c)).toList _ M2.out hug rfl HSG.out ?_; simp only [Act.put, List.setIfInBounds_toArray, List.set_cons_succ, List.set_cons_zero, Array.toArray_toList]; go_big_quiet_on)
    | (go_big_quiet_step (first
      | (go_at_call 21; exact callG (CD.out _))
      | (go_at_call 84; exact callG (CS.out _ (RR.out _) (RL.out _))))))
  refine wpQuiet_nil ?_
  rintro w8 ⟨⟨w8', g8⟩, rfl⟩
  cases bk
  · have HK : Hid (ck = 7) := Lib.hid (by
      rcases H07.out with hk | hk
      · have := HBK.out; simp [hk] at this
      · exact hk)
    clear HBK
    go_wp2_with fail
    go_ret
    exact ⟨by rw [HE.out, HK.out]; rfl, grew_trans G2 g8⟩
  · have HK : Hid (ck = 0) := Lib.hid (of_decide_eq_true HBK.out)
    clear HBK
    go_wp2_with fail
    go_ret
    exact ⟨by rw [HE.out, HK.out]; rfl, grew_trans G2 g8⟩
end Go.Proofs.YtaeopobofmpioaaGreatDoor
