/- SafeHolds (mksfm.py). -/
import Derived.Test.YtbohmmcmlabcdaaDoorPaz
namespace Go.Proofs.YtbohmmcmlabcdaaDoor
set_option linter.unusedSimpArgs false
set_option linter.unusedVariables false
open Go.RowKit Go.Maps
set_option linter.unusedVariables false
set_option linter.unnecessarySimpa false
set_option linter.unusedSimpArgs false
structure BlF (w0 : World) (b : BB) (v : Value) (W : World) : Prop where
 out : ∃ q, v = .pointer (some ⟨q, 0, none⟩) ∧ Ag W q b.z.C.toList ∧ w0.heap.size ≤ q ∧ Grew w0 W
theorem BlF.gr {w0 : World} {b : BB} {v : Value} {x y : World} (h : BlF w0 b v x) (g : Grew x y) : BlF w0 b v y := by
 obtain ⟨q, h1, h2, h4, h5⟩ := h.out
 exact ⟨q, h1, h2.grew g, h4, grew_trans h5 g⟩
theorem nbz_inf : (Tryd.prog.info? 33).map (fun i => (i.zero, i.size, i.bytes)) = some (some (.agg (#[.int .i64 0, .int .u64 0, .int .i64 0, .int .u64 0, .slice none 0 0, .int .i64 0, .int .i64 0, .slice none 0 0] : Array Value)), 8, 96) := by kernel_rfl
theorem voteS {t mb : Nat} (k j : Nat) (hj : j < k) (hk : k ≤ 9) (s : SV) (hs : s.f = fS j) (w : World) (hS : Std w) (h : TreeB w t mb (KS.take (k + 1))) : Calls Tryd.prog 18 #[.agg s.C, .pointer (some ⟨t, 0, none⟩), .agg (safP (j + 1)).z.C] w fun e w' => ∃ m : SV, m.f = fS (j + 1) ∧ e = .returned (.tuple #[.agg m.C, .int .i64 0]) ∧ Grew w w' := by
 have e1 : s.l.v = (fS j).lv ∧ s.l.b = (fS j).lb ∧ s.h.v = (fS j).hv ∧ s.h.b = (fS j).hb := by rw [← hs]; exact ⟨rfl, rfl, rfl, rfl⟩
 have := vote_yes s (safP (j + 1)).z (safP_ok (j + 1) (by omega)) (sd (j + 1)) (safP_dig (j + 1) (by omega)) (wl (j + 1)) (wl_way _ (j + 1) (by omega) (fun i hi => ks_some i (k + 1) (by omega) (by omega))) (by rw [wl_len]; omega) (by rw [hs]; exact fS_may j) (safP j) (by show bget _ (safP (j + 1)).qb = _; rw [safP_qb]; exact ks_some j (k + 1) (by omega) (by omega)) w hS h
 rw [e1.1, e1.2.1, e1.2.2.1, e1.2.2.2, show (safP (j + 1)).z.b = safP (j + 1) from rfl, fS_saw] at this
 exact this
theorem sawS {t mb : Nat} (k : Nat) (hk2 : 2 ≤ k) (hk : k ≤ 9) (s : SV) (hs : s.f = fS k) (w : World) (h : TreeB w t mb (KS.take (k + 1))) : Calls Tryd.prog 19 #[.agg s.C, .pointer (some ⟨t, 0, none⟩), .agg (qcC (k : Int) (sd k) none 0)] w fun e w' => ∃ m : SV, m.f = ⟨k, ((k - 1 : Nat) : Int), sd (k - 1), k, sd k⟩ ∧ e = .returned (.agg m.C) ∧ Grew w w' := by
 have := saw_ok s ⟨(k : Int), sd k, none, 0⟩ (safP k) (sd_lt' k (by omega)) (ks_some k (k + 1) (by omega) (by omega)) w h
 dsimp only at this
 rw [hs, fS_end k hk2] at this
 exact this
set_option maxRecDepth 100000 in
set_option maxHeartbeats 2000000 in
theorem safeHolds_law (n vw qc : Int) (hn0 : 0 ≤ n) (hn1 : n ≤ 255) (hv0 : 0 ≤ vw) (hv1 : vw ≤ 255) (hq0 : 0 ≤ qc) (hq1 : qc ≤ 255) (w : World) (hS : Std w) : Calls Tryd.prog 5 #[.int .u8 n, .int .u8 vw, .int .u8 qc] w fun e w' => e = .returned (.bool true) ∧ Grew w w' := by
 obtain ⟨i0, hi, hz0, hz1, hz2⟩ := info_parts nbz_inf
 have hub := Tryd.underlying33
 have hus := Tryd.underlying50
 have huq := Tryd.underlying30
 have HS := Lib.hid hS
 have HV := Lib.hid (show 0 ≤ vw ∧ vw ≤ 255 from ⟨hv0, hv1⟩)
 have HQ := Lib.hid (show 0 ≤ qc ∧ qc ≤ 255 from ⟨hq0, hq1⟩)
 clear hS hv0 hv1 hq0 hq1
 go_enter Tryd.func5, Tryd.ntmps5
 go_wp2_with fail
 refine (known18_ok w HS.out).mono ?_
 rintro e w1 ⟨rfl, g1⟩
 go_wp2_with fail
 refine (newB w1).mono ?_
 rintro e w2 ⟨t, mb, rfl, T2, htw, hmw, g2⟩
 have G2 := grew_trans g1 g2
 obtain ⟨N, hN⟩ : ∃ N : Nat, 2 + n % 8 = (N : Int) := ⟨(2 + n % 8).toNat, by omega⟩
 have hN2 : 2 ≤ N := by omega
 have hN9 : N ≤ 9 := by omega
 go_wp2_with fail
 clear hN hn0 hn1
 have CG := Lib.hid (genesis_ok w2)
 refine (CG.out).mono ?_
 rintro e w3 ⟨rfl, g3⟩
 obtain ⟨w4, hw4, ht4, g4, z4⟩ := ltput_any w3 33 (#[.int .i64 0, .int .u64 0, .int .i64 0, .int .u64 0, .slice none 0 0, .int .i64 0, .int .i64 0, .slice none 0 0] : Array Value) bb0.z.C rfl
 have HW4 := Lib.hid hw4
 have HT4 := Lib.hid ht4
 have SIZ0 : Hid ((Tryd.prog.info? 33).map (·.size) = some bb0.z.C.size) := Lib.hid nb_info
 have HO0 := Lib.hid bb0.z.one
 have T4 := T2.gr (grew_trans g3 g4)
 have G4 := grew_trans G2 (grew_trans g3 g4)
 have tl := T2.lt
 have hs3 := g3.size
 have hq4 := z4.lt
 have HHS := Lib.hid (show t < w3.heap.size ∧ mb < w3.heap.size by omega)
 have HWB := Lib.hid (show w.heap.size ≤ t ∧ w.heap.size ≤ mb ∧ w.heap.size ≤ w3.heap.size from ⟨Nat.le_trans g1.size htw, Nat.le_trans g1.size hmw, Nat.le_trans G2.size g3.size⟩)
 have HZ4 := Lib.hid z4
 have HTT4 := Lib.hid T4
 have HG4 := Lib.hid G4
 have HQ4 := Lib.hid hq4
 clear hw4 ht4 g1 g2 g3 g4 z4 T2 T4 G2 G4 htw hmw tl hs3 hq4 CG
 go_wp2_with (with_reducible refine wpList_store_mid rfl 33 (.tmp 10) (.tmp 29) rfl w3.heap.size 0 bb0.z.C rfl rfl HT4.out SIZ0.out HO0.out ?_; rw [HW4.out])
 obtain ⟨qP, hqP⟩ : ∃ q, w3.heap.size = q := ⟨_, rfl⟩
 rw [hqP] at HZ4 HHS HWB HQ4 ⊢
 clear hqP HT4 SIZ0 HO0 HW4
 generalize w4 = w5 at *
 obtain ⟨B0, hB0⟩ : ∃ b, w5.heap.size = b := ⟨_, rfl⟩
 have HB0 := Lib.hid hB0
 clear hB0
 have HN2 := Lib.hid hN2
 have HN9 := Lib.hid hN9
 have HB1 : Hid (qP < B0) := Lib.hid (by rw [← HB0.out]; exact HQ4.out)
 go_loopw [9, 11] (fun rv iv wr => ∃ (k : Nat) (pl : Value), pl = rv ∧ k ≤ N ∧ iv = .int .i64 ((k : Int) + 1) ∧ wr.ownsRow B0 33 8 pl k (blkL k).flatten ∧ Ag wr qP (safP k).z.C.toList ∧ TreeB wr t mb (KS.take (k + 1)) ∧ Grew w wr ∧ B0 ≤ wr.heap.size) (fun _ iv _ => N + 1 - (Go.RowKit.intOf iv).toNat)
 case atStart => exact ⟨0, _, rfl, Nat.zero_le _, rfl, World.ownsRow_nil _ _ _ _, HZ4.out, HTT4.out, HG4.out, by rw [HB0.out]; exact Nat.le_refl _⟩
 case round =>
  clear HZ4 HTT4 HG4
  obtain ⟨k, pl, hpl, hk, rfl, hrow, zP, TK, hg, hBw⟩ := hrel
  subst hpl
  by_cases hlt : k < N
  ·have hk9 : k < 9 := by omega
   have e1 : decide ((k : Int) + 1 ≤ (N : Int)) = true := decide_eq_true (by omega)
   have HLT := Lib.hid hlt
   have HK9 := Lib.hid hk9
   clear hlt hk hk9
   go_upto_region 12 with fail
   have HROW := Lib.hid hrow
   have HZP := Lib.hid zP
   have HTK := Lib.hid TK
   have HGW := Lib.hid hg
   have HBW := Lib.hid hBw
   have HPM : Hid (∀ y, Grew wr y → y.rangeAt qP 0 (safP k).z.C.toList) := Lib.hid (fun y g => (HZP.out.grew g).cell)
   have HPH : Hid (∀ y, Grew wr y → y.cell? ⟨qP, 6, none⟩ = some (.int .i64 (5 * (k : Int)))) := Lib.hid (fun y g => by have := (HZP.out.grew g).cell 6 (.int .i64 (safP k).hi) rfl; rw [safP_hi] at this; simpa using this)
   have CD := Lib.hid (fun W hW => bdig (safP k).z (safP_ok k (by have := HK9.out; omega)) (sd k) (safP_dig k (by have := HK9.out; omega)) W hW)
   have SIP : Hid ((Tryd.prog.info? 33).map (·.size) = some (safP k).z.C.toList.length) := Lib.hid nb_info
   have e42 : IntKind.i64.wrap (5 * (k : Int) + 5) = 5 * (k : Int) + 5 := IntWalk.i64_in _ (by have := HK9.out; omega)
   clear hrow zP TK hg hBw e1
   refine wp_region_rel 10 (fun ix9 => match ix9 with
    | 0 => fun v _ => v = .int .i64 ((k : Int) + 1)
    | 1 => fun v _ => v = .agg (safP k).z.C
    | 2 => fun v _ => v = .int .u64 (sd k : Nat)
    | 3 => fun v _ => v = .pointer (some ⟨qP, 6, none⟩)
    | 4 => fun v _ => v = .int .i64 (5 * (k : Int))
    | 5 => fun v _ => v = .pointer (some ⟨qP, 6, none⟩)
    | 6 => fun v _ => v = .int .i64 (5 * (k : Int))
    | 7 => fun v _ => v = .int .i64 (5 * (k : Int) + 5)
    | 8 => fun v _ => v = .agg (bbB ((k : Int) + 1) (sd k) (5 * (k : Int)) (5 * (k : Int) + 5)).z.C
    | 9 => fun v z => AgF wr (#[.int .i64 0, .int .u64 0, .int .i64 0, .int .u64 0, .slice none 0 0, .int .i64 0, .int .i64 0, .slice none 0 0] : Array Value).toList v z
    | _ => fun _ _ => True) (by kernel_rfl) (by kernel_rfl) ?_ ?_ ?_
   ·intro i v x y h hg
    match i, h with
    | 0, h | 1, h | 2, h | 3, h | 4, h | 5, h | 6, h | 7, h | 8, h => exact h
    | 9, h => exact AgF.gr h hg
    | m + 10, _ => trivial
   ·refine ⟨?_, ?_, ?_, ?_, ?_, ?_, ?_, ?_, ?_, ?_, trivial⟩
    ·intro vs y hg hd
     simp only [actOf, tk1, tk0, dr1, dr0, Act.put, si1, st1, st0, Nat.reduceAdd]
     go_wp2_with fail
     exact ⟨rfl, _, rfl, grew_refl _, rfl⟩
    ·intro vs y hg hd
     simp only [actOf, tk1, tk0, dr1, dr0, Act.put, si1, st1, st0, Nat.reduceAdd]
     have hm := HPM.out y hg
     go_wp2_with (with_reducible refine wpList_load_mid rfl 33 (.tmp 10) rfl qP 0 rfl (safP k).z.C.toList _ hm hub rfl SIP.out ?_; simp only [Array.toArray_toList])
     exact ⟨rfl, _, rfl, grew_refl _, rfl⟩
    ·intro vs y hg hd
     obtain ⟨h1, _⟩ := hd
     replace h1 := h1 rfl
     simp only [actOf, tk1, tk0, dr1, dr0, Act.put, si1, st1, st0, Nat.reduceAdd]
     rw [show vs 1 = _ from h1]
     go_wp2_with (go_at_call 10; refine (CD.out y (HS.out.grew (grew_trans HGW.out hg))).mono ?_; rintro e z ⟨rfl, gz⟩)
     exact ⟨rfl, _, rfl, gz, rfl⟩
    ·intro vs y hg hd
     simp only [actOf, tk1, tk0, dr1, dr0, Act.put, si1, st1, st0, Nat.reduceAdd]
     go_wp2_with fail
     exact ⟨rfl, _, rfl, grew_refl _, rfl⟩
    ·intro vs y hg hd
     obtain ⟨h3, _⟩ := hd
     replace h3 := h3 rfl
     simp only [actOf, tk1, tk0, dr1, dr0, Act.put, si1, st1, st0, Nat.reduceAdd]
     rw [show vs 3 = _ from h3]
     have hc := HPH.out y hg
     go_wp2_with fail
     exact ⟨rfl, _, rfl, grew_refl _, rfl⟩
    ·intro vs y hg hd
     simp only [actOf, tk1, tk0, dr1, dr0, Act.put, si1, st1, st0, Nat.reduceAdd]
     go_wp2_with fail
     exact ⟨rfl, _, rfl, grew_refl _, rfl⟩
    ·intro vs y hg hd
     obtain ⟨h5, _⟩ := hd
     replace h5 := h5 rfl
     simp only [actOf, tk1, tk0, dr1, dr0, Act.put, si1, st1, st0, Nat.reduceAdd]
     rw [show vs 5 = _ from h5]
     have hc := HPH.out y hg
     go_wp2_with fail
     exact ⟨rfl, _, rfl, grew_refl _, rfl⟩
    ·intro vs y hg hd
     obtain ⟨h6, _⟩ := hd
     replace h6 := h6 rfl
     simp only [actOf, tk1, tk0, dr1, dr0, Act.put, si1, st1, st0, Nat.reduceAdd]
     rw [show vs 6 = _ from h6]
     go_wp2_with fail
     exact ⟨rfl, _, rfl, grew_refl _, rfl⟩
    ·intro vs y hg hd
     obtain ⟨h0, h2, h4, h7, _⟩ := hd
     replace h0 := h0 rfl
     replace h2 := h2 rfl
     replace h4 := h4 rfl
     replace h7 := h7 rfl
     simp only [actOf, tk1, tk0, dr1, dr0, Act.put, si1, st1, st0, Nat.reduceAdd]
     rw [show vs 0 = _ from h0, show vs 2 = _ from h2, show vs 4 = _ from h4, show vs 7 = _ from h7]
     go_wp2_with (go_at_call 8; refine (lawB_ok ((k : Int) + 1) (sd k) (5 * (k : Int)) (5 * (k : Int) + 5) y).mono ?_; rintro e z ⟨rfl, gz⟩)
     exact ⟨rfl, _, rfl, gz, rfl⟩
    ·intro vs y hg hd
     simp only [actOf, tk1, tk0, dr1, dr0, Act.put, si1, st1, st0, Nat.reduceAdd]
     go_wp2_with fail
     exact ⟨rfl, _, rfl, grew_alloc (grew_refl _) _, ⟨y.heap.size, rfl, Ag.new y 33 (#[.int .i64 0, .int .u64 0, .int .i64 0, .int .u64 0, .slice none 0 0, .int .i64 0, .int .i64 0, .slice none 0 0] : Array Value), hg.size, grew_alloc hg _⟩⟩
   ·intro vs y hg hJ
    have j0 : vs 0 = .int .i64 ((k : Int) + 1) := hJ 0 (by decide)
    have j1 : vs 1 = .agg (safP k).z.C := hJ 1 (by decide)
    have j2 : vs 2 = .int .u64 (sd k : Nat) := hJ 2 (by decide)
    have j3 : vs 3 = .pointer (some ⟨qP, 6, none⟩) := hJ 3 (by decide)
    have j4 : vs 4 = .int .i64 (5 * (k : Int)) := hJ 4 (by decide)
    have j5 : vs 5 = .pointer (some ⟨qP, 6, none⟩) := hJ 5 (by decide)
    have j6 : vs 6 = .int .i64 (5 * (k : Int)) := hJ 6 (by decide)
    have j7 : vs 7 = .int .i64 (5 * (k : Int) + 5) := hJ 7 (by decide)
    have j8 : vs 8 = .agg (bbB ((k : Int) + 1) (sd k) (5 * (k : Int)) (5 * (k : Int) + 5)).z.C := hJ 8 (by decide)
    have s12 := hJ 9 (by decide)
    clear hJ
    simp only [actOf, tk1, tk0, dr1, dr0, Act.put, si1, st1, st0, Nat.reduceAdd]
    obtain ⟨qb, e9, zb, hqb, _⟩ := s12.out
    rw [e9, j8]
    clear j0 j1 j2 j3 j4 j5 j6 j7 j8 s12 e9
    obtain ⟨b0, hb0⟩ : ∃ n : NB, (bbB ((k : Int) + 1) (sd k) (5 * (k : Int)) (5 * (k : Int) + 5)).z = n := ⟨_, rfl⟩
    rw [hb0]
    have eB : b0.C.toList.take 2 ++ [Value.int .i64 (k : Int)] ++ b0.C.toList.drop (2 + [Value.int .i64 (k : Int)].length) = (safP (k + 1)).z.C.toList := by rw [← hb0]; rfl
    have hHS := HHS.out
    have hWB := HWB.out
    have hBW := HBW.out
    have hB1 := HB1.out
    have hgs := hg.size
    have G5 := grew_trans HGW.out hg
    have zP := HZP.out.grew hg
    have TK := HTK.out.gr hg
    have hrow := ownsRow_gr HROW.out hg
    have hown := ownsRow_lt HROW.out
    have HTB : Hid (y.there qb 0 b0.C.size) := Lib.hid (zb.thereN 8 rfl)
    have SIB : Hid ((Tryd.prog.info? 33).map (·.size) = some b0.C.size) := Lib.hid nb_info
    have HOB := Lib.hid b0.one
    have z1 := Ag.set (vs := b0.C.toList) zb rfl
    have k1 := setCells_kp b0.C.toList qb 0 y
    have zP1 := zP.kp k1 (fun e => by omega)
    have TK1 := TK.kp k1 (fun e => by omega) (fun e => by omega)
    have row1 := ownsRow_kp hrow k1 (fun g h1 h2 => by have := hown g h1; omega)
    have G6 : Grew w (y.setCells qb 0 b0.C.toList) := setCells_grew (o := 0) (b := qb) _ G5 (by omega)
    have cP0 : (y.setCells qb 0 b0.C.toList).cell? ⟨qP, 0, none⟩ = some (.int .i64 (k : Int)) := by have := zP1.cell 0 (.int .i64 (safP k).v) rfl; rw [safP_v] at this; simpa using this
    have cb2 : (y.setCells qb 0 b0.C.toList).cell? ⟨qb, 2, none⟩ = some (.int .i64 0) := by have := z1.cell 2 (.int .i64 0) (by rw [← hb0]; rfl); simpa using this
    have fb2 : (y.setCells qb 0 b0.C.toList).frozen? ⟨qb, 2, none⟩ = false := by have := (z1.there 2 (by rw [← hb0]; simp [NB.C])).2; simpa using this
    have z2 := z1.putMid 2 [.int .i64 (k : Int)] (by rw [← hb0]; simp [NB.C])
    rw [eB] at z2
    have k2 := setCells_kp [.int .i64 (k : Int)] qb 2 (y.setCells qb 0 b0.C.toList)
    have zP2 := zP1.kp k2 (fun e => by omega)
    have TK2 := TK1.kp k2 (fun e => by omega) (fun e => by omega)
    have row2 := ownsRow_kp row1 k2 (fun g h1 h2 => by have := hown g h1; omega)
    have G7 : Grew w ((y.setCells qb 0 b0.C.toList).setCells qb 2 [.int .i64 (k : Int)]) := setCells_grew (o := 2) (b := qb) _ G6 (by omega)
    have hs7 := (kp_trans (S := fun j => j = qb) k1 k2).size
    obtain ⟨wa, hwa⟩ : ∃ v, y.setCells qb 0 b0.C.toList = v := ⟨_, rfl⟩
    rw [hwa] at cP0 cb2 fb2 z2 zP2 TK2 row2 G7 hs7
    obtain ⟨wb, hwb⟩ : ∃ v, wa.setCells qb 2 [.int .i64 (k : Int)] = v := ⟨_, rfl⟩
    rw [hwb] at z2 zP2 TK2 row2 G7 hs7
    rw [show wa.setCells qb 2 [.int .i64 (k : Int)] = wa.setCell ⟨qb, 2, none⟩ (.int .i64 (k : Int)) from rfl] at hwb
    have HWA := Lib.hid hwa
    have HWBB := Lib.hid hwb
    have hmb := z2.cell
    have SIN : Hid ((Tryd.prog.info? 33).map (·.size) = some (safP (k + 1)).z.C.toList.length) := Lib.hid nb_info
    have CA := Lib.hid (addB_yes (K := KS.take (k + 1)) (safP (k + 1)).z (safP_ok (k + 1) (by have := HK9.out; omega)) (sd (k + 1)) (safP_dig (k + 1) (by have := HK9.out; omega)) (safP k) (ks_none (k + 1) (by have := HK9.out; omega)) (ks_some k (k + 1) (by omega) (by have := HK9.out; omega)) (by show (safP k).v < (safP (k + 1)).v; rw [safP_v, safP_v]; omega) (by show (safP (k + 1)).lo = (safP k).hi; rw [safP_hi]; rfl) (by rw [List.length_take, KS_len]; omega) wb (HS.out.grew G7) TK2)
    have HZ2 := Lib.hid z2
    have HZP2 := Lib.hid zP2
    have HR2 := Lib.hid row2
    have HG7 := Lib.hid G7
    have HNX : Hid (qb ≠ mb ∧ qP ≠ mb ∧ qb ≠ qP ∧ t ≠ qP ∧ mb < B0 ∧ t < B0 ∧ w.heap.size ≤ qP) := Lib.hid (by omega)
    have HOW : Hid (∀ g, pl.ownBlock = some g → B0 ≤ g ∧ g < qb) := Lib.hid (fun g h => by have := hown g h; omega)
    have HW7 : Hid (B0 ≤ wb.heap.size) := Lib.hid (by omega)
    clear hb0 eB hHS hWB hBW hB1 hgs G5 zP TK hrow hown zb z1 k1 zP1 TK1 row1 G6 z2 k2 zP2 TK2 row2 G7 hs7 hwa hwb hg HPM HPH CD HROW HZP HTK HGW HBW e42 SIP hqb
    go_upto_region 14 with (with_reducible refine wpList_store_mid rfl 33 (.tmp 12) (.tmp 43) rfl qb 0 b0.C rfl rfl HTB.out SIB.out HOB.out ?_; rw [HWA.out])
    rw [HWBB.out]
    clear cP0 cb2 fb2 HTB SIB HOB HWA HWBB
    go_wp2_with (with_reducible refine wpList_load_mid rfl 33 (.tmp 12) rfl qb 0 rfl (safP (k + 1)).z.C.toList _ hmb hub rfl SIN.out ?_; simp only [Array.toArray_toList])
    refine (CA.out).mono ?_
    rintro e w7 ⟨rfl, T7, k7⟩
    have hx := HNX.out
    have z7 := HZ2.out.kp k7 hx.1
    have zP7 := HZP2.out.kp k7 hx.2.1
    have row7 := ownsRow_kp HR2.out k7 (fun g h1 h2 => by have := HOW.out g h1; have h2 : g = mb := h2; omega)
    have G8 : Grew w w7 := below_kp HG7.out k7 HG7.out.size (fun i e => by have e' : i = mb := e; rw [e']; exact HWB.out.2.1)
    have hm7 := z7.cell
    have HT7 : Hid (TreeB w7 t mb (KS.take (k + 2))) := Lib.hid (by rw [KS_take (k + 1) (by have := HK9.out; omega)]; exact T7)
    have HZ7 := Lib.hid z7
    have HZP7 := Lib.hid zP7
    have HG8 := Lib.hid G8
    have hs8 : B0 ≤ w7.heap.size := Nat.le_trans HW7.out k7.size
    have hK9 := HK9.out
    obtain ⟨gb, hgb⟩ : ∃ g, (safP (k + 1)).z.C = g := ⟨_, rfl⟩
    have HGB := Lib.hid hgb
    have h8 : gb.size = 8 := by rw [← hgb]; rfl
    have HG88 := Lib.hid h8
    have hon : ∀ u ∈ gb.toList, u.oneCell' = true := fun u hu => by
     have := Array.all_eq_true_iff_forall_mem.1 (NB.one (safP (k + 1)).z) u
     rw [hgb] at this
     exact this (by simpa using hu)
    have hfold : Array.foldl (fun (cs : Array Value) (x : Value × Nat) => cs.setIfInBounds x.snd x.fst) ((#[.int .i64 0, .int .u64 0, .int .i64 0, .int .u64 0, .slice none 0 0, .int .i64 0, .int .i64 0, .slice none 0 0] : Array Value)) gb.zipIdx 0 8 = gb := by rw [← hgb]; kernel_rfl
    have HON := Lib.hid hon
    have HFO := Lib.hid hfold
    rw [hgb] at hm7 SIN
    clear hgb h8 hon hfold T7 k7 z7 zP7 G8 CA hmb HZ2 HZP2 HR2 HG7 HW7
    have SIG : Hid ((Tryd.prog.info? 33).map (·.size) = some gb.size) := Lib.hid (by rw [HG88.out]; exact nb_info)
    have HOG : Hid (gb.all (·.oneCell') = true) := Lib.hid (by rw [← HGB.out]; exact NB.one _)
    have e11 : IntKind.i64.wrap ((k : Int) + 1 + 1) = ((k + 1 : Nat) : Int) + 1 := by rw [IntWalk.i64_in _ (by omega)]; omega
    have HX := Lib.hid hx
    have HK99 := Lib.hid hK9
    have h88 := HG88.out
    go_wp2_with (first
     | (with_reducible refine wpList_load_mid rfl 33 (.tmp 12) rfl qb 0 rfl gb.toList _ hm7 hub rfl SIN.out ?_; simp only [Array.toArray_toList])
     | (at_builtin; rw [HFO.out]; refine ltwpList_append_at _ rfl (.tmp 52) (.tmp 54) 45 rfl B0 33 i0 (.agg (#[.int .i64 0, .int .u64 0, .int .i64 0, .int .u64 0, .slice none 0 0, .int .i64 0, .int .i64 0, .slice none 0 0] : Array Value)) 8 96 Tryd.underlying45 hi hz0 hz1 hz2 rfl (by decide) _ k _ rfl (row7.alloc _) ⟨w7.heap.size, 0, none⟩ 1 1 gb.toList rfl (by rw [Array.length_toList, HG88.out]) (fun j u hj => ltcell_new24 w7 gb 33 j u hj) HON.out (by unfold maxLen; omega) (by omega) (by rw [alloc_size]; omega) ?_; intro v' w8 hown8 hgr8 hob8; have ga := grew_alloc (grew_refl w7) (.cells gb 33); have k8 : Kp (fun i => pl.ownBlock = some i) (w7.alloc (.cells gb 33)) w8 := kp_grown (kp_refl _ _) hgr8 (fun g h => .inl h); have z8 := (HZ7.out.grew ga).kp k8 (fun h => by (have := HOW.out _ h; omega)); have hm8 : w8.rangeAt qb 0 gb.toList := (by have := z8.cell; rw [HGB.out] at this; exact this); have zP8 := (HZP7.out.grew ga).kp k8 (fun h => by (have := HOW.out _ h; have := HB1.out; omega)); have HTH8 : Hid (w8.there qP 0 gb.size) := Lib.hid (zP8.thereN gb.size (by rw [HG88.out]; rfl)))
     | (with_reducible refine wpList_load_mid rfl 33 (.tmp 12) rfl qb 0 rfl gb.toList _ hm8 hub rfl SIN.out ?_; simp only [Array.toArray_toList])
     | (with_reducible refine wpList_store_mid rfl 33 (.tmp 10) (.tmp 56) rfl qP 0 gb rfl rfl HTH8.out SIG.out HOG.out ?_))
    have G9 : Grew w w8 := (grew_alloc HG8.out _).grown hgr8 (by have := HG8.out.size; simp; omega) (fun g h => by have := HOW.out g h; have := HX.out; have := HB1.out; omega)
    have T8 := (HT7.out.gr ga).kp k8 (fun h => by have := HOW.out _ h; have := HX.out; omega) (fun h => by have := HOW.out _ h; have := HX.out; omega)
    have kq := setCells_kp gb.toList qP 0 w8
    have zP9 := Ag.set (vs := gb.toList) zP8 (by rw [Array.length_toList, HG88.out]; rfl)
    have T9 := T8.kp kq (fun e => by have := HX.out; have e : t = qP := e; omega) (fun e => by have := HX.out; have e : mb = qP := e; omega)
    have row9 := ownsRow_kp hown8 kq (fun g h1 h2 => by
     have h2 : g = qP := h2
     have h3 := HB1.out
     rcases hob8 with h4 | h4
     ·rw [h4] at h1; have := HOW.out g h1; omega
     ·rw [h4] at h1; injection h1 with h1; rw [alloc_size] at h1; omega)
    have G10 : Grew w (w8.setCells qP 0 gb.toList) := setCells_grew (o := 0) (b := qP) _ G9 (by have := HX.out; omega)
    have hs9 : B0 ≤ (w8.setCells qP 0 gb.toList).heap.size := Nat.le_trans hs8 (Nat.le_trans (Nat.le_trans (by rw [alloc_size]; omega) k8.size) kq.size)
    go_roundw
    case rel =>
     refine ⟨k + 1, _, rfl, by have := HLT.out; omega, by go_num, ?_, by rw [HGB.out]; exact zP9, T9, G10, hs9⟩
     rw [blkL_snoc, HGB.out]
     exact row9
    case measure => have := HLT.out; simp [Go.RowKit.intOf]; omega
  ·obtain rfl : k = N := by omega
   have e1 : decide ((k : Int) + 1 ≤ (k : Int)) = false := decide_eq_false (by omega)
   have hk2 := HN2.out
   have hk9 := HN9.out
   clear hlt hk zP HN2 HN9 hBw
   obtain ⟨A, c, rfl, hRd, _, _, hAb⟩ := ltown_rdC hrow (blkL_z k) (by decide) (blkL_len k)
   obtain ⟨gA, rfl, _, _⟩ := hRd 0 (by rw [blkL_len]; omega)
   have hgA := hAb _ rfl
   have hgA2 : gA < wr.heap.size := hgA.2
   clear hAb hrow hgA
   obtain ⟨N1, hN1⟩ : ∃ N1, k = N1 + 1 := ⟨k - 1, by omega⟩
   obtain ⟨N2, hN2⟩ : ∃ N2, N1 = N2 + 1 := ⟨N1 - 1, by omega⟩
   have HK1 := Lib.hid hN1
   have HK2 := Lib.hid hN2
   have HK9 := Lib.hid hk9
   have HK22 := Lib.hid hk2
   clear hN1 hN2
   go_wp2_with fail
   refine (snew_ok wr).mono ?_
   rintro e w6 ⟨rfl, g6⟩
   obtain ⟨w7, hw7, ht7, gs7, z7⟩ := ltput_any w6 50 (#[.int .i64 0, .int .i64 0, .int .u64 0, .slice none 0 0, .int .i64 0, .int .u64 0, .slice none 0 0] : Array Value) sv0.C rfl
   have HW7 := Lib.hid hw7
   have HT7 := Lib.hid ht7
   have SIZ7 : Hid ((Tryd.prog.info? 50).map (·.size) = some sv0.C.size) := Lib.hid sf_info
   have HO7 := Lib.hid sv0.one
   have g67 := grew_trans g6 gs7
   have HRD := Lib.hid (show ltRdC w7 (some ⟨gA, 0, none⟩) 8 (blkL k) from hRd.gr g67)
   have HT77 := Lib.hid (TK.gr g67)
   have HG7 := Lib.hid (grew_trans hg g67)
   have HZ7 := Lib.hid z7
   have hlts := z7.lt
   have tlk := TK.lt
   have hs6 := g6.size
   have HSL := Lib.hid hlts
   have HNE : Hid (gA ≠ w6.heap.size ∧ t ≠ w6.heap.size ∧ mb ≠ w6.heap.size ∧ w.heap.size ≤ w6.heap.size) := Lib.hid (by have := hg.size; omega)
   clear hw7 ht7 gs7 g6 z7 g67 hRd TK hg hlts tlk hs6 hgA2
   go_wp2_with (with_reducible refine wpList_store_mid rfl 50 (.tmp 13) (.tmp 57) rfl w6.heap.size 0 sv0.C rfl rfl HT7.out SIZ7.out HO7.out ?_; rw [HW7.out])
   obtain ⟨qS, hqS⟩ : ∃ q, w6.heap.size = q := ⟨_, rfl⟩
   rw [hqS] at HZ7 HNE HSL ⊢
   clear hqS HW7 HT7 SIZ7 HO7
   go_loopw [14] (fun iv wr => ∃ (j : Nat) (s : SV), j ≤ k ∧ iv = .int .i64 (j : Int) ∧ s.f = fS j ∧ Ag wr qS s.C.toList ∧ ltRdC wr (some ⟨gA, 0, none⟩) 8 (blkL k) ∧ TreeB wr t mb (KS.take (k + 1)) ∧ Grew w wr ∧ qS < wr.heap.size) (fun iv _ => k - (Go.RowKit.intOf iv).toNat)
   case atStart => exact ⟨0, sv0, Nat.zero_le _, rfl, rfl, HZ7.out, HRD.out, HT77.out, HG7.out, HSL.out⟩
   case round =>
    clear HZ7 HRD HT77 HG7 HSL
    obtain ⟨j, s, hj, rfl, hf, zS, hRd, TK, hg, hqs⟩ := hrel
    by_cases hlt : j < k
    ·have e1 : decide ((j : Int) < (k : Int)) = true := decide_eq_true (by omega)
     have hj0 : (0 : Int) ≤ (j : Int) := by omega
     have hj1 : (j : Int) < (k : Int) := by omega
     have HLT := Lib.hid hlt
     have HF := Lib.hid hf
     have HZS := Lib.hid zS
     have HRD := Lib.hid hRd
     have HTK := Lib.hid TK
     have HGW := Lib.hid hg
     have HQS := Lib.hid hqs
     clear hlt hf zS hRd TK hg hqs hj hk2 hk9
     go_upto_region 22 with fail
     have HSM : Hid (∀ y, Grew wr y → y.rangeAt qS 0 s.C.toList) := Lib.hid (fun y g => (HZS.out.grew g).cell)
     have HRM : Hid (∀ y, Grew wr y → y.rangeAt gA (j * 8) (safP (j + 1)).z.C.toList) := Lib.hid (fun y g => by
      obtain ⟨q, e, _, h3⟩ := (HRD.out.gr g) j (by rw [blkL_len]; exact HLT.out)
      cases e
      rwa [blkL_get] at h3)
     have CV := Lib.hid (fun W hW hT => voteS (t := t) (mb := mb) k j HLT.out HK9.out s HF.out W hW hT)
     have SIS : Hid ((Tryd.prog.info? 50).map (·.size) = some s.C.toList.length) := Lib.hid sf_info
     have SIJ : Hid ((Tryd.prog.info? 33).map (·.size) = some (safP (j + 1)).z.C.toList.length) := Lib.hid nb_info
     clear e1
     refine wp_region_latev 11 12 (fun ix9 => match ix9 with
      | 0 => fun v => v = .agg s.C
      | 1 => fun v => v = .pointer (some ⟨t, 0, none⟩)
      | 2 => fun v => v = .slice (some ⟨gA, 0, none⟩) k c
      | 3 => fun v => v = .int .i64 (j : Int)
      | 4 => fun v => v = .pointer (some ⟨gA, j * 8, none⟩)
      | 5 => fun v => v = .agg (safP (j + 1)).z.C
      | 6 => fun v => VtS (fS (j + 1)) 0 v
      | 7 => fun v => VtS (fS (j + 1)) 0 v
      | 8 => fun v => SfS (fS (j + 1)) v
      | 9 => fun v => v = .int .i64 0
      | 10 => fun _ => True
      | 11 => fun _ => True
      | _ => fun _ => True) (fun ix9 => match ix9 with
      | 8 => fun lo hi v w => SfS (fS (j + 1)) v
      | 10 => fun lo hi v w => AgY w wr.heap.size lo hi (#[.int .i64 0, .int .i64 0, .int .u64 0, .slice none 0 0, .int .i64 0, .int .u64 0, .slice none 0 0] : Array Value).toList v
      | _ => fun _ _ _ _ => True) (fun ix9 => match ix9 with
      | ix8 => ix8) (fun ix9 => match ix9 with
      | ix8 => ix8) (fun ix9 => match ix9 with
      | 9 => true
      | _ => false) 10 (fun v W => SfF wr (fS (j + 1)) v W) rfl (by kernel_rfl) (by kernel_rfl) (by kernel_rfl) (by kernel_rfl) rfl rfl (by decide) (fun _ => trivial) ?_ ?_ ?_ ?_ (fun o ho => by cases ho; rfl) (fun v x y h hg => SfF.gr h hg) ?_
     ·refine ⟨?_, ?_, ?_, ?_, ?_, ?_, ?_, ?_, ?_, ?_, ?_, trivial⟩
      ·intro vs lo hi y hg hd hvia
       replace hg : Grew wr y := hg
       clear hvia
       simp only [actOf, tk1, tk0, dr1, dr0, Act.put, si1, st1, st0, Nat.reduceAdd]
       have hm := HSM.out y hg
       go_wp2_with (with_reducible refine wpList_load_mid rfl 50 (.tmp 13) rfl qS 0 rfl s.C.toList _ hm hus rfl SIS.out ?_; simp only [Array.toArray_toList])
       first | exact ⟨rfl, _, rfl, grew_refl _, rfl⟩ | exact ⟨rfl, _, rfl, grew_refl _, rfl, trivial⟩
      ·intro vs lo hi y hg hd hvia
       replace hg : Grew wr y := hg
       clear hvia
       simp only [actOf, tk1, tk0, dr1, dr0, Act.put, si1, st1, st0, Nat.reduceAdd]
       go_wp2_with fail
       first | exact ⟨rfl, _, rfl, grew_refl _, rfl⟩ | exact ⟨rfl, _, rfl, grew_refl _, rfl, trivial⟩
      ·intro vs lo hi y hg hd hvia
       replace hg : Grew wr y := hg
       clear hvia
       simp only [actOf, tk1, tk0, dr1, dr0, Act.put, si1, st1, st0, Nat.reduceAdd]
       go_wp2_with fail
       first | exact ⟨rfl, _, rfl, grew_refl _, rfl⟩ | exact ⟨rfl, _, rfl, grew_refl _, rfl, trivial⟩
      ·intro vs lo hi y hg hd hvia
       replace hg : Grew wr y := hg
       clear hvia
       simp only [actOf, tk1, tk0, dr1, dr0, Act.put, si1, st1, st0, Nat.reduceAdd]
       go_wp2_with fail
       first | exact ⟨rfl, _, rfl, grew_refl _, rfl⟩ | exact ⟨rfl, _, rfl, grew_refl _, rfl, trivial⟩
      ·intro vs lo hi y hg hd hvia
       replace hg : Grew wr y := hg
       obtain ⟨h2, h3, _⟩ := hd
       replace h2 := h2 rfl
       replace h3 := h3 rfl
       clear hvia
       simp only [actOf, tk1, tk0, dr1, dr0, Act.put, si1, st1, st0, Nat.reduceAdd]
       rw [show vs 2 = _ from h2, show vs 3 = _ from h3]
       go_wp2_with fail
       first | exact ⟨rfl, _, rfl, grew_refl _, rfl⟩ | exact ⟨rfl, _, rfl, grew_refl _, rfl, trivial⟩
      ·intro vs lo hi y hg hd hvia
       replace hg : Grew wr y := hg
       obtain ⟨h4, _⟩ := hd
       replace h4 := h4 rfl
       clear hvia
       simp only [actOf, tk1, tk0, dr1, dr0, Act.put, si1, st1, st0, Nat.reduceAdd]
       rw [show vs 4 = _ from h4]
       have hm := HRM.out y hg
       go_wp2_with (with_reducible refine wpList_load_mid rfl 33 (.tmp 68) rfl gA (j * 8) rfl (safP (j + 1)).z.C.toList _ hm hub rfl SIJ.out ?_; simp only [Array.toArray_toList])
       first | exact ⟨rfl, _, rfl, grew_refl _, rfl⟩ | exact ⟨rfl, _, rfl, grew_refl _, rfl, trivial⟩
      ·intro vs lo hi y hg hd hvia
       replace hg : Grew wr y := hg
       obtain ⟨h0, h1, h5, _⟩ := hd
       replace h0 := h0 rfl
       replace h1 := h1 rfl
       replace h5 := h5 rfl
       clear hvia
       simp only [actOf, tk1, tk0, dr1, dr0, Act.put, si1, st1, st0, Nat.reduceAdd]
       rw [show vs 0 = _ from h0, show vs 1 = _ from h1, show vs 5 = _ from h5]
       go_wp2_with (go_at_call 18; refine (CV.out y (HS.out.grew (grew_trans HGW.out hg)) (HTK.out.gr hg)).mono ?_; rintro e z ⟨m9, hm9, rfl, gz⟩)
       first | exact ⟨rfl, _, rfl, gz, ⟨m9, hm9, rfl⟩⟩ | exact ⟨rfl, _, rfl, gz, ⟨m9, hm9, rfl⟩, trivial⟩
      ·intro vs lo hi y hg hd hvia
       replace hg : Grew wr y := hg
       obtain ⟨h6, _⟩ := hd
       replace h6 := h6 rfl
       clear hvia
       simp only [actOf, tk1, tk0, dr1, dr0, Act.put, si1, st1, st0, Nat.reduceAdd]
       go_wp2_with fail
       first | exact ⟨rfl, _, rfl, grew_refl _, h6⟩ | exact ⟨rfl, _, rfl, grew_refl _, h6, trivial⟩
      ·intro vs lo hi y hg hd hvia
       replace hg : Grew wr y := hg
       obtain ⟨h7, _⟩ := hd
       replace h7 := h7 rfl
       clear hvia
       simp only [actOf, tk1, tk0, dr1, dr0, Act.put, si1, st1, st0, Nat.reduceAdd]
       obtain ⟨m9, hm9, e9⟩ := h7.out
       rw [e9]
       go_wp2_with fail
       first | exact ⟨rfl, _, rfl, grew_refl _, ⟨m9, hm9, rfl⟩⟩ | exact ⟨rfl, _, rfl, grew_refl _, ⟨m9, hm9, rfl⟩, ⟨m9, hm9, rfl⟩⟩
      ·intro vs lo hi y hg hd hvia
       replace hg : Grew wr y := hg
       obtain ⟨h7, _⟩ := hd
       replace h7 := h7 rfl
       clear hvia
       simp only [actOf, tk1, tk0, dr1, dr0, Act.put, si1, st1, st0, Nat.reduceAdd]
       obtain ⟨m9, hm9, e9⟩ := h7.out
       rw [e9]
       go_wp2_with fail
       first | exact ⟨rfl, _, rfl, grew_refl _, rfl⟩ | exact ⟨rfl, _, rfl, grew_refl _, rfl, trivial⟩
      ·intro vs lo hi y hg hd hvia
       replace hg : Grew wr y := hg
       clear hvia
       simp only [actOf, tk1, tk0, dr1, dr0, Act.put, si1, st1, st0, Nat.reduceAdd]
       go_wp2_with fail
       first | exact ⟨rfl, _, rfl, grew_alloc (grew_refl _) _, ⟨y.heap.size, rfl, Ag.new y 50 (#[.int .i64 0, .int .i64 0, .int .u64 0, .slice none 0 0, .int .i64 0, .int .u64 0, .slice none 0 0] : Array Value), hg.size, Nat.le_refl _, by show y.heap.size < (y.alloc _).heap.size; simp⟩⟩ | exact ⟨rfl, _, rfl, grew_alloc (grew_refl _) _, trivial, ⟨y.heap.size, rfl, Ag.new y 50 (#[.int .i64 0, .int .i64 0, .int .u64 0, .slice none 0 0, .int .i64 0, .int .u64 0, .slice none 0 0] : Array Value), hg.size, Nat.le_refl _, by show y.heap.size < (y.alloc _).heap.size; simp⟩⟩
     ·refine ⟨(fun h => absurd h (by decide)), (fun h => absurd h (by decide)), (fun h => absurd h (by decide)), (fun h => absurd h (by decide)), (fun h => absurd h (by decide)), (fun h => absurd h (by decide)), (fun h => absurd h (by decide)), (fun h => absurd h (by decide)), (fun h => absurd h (by decide)), ?_, (fun h => absurd h (by decide)), (fun h => absurd h (by decide)), trivial⟩
      ·intro _ vs y hd
       obtain ⟨h7, _⟩ := hd
       replace h7 := h7 rfl
       simp only [actOf, tk1, tk0, dr1, dr0, Act.put, si1, st1, st0, Nat.reduceAdd]
       obtain ⟨m9, hm9, e9⟩ := h7.out
       rw [e9]
       go_wp2_with fail
       first | exact ⟨rfl, _, rfl, grew_refl _, rfl⟩ | exact ⟨rfl, _, rfl, grew_refl _, rfl, trivial⟩
     ·intro i lo hi v x y h hg
      match i, h with
      | 8, h => exact h
      | 10, h => exact AgY.gr h hg
      | 0, _ => trivial
      | 1, _ => trivial
      | 2, _ => trivial
      | 3, _ => trivial
      | 4, _ => trivial
      | 5, _ => trivial
      | 6, _ => trivial
      | 7, _ => trivial
      | 9, _ => trivial
      | m + 11, _ => trivial
     ·intro vs lo hi y hg hJ hK hB hD
      replace hg : Grew wr y := hg
      have k71 := hK 8 (by decide) rfl
      have b71 := hB 8 (by decide) rfl
      have k15 := hK 10 (by decide) rfl
      have b15 := hB 10 (by decide) rfl
      have d71_15 := hD 8 (by decide) rfl 10 (by decide) rfl (by decide)
      clear hK hB hD
      have j0 : vs 0 = .agg s.C := hJ 0 (by decide) rfl
      have j1 : vs 1 = .pointer (some ⟨t, 0, none⟩) := hJ 1 (by decide) rfl
      have j2 : vs 2 = .slice (some ⟨gA, 0, none⟩) k c := hJ 2 (by decide) rfl
      have j3 : vs 3 = .int .i64 (j : Int) := hJ 3 (by decide) rfl
      have j4 : vs 4 = .pointer (some ⟨gA, j * 8, none⟩) := hJ 4 (by decide) rfl
      have j5 : vs 5 = .agg (safP (j + 1)).z.C := hJ 5 (by decide) rfl
      clear hJ
      simp only [actOf, tk1, tk0, dr1, dr0, Act.put, si1, st1, st0, Nat.reduceAdd]
      obtain ⟨m9, hm9, e50⟩ := SfS.out k71
      obtain ⟨q, e6, zq, hBq, hql, hqh⟩ := AgY.out k15
      rw [e6, e50]
      have HTH : Hid (y.there q 0 m9.C.size) := Lib.hid (zq.thereN 7 rfl)
      have SI9 : Hid ((Tryd.prog.info? 50).map (·.size) = some m9.C.size) := Lib.hid sf_info
      have HON := Lib.hid m9.one
      have z4 := Ag.set (vs := m9.C.toList) zq rfl
      have HFF : Hid (SfF wr (fS (j + 1)) (.pointer (some ⟨q, 0, none⟩)) (y.setCells q 0 m9.C.toList)) := Lib.hid ⟨q, m9, rfl, z4, hm9, by omega, setCells_grew (o := 0) (b := q) _ hg (by omega)⟩
      clear hg z4 zq
      go_wp2_with (with_reducible refine wpList_store_mid rfl 50 (.tmp 15) (.tmp 71) rfl q 0 m9.C rfl rfl HTH.out SI9.out HON.out ?_)
      exact HFF.out
     ·intro vs y hF hJ
      have j0 : vs 0 = .agg s.C := hJ 0 (by decide)
      have j1 : vs 1 = .pointer (some ⟨t, 0, none⟩) := hJ 1 (by decide)
      have j2 : vs 2 = .slice (some ⟨gA, 0, none⟩) k c := hJ 2 (by decide)
      have j3 : vs 3 = .int .i64 (j : Int) := hJ 3 (by decide)
      have j4 : vs 4 = .pointer (some ⟨gA, j * 8, none⟩) := hJ 4 (by decide)
      have j5 : vs 5 = .agg (safP (j + 1)).z.C := hJ 5 (by decide)
      have j9 : vs 9 = .int .i64 0 := hJ 9 (by decide)
      clear hJ
      simp only [actOf, tk1, tk0, dr1, dr0, Act.put, si1, st1, st0, Nat.reduceAdd]
      obtain ⟨q15, s1, e15, zs1, hf1, hq15, gU⟩ := hF.out
      rw [e15, j9]
      clear j0 j1 j2 j3 j4 j5 j9 hF e15
      have hm1 := zs1.cell
      have SI1 : Hid ((Tryd.prog.info? 50).map (·.size) = some s1.C.toList.length) := Lib.hid sf_info
      have SI2 : Hid ((Tryd.prog.info? 50).map (·.size) = some s1.C.size) := Lib.hid sf_info
      have HO1 := Lib.hid s1.one
      have zS9 := HZS.out.grew gU
      have HTH : Hid (y.there qS 0 s1.C.size) := Lib.hid (zS9.thereN 7 rfl)
      have hne := HNE.out
      have z2 := Ag.set (vs := s1.C.toList) zS9 rfl
      have k2 := setCells_kp s1.C.toList qS 0 y
      have R9 := (HRD.out.gr gU).kp k2 (fun q e h => by cases e; exact hne.1 h)
      have T9 := (HTK.out.gr gU).kp k2 hne.2.1 hne.2.2.1
      have G9 : Grew w (y.setCells qS 0 s1.C.toList) := setCells_grew (o := 0) (b := qS) _ (grew_trans HGW.out gU) hne.2.2.2
      have hs9 : qS < (y.setCells qS 0 s1.C.toList).heap.size := z2.lt
      have HF1 := Lib.hid hf1
      have e11 : IntKind.i64.wrap ((j : Int) + 1) = ((j + 1 : Nat) : Int) := by have := HK9.out; rw [IntWalk.i64_in _ (by omega)]; omega
      have HZ2 := Lib.hid z2
      have HR9 := Lib.hid R9
      have HT9 := Lib.hid T9
      have HG9 := Lib.hid G9
      have HS9 := Lib.hid hs9
      clear z2 k2 R9 T9 G9 hs9 zS9 zs1 hf1 hq15 gU hne HSM HRM CV SIS SIJ
      go_wp2_with (first
       | (with_reducible refine wpList_load_mid rfl 50 (.tmp 15) rfl q15 0 rfl s1.C.toList _ hm1 hus rfl SI1.out ?_; simp only [Array.toArray_toList])
       | (with_reducible refine wpList_store_mid rfl 50 (.tmp 13) (.tmp 75) rfl qS 0 s1.C rfl rfl HTH.out SI2.out HO1.out ?_))
      go_roundw
      case rel => exact ⟨j + 1, s1, by have := HLT.out; omega, by go_num, HF1.out, HZ2.out, HR9.out, HT9.out, HG9.out, HS9.out⟩
      case measure => have := HLT.out; simp [Go.RowKit.intOf]; omega
    ·obtain rfl : j = k := by omega
     have e1 : decide ((j : Int) < (j : Int)) = false := decide_eq_false (by omega)
     clear hlt hj
     go_upto_region 26 with fail
     clear e1
     have HSM : Hid (∀ y, Grew wr y → y.rangeAt qS 0 s.C.toList) := Lib.hid (fun y g => (zS.grew g).cell)
     have HRM : Hid (∀ y, Grew wr y → ∀ i i', i < j → i' = i + 1 → y.rangeAt gA (i * 8) (safP i').z.C.toList) := Lib.hid (fun y g i i' hi hi' => by
      obtain ⟨q, e, _, h3⟩ := (hRd.gr g) i (by rw [blkL_len]; exact hi)
      cases e
      rw [blkL_get] at h3
      rw [hi']; exact h3)
     have SIS : Hid ((Tryd.prog.info? 50).map (·.size) = some s.C.toList.length) := Lib.hid sf_info
     have SIJ : Hid ((Tryd.prog.info? 33).map (·.size) = some (safP j).z.C.toList.length) := Lib.hid nb_info
     have CD := Lib.hid (fun W hW => bdig (safP j).z (safP_ok j (by have := HK9.out; omega)) (sd j) (safP_dig j (by have := HK9.out; omega)) W hW)
     have CS := Lib.hid (fun W hT => sawS (t := t) (mb := mb) j HK22.out HK9.out s hf W hT)
     have HBQ : Hid (Tryd.prog.built 30 [(0, .int .i64 (j : Int)), (1, .int .u64 (sd j : Nat))] = some (qcC (j : Int) (sd j) none 0)) := Lib.hid (by kernel_rfl)
     have e81 : IntKind.i64.wrap ((j : Int) - 1) = (N1 : Int) := by have := HK1.out; have := HK9.out; rw [IntWalk.i64_in _ (by omega)]; omega
     have h1j : (N1 : Int) < (j : Int) := by have := HK1.out; omega
     have h10 : (0 : Int) ≤ (N1 : Int) := by omega
     have HTK := Lib.hid TK
     have HGW := Lib.hid hg
     have HZS := Lib.hid zS
     have HRD := Lib.hid hRd
     clear hf zS hRd TK hg hqs hk2 hk9
     refine wp_region_rel 11 (fun ix9 => match ix9 with
      | 0 => fun v _ => v = .agg s.C
      | 1 => fun v _ => v = .pointer (some ⟨t, 0, none⟩)
      | 2 => fun v _ => v = .int .i64 (j : Int)
      | 3 => fun v _ => v = .slice (some ⟨gA, 0, none⟩) j c
      | 4 => fun v _ => v = .int .i64 (j : Int)
      | 5 => fun v _ => v = .int .i64 (N1 : Int)
      | 6 => fun v _ => v = .pointer (some ⟨gA, N1 * 8, none⟩)
      | 7 => fun v _ => v = .agg (safP j).z.C
      | 8 => fun v _ => v = .int .u64 (sd j : Nat)
      | 9 => fun v _ => v = .agg (qcC (j : Int) (sd j) none 0)
      | 10 => fun v _ => SfS ⟨j, ((j - 1 : Nat) : Int), sd (j - 1), j, sd j⟩ v
      | _ => fun _ _ => True) (by kernel_rfl) (by kernel_rfl) ?_ ?_ ?_
     ·intro i v x y h hg
      match i, h with
      | 0, h | 1, h | 2, h | 3, h | 4, h | 5, h | 6, h | 7, h | 8, h | 9, h => exact h
      | 10, h => exact h
      | m + 11, _ => trivial
     ·refine ⟨?_, ?_, ?_, ?_, ?_, ?_, ?_, ?_, ?_, ?_, ?_, trivial⟩
      ·intro vs y hg hd
       simp only [actOf, tk1, tk0, dr1, dr0, Act.put, si1, st1, st0, Nat.reduceAdd]
       have hm := HSM.out y hg
       go_wp2_with (with_reducible refine wpList_load_mid rfl 50 (.tmp 13) rfl qS 0 rfl s.C.toList _ hm hus rfl SIS.out ?_; simp only [Array.toArray_toList])
       exact ⟨rfl, _, rfl, grew_refl _, rfl⟩
      ·intro vs y hg hd
       simp only [actOf, tk1, tk0, dr1, dr0, Act.put, si1, st1, st0, Nat.reduceAdd]
       go_wp2_with fail
       exact ⟨rfl, _, rfl, grew_refl _, rfl⟩
      ·intro vs y hg hd
       simp only [actOf, tk1, tk0, dr1, dr0, Act.put, si1, st1, st0, Nat.reduceAdd]
       go_wp2_with fail
       exact ⟨rfl, _, rfl, grew_refl _, rfl⟩
      ·intro vs y hg hd
       simp only [actOf, tk1, tk0, dr1, dr0, Act.put, si1, st1, st0, Nat.reduceAdd]
       go_wp2_with fail
       exact ⟨rfl, _, rfl, grew_refl _, rfl⟩
      ·intro vs y hg hd
       simp only [actOf, tk1, tk0, dr1, dr0, Act.put, si1, st1, st0, Nat.reduceAdd]
       go_wp2_with fail
       exact ⟨rfl, _, rfl, grew_refl _, rfl⟩
      ·intro vs y hg hd
       obtain ⟨h4, _⟩ := hd
       replace h4 := h4 rfl
       simp only [actOf, tk1, tk0, dr1, dr0, Act.put, si1, st1, st0, Nat.reduceAdd]
       rw [show vs 4 = _ from h4]
       go_wp2_with fail
       exact ⟨rfl, _, rfl, grew_refl _, rfl⟩
      ·intro vs y hg hd
       obtain ⟨h3, h5, _⟩ := hd
       replace h3 := h3 rfl
       replace h5 := h5 rfl
       simp only [actOf, tk1, tk0, dr1, dr0, Act.put, si1, st1, st0, Nat.reduceAdd]
       rw [show vs 3 = _ from h3, show vs 5 = _ from h5]
       go_wp2_with fail
       exact ⟨rfl, _, rfl, grew_refl _, rfl⟩
      ·intro vs y hg hd
       obtain ⟨h6, _⟩ := hd
       replace h6 := h6 rfl
       simp only [actOf, tk1, tk0, dr1, dr0, Act.put, si1, st1, st0, Nat.reduceAdd]
       rw [show vs 6 = _ from h6]
       have hm := HRM.out y hg N1 j (by have := HK1.out; omega) HK1.out
       go_wp2_with (with_reducible refine wpList_load_mid rfl 33 (.tmp 82) rfl gA (N1 * 8) rfl (safP j).z.C.toList _ hm hub rfl SIJ.out ?_; simp only [Array.toArray_toList])
       exact ⟨rfl, _, rfl, grew_refl _, rfl⟩
      ·intro vs y hg hd
       obtain ⟨h7, _⟩ := hd
       replace h7 := h7 rfl
       simp only [actOf, tk1, tk0, dr1, dr0, Act.put, si1, st1, st0, Nat.reduceAdd]
       rw [show vs 7 = _ from h7]
       go_wp2_with (go_at_call 10; refine (CD.out y (HS.out.grew (grew_trans HGW.out hg))).mono ?_; rintro e z ⟨rfl, gz⟩)
       exact ⟨rfl, _, rfl, gz, rfl⟩
      ·intro vs y hg hd
       obtain ⟨h2, h8, _⟩ := hd
       replace h2 := h2 rfl
       replace h8 := h8 rfl
       simp only [actOf, tk1, tk0, dr1, dr0, Act.put, si1, st1, st0, Nat.reduceAdd]
       rw [show vs 2 = _ from h2, show vs 8 = _ from h8]
       refine ltbuild_is rfl 30 #[(0, .tmp 78), (1, .tmp 84)] rfl (qcC (j : Int) (sd j) none 0) (by simpa [Act.eval] using HBQ.out) ?_
       go_wp2_with fail
       exact ⟨rfl, _, rfl, grew_refl _, rfl⟩
      ·intro vs y hg hd
       obtain ⟨h0, h1, h9, _⟩ := hd
       replace h0 := h0 rfl
       replace h1 := h1 rfl
       replace h9 := h9 rfl
       simp only [actOf, tk1, tk0, dr1, dr0, Act.put, si1, st1, st0, Nat.reduceAdd]
       rw [show vs 0 = _ from h0, show vs 1 = _ from h1, show vs 9 = _ from h9]
       go_wp2_with (go_at_call 19; refine (CS.out y (HTK.out.gr hg)).mono ?_; rintro e z ⟨m9, hm9, rfl, gz⟩)
       exact ⟨rfl, _, rfl, gz, ⟨m9, hm9, rfl⟩⟩
     ·intro vs y hg hJ
      have j0 : vs 0 = .agg s.C := hJ 0 (by decide)
      have j1 : vs 1 = .pointer (some ⟨t, 0, none⟩) := hJ 1 (by decide)
      have j2 : vs 2 = .int .i64 (j : Int) := hJ 2 (by decide)
      have j3 : vs 3 = .slice (some ⟨gA, 0, none⟩) j c := hJ 3 (by decide)
      have j4 : vs 4 = .int .i64 (j : Int) := hJ 4 (by decide)
      have j5 : vs 5 = .int .i64 (N1 : Int) := hJ 5 (by decide)
      have j6 : vs 6 = .pointer (some ⟨gA, N1 * 8, none⟩) := hJ 6 (by decide)
      have j7 : vs 7 = .agg (safP j).z.C := hJ 7 (by decide)
      have j8 : vs 8 = .int .u64 (sd j : Nat) := hJ 8 (by decide)
      have j9 : vs 9 = .agg (qcC (j : Int) (sd j) none 0) := hJ 9 (by decide)
      have s86 := hJ 10 (by decide)
      clear hJ
      simp only [actOf, tk1, tk0, dr1, dr0, Act.put, si1, st1, st0, Nat.reduceAdd]
      obtain ⟨m, hm, e86⟩ := s86.out
      rw [e86]
      have hne := HNE.out
      have zS9 := HZS.out.grew hg
      have HTH : Hid (y.there qS 0 m.C.size) := Lib.hid (zS9.thereN 7 rfl)
      have SI9 : Hid ((Tryd.prog.info? 50).map (·.size) = some m.C.size) := Lib.hid sf_info
      have HO9 := Lib.hid m.one
      have z2 := Ag.set (vs := m.C.toList) zS9 rfl
      have k2 := setCells_kp m.C.toList qS 0 y
      have R9 := (HRD.out.gr hg).kp k2 (fun q e h => by cases e; exact hne.1 h)
      have T9 := (HTK.out.gr hg).kp k2 hne.2.1 hne.2.2.1
      have G9 : Grew w (y.setCells qS 0 m.C.toList) := setCells_grew (o := 0) (b := qS) _ (grew_trans HGW.out hg) hne.2.2.2
      obtain ⟨wa, hwa⟩ : ∃ v, y.setCells qS 0 m.C.toList = v := ⟨_, rfl⟩
      rw [hwa] at z2 R9 T9 G9
      have HWA := Lib.hid hwa
      have hfm : m.vt = (j : Int) ∧ m.l.v = (N1 : Int) ∧ m.l.b = sd N1 ∧ m.h.v = (j : Int) := by
       have h0 := HK1.out
       have := hm
       unfold SV.f at this
       injection this with h1 h2 h3 h4 h5
       exact ⟨h1, by rw [h2]; omega, by rw [h3]; congr 1; omega, h4⟩
      obtain ⟨f0, f1, f2, f4⟩ := hfm
      have HV0 : Hid (∀ y, Grew wa y → y.cell? ⟨qS, 0, none⟩ = some (.int .i64 (j : Int))) := Lib.hid (fun y g => by have := (z2.grew g).cell 0 _ rfl; rw [f0] at this; simpa using this)
      have HV1 : Hid (∀ y, Grew wa y → y.cell? ⟨qS, 1, none⟩ = some (.int .i64 (N1 : Int))) := Lib.hid (fun y g => by have := (z2.grew g).cell 1 _ rfl; rw [f1] at this; simpa using this)
      have HV2 : Hid (∀ y, Grew wa y → y.cell? ⟨qS, 2, none⟩ = some (.int .u64 (sd N1 : Nat))) := Lib.hid (fun y g => by have := (z2.grew g).cell 2 _ rfl; rw [f2] at this; simpa using this)
      have HV4 : Hid (∀ y, Grew wa y → y.cell? ⟨qS, 4, none⟩ = some (.int .i64 (j : Int))) := Lib.hid (fun y g => by have := (z2.grew g).cell 4 _ rfl; rw [f4] at this; simpa using this)
      have HR2 : Hid (∀ y, Grew wa y → y.rangeAt gA (N2 * 8) (safP N1).z.C.toList) := Lib.hid (fun y g => by
       obtain ⟨q, e, _, h3⟩ := (R9.gr g) N2 (by rw [blkL_len]; have := HK1.out; have := HK2.out; omega)
       cases e
       rw [blkL_get] at h3
       rw [HK2.out]; exact h3)
      have SI1 : Hid ((Tryd.prog.info? 33).map (·.size) = some (safP N1).z.C.toList.length) := Lib.hid nb_info
      have CD1 := Lib.hid (fun W hW => bdig (safP N1).z (safP_ok N1 (by have := HK9.out; have := HK1.out; omega)) (sd N1) (safP_dig N1 (by have := HK9.out; have := HK1.out; omega)) W hW)
      have e99 : IntKind.i64.wrap ((j : Int) - 2) = (N2 : Int) := by have := HK1.out; have := HK2.out; have := HK9.out; rw [IntWalk.i64_in _ (by omega)]; omega
      have h2j : (N2 : Int) < (j : Int) := by have := HK1.out; have := HK2.out; omega
      have h20 : (0 : Int) ≤ (N2 : Int) := by omega
      have HFM := Lib.hid hm
      have HZM := Lib.hid z2
      have HTM := Lib.hid T9
      have HGM := Lib.hid G9
      clear j0 j1 j2 j3 j4 j5 j6 j7 j8 j9 s86 e86 hne zS9 z2 k2 R9 T9 G9 hwa f0 f1 f2 f4 hm hg HSM HRM SIS SIJ CD CS HBQ HTK HGW HZS HRD
      go_upto_region 27 with (with_reducible refine wpList_store_mid rfl 50 (.tmp 13) (.tmp 86) rfl qS 0 m.C rfl rfl HTH.out SI9.out HO9.out ?_; rw [HWA.out])
      clear HTH SI9 HO9 HWA
      refine wp_region_rel 30 (fun ix9 => match ix9 with
       | 0 => fun v _ => v = .pointer (some ⟨qS, 1, none⟩)
       | 1 => fun v _ => v = .pointer (some ⟨qS, 1, none⟩)
       | 2 => fun v _ => v = .int .i64 (N1 : Int)
       | 3 => fun v _ => v = .int .i64 (j : Int)
       | 4 => fun v _ => v = .int .i64 (N1 : Int)
       | 5 => fun v _ => v = .bool false
       | 6 => fun v _ => v = .bool false
       | 7 => fun v _ => v = .pointer (some ⟨qS, 1, none⟩)
       | 8 => fun v _ => v = .pointer (some ⟨qS, 2, none⟩)
       | 9 => fun v _ => v = .int .u64 (sd N1 : Nat)
       | 10 => fun v _ => v = .slice (some ⟨gA, 0, none⟩) j c
       | 11 => fun v _ => v = .int .i64 (j : Int)
       | 12 => fun v _ => v = .int .i64 (N2 : Int)
       | 13 => fun v _ => v = .pointer (some ⟨gA, N2 * 8, none⟩)
       | 14 => fun v _ => v = .agg (safP N1).z.C
       | 15 => fun v _ => v = .int .u64 (sd N1 : Nat)
       | 16 => fun v _ => v = .bool false
       | 17 => fun v _ => v = .bool false
       | 18 => fun v _ => v = .bool false
       | 19 => fun v _ => v = .pointer (some ⟨qS, 4, none⟩)
       | 20 => fun v _ => v = .pointer (some ⟨qS, 4, none⟩)
       | 21 => fun v _ => v = .int .i64 (j : Int)
       | 22 => fun v _ => v = .int .i64 (j : Int)
       | 23 => fun v _ => v = .bool false
       | 24 => fun v _ => v = .bool false
       | 25 => fun v _ => v = .bool false
       | 26 => fun v _ => v = .pointer (some ⟨qS, 0, none⟩)
       | 27 => fun v _ => v = .int .i64 (j : Int)
       | 28 => fun v _ => v = .int .i64 (j : Int)
       | 29 => fun v _ => v = .bool false
       | _ => fun _ _ => True) (by kernel_rfl) (by kernel_rfl) ?_ ?_ ?_
      ·intro i v x y h hg
       match i, h with
       | 0, h | 1, h | 2, h | 3, h | 4, h | 5, h | 6, h | 7, h | 8, h | 9, h | 10, h | 11, h | 12, h | 13, h | 14, h | 15, h | 16, h | 17, h | 18, h | 19, h | 20, h | 21, h | 22, h | 23, h | 24, h | 25, h | 26, h | 27, h | 28, h | 29, h => exact h
       | m + 30, _ => trivial
      ·refine ⟨?_, ?_, ?_, ?_, ?_, ?_, ?_, ?_, ?_, ?_, ?_, ?_, ?_, ?_, ?_, ?_, ?_, ?_, ?_, ?_, ?_, ?_, ?_, ?_, ?_, ?_, ?_, ?_, ?_, ?_, trivial⟩
       ·intro vs y hg hd
        simp only [actOf, tk1, tk0, dr1, dr0, Act.put, si1, st1, st0, Nat.reduceAdd]
        go_wp2_with fail
        exact ⟨rfl, _, rfl, grew_refl _, rfl⟩
       ·intro vs y hg hd
        obtain ⟨h0, _⟩ := hd
        replace h0 := h0 rfl
        simp only [actOf, tk1, tk0, dr1, dr0, Act.put, si1, st1, st0, Nat.reduceAdd]
        rw [show vs 0 = _ from h0]
        go_wp2_with fail
        exact ⟨rfl, _, rfl, grew_refl _, rfl⟩
       ·intro vs y hg hd
        obtain ⟨h1, _⟩ := hd
        replace h1 := h1 rfl
        simp only [actOf, tk1, tk0, dr1, dr0, Act.put, si1, st1, st0, Nat.reduceAdd]
        rw [show vs 1 = _ from h1]
        have hc := HV1.out y hg
        go_wp2_with fail
        exact ⟨rfl, _, rfl, grew_refl _, rfl⟩
       ·intro vs y hg hd
        simp only [actOf, tk1, tk0, dr1, dr0, Act.put, si1, st1, st0, Nat.reduceAdd]
        go_wp2_with fail
        exact ⟨rfl, _, rfl, grew_refl _, rfl⟩
       ·intro vs y hg hd
        obtain ⟨h3, _⟩ := hd
        replace h3 := h3 rfl
        simp only [actOf, tk1, tk0, dr1, dr0, Act.put, si1, st1, st0, Nat.reduceAdd]
        rw [show vs 3 = _ from h3]
        go_wp2_with fail
        exact ⟨rfl, _, rfl, grew_refl _, rfl⟩
       ·intro vs y hg hd
        obtain ⟨h2, h4, _⟩ := hd
        replace h2 := h2 rfl
        replace h4 := h4 rfl
        simp only [actOf, tk1, tk0, dr1, dr0, Act.put, si1, st1, st0, Nat.reduceAdd]
        rw [show vs 2 = _ from h2, show vs 4 = _ from h4]
        go_wp2_with fail
        exact ⟨rfl, _, rfl, grew_refl _, rfl⟩
       ·intro vs y hg hd
        obtain ⟨h5, _⟩ := hd
        replace h5 := h5 rfl
        simp only [actOf, tk1, tk0, dr1, dr0, Act.put, si1, st1, st0, Nat.reduceAdd]
        rw [show vs 5 = _ from h5]
        go_wp2_with fail
        exact ⟨rfl, _, rfl, grew_refl _, rfl⟩
       ·intro vs y hg hd
        have hx : (Region.binds .any { on := 6, ground := .guard } = true → vs 6 = .bool false) ∧ True := hd
        have h6 : vs 6 = .bool false := hx.1 rfl
        clear hx
        simp only [actOf, tk1, tk0, dr1, dr0, Act.put, si1, st1, st0, Nat.reduceAdd]
        rw [show vs 6 = _ from h6]
        go_wp2_with fail
        exact ⟨rfl, _, rfl, grew_refl _, rfl⟩
       ·intro vs y hg hd
        have hx : (Region.binds .any { on := 7, ground := .data } = true → vs 7 = .pointer (some ⟨qS, 1, none⟩)) ∧ (Region.binds .any { on := 6, ground := .guard } = true → vs 6 = .bool false) ∧ True := hd
        have h7 : vs 7 = .pointer (some ⟨qS, 1, none⟩) := hx.1 rfl
        have h6 : vs 6 = .bool false := hx.2.1 rfl
        clear hx
        simp only [actOf, tk1, tk0, dr1, dr0, Act.put, si1, st1, st0, Nat.reduceAdd]
        rw [show vs 7 = _ from h7, show vs 6 = _ from h6]
        go_wp2_with fail
        exact ⟨rfl, _, rfl, grew_refl _, rfl⟩
       ·intro vs y hg hd
        have hx : (Region.binds .any { on := 8, ground := .data } = true → vs 8 = .pointer (some ⟨qS, 2, none⟩)) ∧ (Region.binds .any { on := 6, ground := .guard } = true → vs 6 = .bool false) ∧ True := hd
        have h8 : vs 8 = .pointer (some ⟨qS, 2, none⟩) := hx.1 rfl
        have h6 : vs 6 = .bool false := hx.2.1 rfl
        clear hx
        simp only [actOf, tk1, tk0, dr1, dr0, Act.put, si1, st1, st0, Nat.reduceAdd]
        rw [show vs 8 = _ from h8, show vs 6 = _ from h6]
        have hc := HV2.out y hg
        go_wp2_with fail
        exact ⟨rfl, _, rfl, grew_refl _, rfl⟩
       ·intro vs y hg hd
        have hx : (Region.binds .any { on := 6, ground := .guard } = true → vs 6 = .bool false) ∧ True := hd
        have h6 : vs 6 = .bool false := hx.1 rfl
        clear hx
        simp only [actOf, tk1, tk0, dr1, dr0, Act.put, si1, st1, st0, Nat.reduceAdd]
        rw [show vs 6 = _ from h6]
        go_wp2_with fail
        exact ⟨rfl, _, rfl, grew_refl _, rfl⟩
       ·intro vs y hg hd
        have hx : (Region.binds .any { on := 6, ground := .guard } = true → vs 6 = .bool false) ∧ True := hd
        have h6 : vs 6 = .bool false := hx.1 rfl
        clear hx
        simp only [actOf, tk1, tk0, dr1, dr0, Act.put, si1, st1, st0, Nat.reduceAdd]
        rw [show vs 6 = _ from h6]
        go_wp2_with fail
        exact ⟨rfl, _, rfl, grew_refl _, rfl⟩
       ·intro vs y hg hd
        have hx : (Region.binds .any { on := 11, ground := .data } = true → vs 11 = .int .i64 (j : Int)) ∧ (Region.binds .any { on := 6, ground := .guard } = true → vs 6 = .bool false) ∧ True := hd
        have h11 : vs 11 = .int .i64 (j : Int) := hx.1 rfl
        have h6 : vs 6 = .bool false := hx.2.1 rfl
        clear hx
        simp only [actOf, tk1, tk0, dr1, dr0, Act.put, si1, st1, st0, Nat.reduceAdd]
        rw [show vs 11 = _ from h11, show vs 6 = _ from h6]
        go_wp2_with fail
        exact ⟨rfl, _, rfl, grew_refl _, rfl⟩
       ·intro vs y hg hd
        have hx : (Region.binds .any { on := 10, ground := .data } = true → vs 10 = .slice (some ⟨gA, 0, none⟩) j c) ∧ (Region.binds .any { on := 12, ground := .data } = true → vs 12 = .int .i64 (N2 : Int)) ∧ (Region.binds .any { on := 6, ground := .guard } = true → vs 6 = .bool false) ∧ True := hd
        have h10 : vs 10 = .slice (some ⟨gA, 0, none⟩) j c := hx.1 rfl
        have h12 : vs 12 = .int .i64 (N2 : Int) := hx.2.1 rfl
        have h6 : vs 6 = .bool false := hx.2.2.1 rfl
        clear hx
        simp only [actOf, tk1, tk0, dr1, dr0, Act.put, si1, st1, st0, Nat.reduceAdd]
        rw [show vs 10 = _ from h10, show vs 12 = _ from h12, show vs 6 = _ from h6]
        go_wp2_with fail
        exact ⟨rfl, _, rfl, grew_refl _, rfl⟩
       ·intro vs y hg hd
        have hx : (Region.binds .any { on := 13, ground := .data } = true → vs 13 = .pointer (some ⟨gA, N2 * 8, none⟩)) ∧ (Region.binds .any { on := 6, ground := .guard } = true → vs 6 = .bool false) ∧ True := hd
        have h13 : vs 13 = .pointer (some ⟨gA, N2 * 8, none⟩) := hx.1 rfl
        have h6 : vs 6 = .bool false := hx.2.1 rfl
        clear hx
        simp only [actOf, tk1, tk0, dr1, dr0, Act.put, si1, st1, st0, Nat.reduceAdd]
        rw [show vs 13 = _ from h13, show vs 6 = _ from h6]
        have hm := HR2.out y hg
        go_wp2_with (refine ltload_want (by rfl) 33 (.tmp 100) rfl gA (N2 * 8) rfl (safP N1).z.C.toList _ hm hub rfl SI1.out ?_; simp only [Array.toArray_toList])
        exact ⟨rfl, _, rfl, grew_refl _, rfl⟩
       ·intro vs y hg hd
        have hx : (Region.binds .any { on := 14, ground := .data } = true → vs 14 = .agg (safP N1).z.C) ∧ (Region.binds .any { on := 6, ground := .chain } = true → vs 6 = .bool false) ∧ (Region.binds .any { on := 6, ground := .guard } = true → vs 6 = .bool false) ∧ True := hd
        have h14 : vs 14 = .agg (safP N1).z.C := hx.1 rfl
        have h6 : vs 6 = .bool false := hx.2.2.1 rfl
        clear hx
        simp only [actOf, tk1, tk0, dr1, dr0, Act.put, si1, st1, st0, Nat.reduceAdd]
        rw [show vs 14 = _ from h14, show vs 6 = _ from h6]
        go_wp2_with (go_at_call 10; refine (CD1.out y (HS.out.grew (grew_trans HGM.out hg))).mono ?_; rintro e z ⟨rfl, gz⟩)
        exact ⟨rfl, _, rfl, gz, rfl⟩
       ·intro vs y hg hd
        have hx : (Region.binds .any { on := 9, ground := .data } = true → vs 9 = .int .u64 (sd N1 : Nat)) ∧ (Region.binds .any { on := 15, ground := .data } = true → vs 15 = .int .u64 (sd N1 : Nat)) ∧ (Region.binds .any { on := 6, ground := .guard } = true → vs 6 = .bool false) ∧ True := hd
        have h9 : vs 9 = .int .u64 (sd N1 : Nat) := hx.1 rfl
        have h15 : vs 15 = .int .u64 (sd N1 : Nat) := hx.2.1 rfl
        have h6 : vs 6 = .bool false := hx.2.2.1 rfl
        clear hx
        simp only [actOf, tk1, tk0, dr1, dr0, Act.put, si1, st1, st0, Nat.reduceAdd]
        rw [show vs 9 = _ from h9, show vs 15 = _ from h15, show vs 6 = _ from h6]
        go_wp2_with fail
        exact ⟨rfl, _, rfl, grew_refl _, rfl⟩
       ·intro vs y hg hd
        obtain ⟨h6, h16, _⟩ := hd
        replace h6 := h6 rfl
        replace h16 := h16 rfl
        simp only [actOf, tk1, tk0, dr1, dr0, Act.put, si1, st1, st0, Nat.reduceAdd]
        rw [show vs 6 = _ from h6, show vs 16 = _ from h16]
        go_wp2_with fail
        exact ⟨rfl, _, rfl, grew_refl _, rfl⟩
       ·intro vs y hg hd
        obtain ⟨h17, _⟩ := hd
        replace h17 := h17 rfl
        simp only [actOf, tk1, tk0, dr1, dr0, Act.put, si1, st1, st0, Nat.reduceAdd]
        rw [show vs 17 = _ from h17]
        go_wp2_with fail
        exact ⟨rfl, _, rfl, grew_refl _, rfl⟩
       ·intro vs y hg hd
        have hx : (Region.binds .any { on := 18, ground := .guard } = true → vs 18 = .bool false) ∧ True := hd
        have h18 : vs 18 = .bool false := hx.1 rfl
        clear hx
        simp only [actOf, tk1, tk0, dr1, dr0, Act.put, si1, st1, st0, Nat.reduceAdd]
        rw [show vs 18 = _ from h18]
        go_wp2_with fail
        exact ⟨rfl, _, rfl, grew_refl _, rfl⟩
       ·intro vs y hg hd
        have hx : (Region.binds .any { on := 19, ground := .data } = true → vs 19 = .pointer (some ⟨qS, 4, none⟩)) ∧ (Region.binds .any { on := 18, ground := .guard } = true → vs 18 = .bool false) ∧ True := hd
        have h19 : vs 19 = .pointer (some ⟨qS, 4, none⟩) := hx.1 rfl
        have h18 : vs 18 = .bool false := hx.2.1 rfl
        clear hx
        simp only [actOf, tk1, tk0, dr1, dr0, Act.put, si1, st1, st0, Nat.reduceAdd]
        rw [show vs 19 = _ from h19, show vs 18 = _ from h18]
        go_wp2_with fail
        exact ⟨rfl, _, rfl, grew_refl _, rfl⟩
       ·intro vs y hg hd
        have hx : (Region.binds .any { on := 20, ground := .data } = true → vs 20 = .pointer (some ⟨qS, 4, none⟩)) ∧ (Region.binds .any { on := 18, ground := .guard } = true → vs 18 = .bool false) ∧ True := hd
        have h20 : vs 20 = .pointer (some ⟨qS, 4, none⟩) := hx.1 rfl
        have h18 : vs 18 = .bool false := hx.2.1 rfl
        clear hx
        simp only [actOf, tk1, tk0, dr1, dr0, Act.put, si1, st1, st0, Nat.reduceAdd]
        rw [show vs 20 = _ from h20, show vs 18 = _ from h18]
        have hc := HV4.out y hg
        go_wp2_with fail
        exact ⟨rfl, _, rfl, grew_refl _, rfl⟩
       ·intro vs y hg hd
        have hx : (Region.binds .any { on := 18, ground := .guard } = true → vs 18 = .bool false) ∧ True := hd
        have h18 : vs 18 = .bool false := hx.1 rfl
        clear hx
        simp only [actOf, tk1, tk0, dr1, dr0, Act.put, si1, st1, st0, Nat.reduceAdd]
        rw [show vs 18 = _ from h18]
        go_wp2_with fail
        exact ⟨rfl, _, rfl, grew_refl _, rfl⟩
       ·intro vs y hg hd
        have hx : (Region.binds .any { on := 21, ground := .data } = true → vs 21 = .int .i64 (j : Int)) ∧ (Region.binds .any { on := 22, ground := .data } = true → vs 22 = .int .i64 (j : Int)) ∧ (Region.binds .any { on := 18, ground := .guard } = true → vs 18 = .bool false) ∧ True := hd
        have h21 : vs 21 = .int .i64 (j : Int) := hx.1 rfl
        have h22 : vs 22 = .int .i64 (j : Int) := hx.2.1 rfl
        have h18 : vs 18 = .bool false := hx.2.2.1 rfl
        clear hx
        simp only [actOf, tk1, tk0, dr1, dr0, Act.put, si1, st1, st0, Nat.reduceAdd]
        rw [show vs 21 = _ from h21, show vs 22 = _ from h22, show vs 18 = _ from h18]
        go_wp2_with fail
        exact ⟨rfl, _, rfl, grew_refl _, rfl⟩
       ·intro vs y hg hd
        obtain ⟨h18, h23, _⟩ := hd
        replace h18 := h18 rfl
        replace h23 := h23 rfl
        simp only [actOf, tk1, tk0, dr1, dr0, Act.put, si1, st1, st0, Nat.reduceAdd]
        rw [show vs 18 = _ from h18, show vs 23 = _ from h23]
        go_wp2_with fail
        exact ⟨rfl, _, rfl, grew_refl _, rfl⟩
       ·intro vs y hg hd
        obtain ⟨h24, _⟩ := hd
        replace h24 := h24 rfl
        simp only [actOf, tk1, tk0, dr1, dr0, Act.put, si1, st1, st0, Nat.reduceAdd]
        rw [show vs 24 = _ from h24]
        go_wp2_with fail
        exact ⟨rfl, _, rfl, grew_refl _, rfl⟩
       ·intro vs y hg hd
        have hx : (Region.binds .any { on := 25, ground := .guard } = true → vs 25 = .bool false) ∧ True := hd
        have h25 : vs 25 = .bool false := hx.1 rfl
        clear hx
        simp only [actOf, tk1, tk0, dr1, dr0, Act.put, si1, st1, st0, Nat.reduceAdd]
        rw [show vs 25 = _ from h25]
        go_wp2_with fail
        exact ⟨rfl, _, rfl, grew_refl _, rfl⟩
       ·intro vs y hg hd
        have hx : (Region.binds .any { on := 26, ground := .data } = true → vs 26 = .pointer (some ⟨qS, 0, none⟩)) ∧ (Region.binds .any { on := 25, ground := .guard } = true → vs 25 = .bool false) ∧ True := hd
        have h26 : vs 26 = .pointer (some ⟨qS, 0, none⟩) := hx.1 rfl
        have h25 : vs 25 = .bool false := hx.2.1 rfl
        clear hx
        simp only [actOf, tk1, tk0, dr1, dr0, Act.put, si1, st1, st0, Nat.reduceAdd]
        rw [show vs 26 = _ from h26, show vs 25 = _ from h25]
        have hc := HV0.out y hg
        go_wp2_with fail
        exact ⟨rfl, _, rfl, grew_refl _, rfl⟩
       ·intro vs y hg hd
        have hx : (Region.binds .any { on := 25, ground := .guard } = true → vs 25 = .bool false) ∧ True := hd
        have h25 : vs 25 = .bool false := hx.1 rfl
        clear hx
        simp only [actOf, tk1, tk0, dr1, dr0, Act.put, si1, st1, st0, Nat.reduceAdd]
        rw [show vs 25 = _ from h25]
        go_wp2_with fail
        exact ⟨rfl, _, rfl, grew_refl _, rfl⟩
       ·intro vs y hg hd
        have hx : (Region.binds .any { on := 27, ground := .data } = true → vs 27 = .int .i64 (j : Int)) ∧ (Region.binds .any { on := 28, ground := .data } = true → vs 28 = .int .i64 (j : Int)) ∧ (Region.binds .any { on := 25, ground := .guard } = true → vs 25 = .bool false) ∧ True := hd
        have h27 : vs 27 = .int .i64 (j : Int) := hx.1 rfl
        have h28 : vs 28 = .int .i64 (j : Int) := hx.2.1 rfl
        have h25 : vs 25 = .bool false := hx.2.2.1 rfl
        clear hx
        simp only [actOf, tk1, tk0, dr1, dr0, Act.put, si1, st1, st0, Nat.reduceAdd]
        rw [show vs 27 = _ from h27, show vs 28 = _ from h28, show vs 25 = _ from h25]
        go_wp2_with fail
        exact ⟨rfl, _, rfl, grew_refl _, rfl⟩
      ·intro vs y hg hJ
       have j0 : vs 0 = .pointer (some ⟨qS, 1, none⟩) := hJ 0 (by decide)
       have j1 : vs 1 = .pointer (some ⟨qS, 1, none⟩) := hJ 1 (by decide)
       have j2 : vs 2 = .int .i64 (N1 : Int) := hJ 2 (by decide)
       have j3 : vs 3 = .int .i64 (j : Int) := hJ 3 (by decide)
       have j4 : vs 4 = .int .i64 (N1 : Int) := hJ 4 (by decide)
       have j5 : vs 5 = .bool false := hJ 5 (by decide)
       have j6 : vs 6 = .bool false := hJ 6 (by decide)
       have j7 : vs 7 = .pointer (some ⟨qS, 1, none⟩) := hJ 7 (by decide)
       have j8 : vs 8 = .pointer (some ⟨qS, 2, none⟩) := hJ 8 (by decide)
       have j9 : vs 9 = .int .u64 (sd N1 : Nat) := hJ 9 (by decide)
       have j10 : vs 10 = .slice (some ⟨gA, 0, none⟩) j c := hJ 10 (by decide)
       have j11 : vs 11 = .int .i64 (j : Int) := hJ 11 (by decide)
       have j12 : vs 12 = .int .i64 (N2 : Int) := hJ 12 (by decide)
       have j13 : vs 13 = .pointer (some ⟨gA, N2 * 8, none⟩) := hJ 13 (by decide)
       have j14 : vs 14 = .agg (safP N1).z.C := hJ 14 (by decide)
       have j15 : vs 15 = .int .u64 (sd N1 : Nat) := hJ 15 (by decide)
       have j16 : vs 16 = .bool false := hJ 16 (by decide)
       have j17 : vs 17 = .bool false := hJ 17 (by decide)
       have j18 : vs 18 = .bool false := hJ 18 (by decide)
       have j19 : vs 19 = .pointer (some ⟨qS, 4, none⟩) := hJ 19 (by decide)
       have j20 : vs 20 = .pointer (some ⟨qS, 4, none⟩) := hJ 20 (by decide)
       have j21 : vs 21 = .int .i64 (j : Int) := hJ 21 (by decide)
       have j22 : vs 22 = .int .i64 (j : Int) := hJ 22 (by decide)
       have j23 : vs 23 = .bool false := hJ 23 (by decide)
       have j24 : vs 24 = .bool false := hJ 24 (by decide)
       have j25 : vs 25 = .bool false := hJ 25 (by decide)
       have j26 : vs 26 = .pointer (some ⟨qS, 0, none⟩) := hJ 26 (by decide)
       have j27 : vs 27 = .int .i64 (j : Int) := hJ 27 (by decide)
       have j28 : vs 28 = .int .i64 (j : Int) := hJ 28 (by decide)
       have j29 : vs 29 = .bool false := hJ 29 (by decide)
       clear hJ
       simp only [actOf, tk1, tk0, dr1, dr0, Act.put, si1, st1, st0, Nat.reduceAdd]
       rw [j25, j29]
       have GY := grew_trans HGM.out hg
       have zM := HZM.out.grew hg
       have TM := HTM.out.gr hg
       clear j0 j1 j2 j3 j4 j5 j6 j7 j8 j9 j10 j11 j12 j13 j14 j15 j16 j17 j18 j19 j20 j21 j22 j23 j24 j25 j26 j27 j28 j29 hg HV0 HV1 HV2 HV4 HR2 SI1 CD1 e99 h2j h20 h1j h10 HZM HTM HGM e81
       have hv0 := HV.out.1
       have hv1 := HV.out.2
       obtain ⟨V0, hV0⟩ : ∃ V0 : Nat, vw % 20 = (V0 : Int) := ⟨(vw % 20).toNat, by omega⟩
       have hV20 : V0 < 20 := by omega
       obtain ⟨V1, hV1⟩ : ∃ V1 : Nat, 1 + (V0 : Int) = (V1 : Int) := ⟨V0 + 1, by omega⟩
       have hVV : V1 = V0 + 1 := by omega
       have HVV := Lib.hid hVV
       have HV20 := Lib.hid hV20
       have HGY := Lib.hid GY
       have HZM := Lib.hid zM
       have HTM := Lib.hid TM
       clear hVV hV20 GY zM TM
       go_wp2_with fail
       clear hV0 hV1 hv0 hv1
       refine (lawB_ok (V1 : Int) 0 0 3 y).mono ?_
       rintro e y1 ⟨rfl, gy⟩
       obtain ⟨y2, hy2, ht2, gs2, z2⟩ := ltput_any y1 33 (#[.int .i64 0, .int .u64 0, .int .i64 0, .int .u64 0, .slice none 0 0, .int .i64 0, .int .i64 0, .slice none 0 0] : Array Value) (bbB (V1 : Int) 0 0 3).z.C rfl
       have HY2 := Lib.hid hy2
       have HTH : Hid ((y1.alloc (.cells (#[.int .i64 0, .int .u64 0, .int .i64 0, .int .u64 0, .slice none 0 0, .int .i64 0, .int .i64 0, .slice none 0 0] : Array Value) 33)).there y1.heap.size 0 (bbB (V1 : Int) 0 0 3).z.C.size) := Lib.hid ht2
       have SI9 : Hid ((Tryd.prog.info? 33).map (·.size) = some (bbB (V1 : Int) 0 0 3).z.C.size) := Lib.hid nb_info
       have HO9 := Lib.hid (NB.one (bbB (V1 : Int) 0 0 3).z)
       have hq0 := HQ.out.1
       have hq1 := HQ.out.2
       obtain ⟨Q0, hQ0⟩ : ∃ Q0 : Nat, qc % 12 = (Q0 : Int) := ⟨(qc % 12).toNat, by omega⟩
       have HQ12 : Hid (Q0 < 12) := Lib.hid (by omega)
       have cf2 : y2.cell? ⟨y1.heap.size, 2, none⟩ = some (.int .i64 0) := by simpa using z2.cell 2 (.int .i64 0) rfl
       have ff2 : y2.frozen? ⟨y1.heap.size, 2, none⟩ = false := by simpa using (z2.there 2 (by simp [NB.C, BB.z])).2
       have z3 := z2.putMid 2 [.int .i64 (Q0 : Int)] (by simp [NB.C, BB.z])
       have eF : (bbB (V1 : Int) 0 0 3).z.C.toList.take 2 ++ [Value.int .i64 (Q0 : Int)] ++ (bbB (V1 : Int) 0 0 3).z.C.toList.drop (2 + [Value.int .i64 (Q0 : Int)].length) = (safF V1 Q0).z.C.toList := rfl
       rw [eF, show y2.setCells y1.heap.size 2 [.int .i64 (Q0 : Int)] = y2.setCell ⟨y1.heap.size, 2, none⟩ (.int .i64 (Q0 : Int)) from rfl] at z3
       have k3 := kp_set (S := fun i => i = y1.heap.size) (kp_refl _ y2) (p := ⟨y1.heap.size, 2, none⟩) (.inl rfl) (.int .i64 (Q0 : Int))
       have g12 := grew_trans gy gs2
       have tlm := HTM.out.lt
       have ltq := HZM.out.lt
       have hs1 := gy.size
       have hsY := HGY.out.size
       have zM3 := (HZM.out.grew g12).kp k3 (fun e => by omega)
       have TM3 := (HTM.out.gr g12).kp k3 (fun e => by omega) (fun e => by omega)
       have G3 : Grew w (y2.setCell ⟨y1.heap.size, 2, none⟩ (.int .i64 (Q0 : Int))) := below_kp (grew_trans HGY.out g12) k3 (grew_trans HGY.out g12).size (fun i e => by have e' : i = y1.heap.size := e; omega)
       obtain ⟨df, hdf⟩ : ∃ d, blkD (safF V1 Q0) = d := ⟨_, rfl⟩
       have hout : df ∉ sdT := by rw [← hdf, HVV.out]; exact fork_out V0 Q0 HV20.out HQ12.out
       have HFO : Hid ((safF V1 Q0).ok) := Lib.hid (safF_ok V1 Q0 (by have := HVV.out; have := HV20.out; omega) (by have := HQ12.out; omega))
       have hbn := ks_out (j + 1) df hout
       have hb0 : bget (KS.take (j + 1)) 0 = some bb0 := by have := ks_some 0 (j + 1) (by omega) (by have := HK9.out; omega); rwa [sd_zero] at this
       have CA := Lib.hid (addB_yes (K := KS.take (j + 1)) (safF V1 Q0).z HFO.out df hdf bb0 hbn hb0 (by show (0 : Int) < (V1 : Int); have := HVV.out; omega) rfl (by rw [List.length_take, KS_len]; omega) _ (HS.out.grew G3) TM3)
       have hd0 : df ≠ 0 := fun e => hout (by rw [e]; exact sd_mem 0 (by omega))
       have HWY : Hid (WayB (KS.take (j + 1) ++ [(df, safF V1 Q0)]) df [df, 0]) := Lib.hid (.step (b := safF V1 Q0) hd0 (by rw [bget_app, hbn]; simp) (.root (by rw [bget_app, hb0]; rfl)))
       have HOUT := Lib.hid hout
       have HDF := Lib.hid hdf
       have hmF := z3.cell
       have SIF : Hid ((Tryd.prog.info? 33).map (·.size) = some (safF V1 Q0).z.C.toList.length) := Lib.hid nb_info
       have HZF := Lib.hid z3
       have HZM3 := Lib.hid zM3
       have HG3 := Lib.hid G3
       have HNN : Hid (y1.heap.size ≠ mb ∧ qS ≠ mb) := Lib.hid ⟨by omega, fun e => HNE.out.2.2.1 e.symm⟩
       have HHQ := Lib.hid hsY
       clear hy2 ht2 gs2 z2 z3 k3 g12 gy tlm ltq hs1 hsY zM3 TM3 G3 hdf hout hbn hb0 hd0 HTM HGY HZM eF
       go_upto_region 32 with (with_reducible refine wpList_store_mid rfl 33 (.tmp 18) (.tmp 123) rfl y1.heap.size 0 (bbB (V1 : Int) 0 0 3).z.C rfl rfl HTH.out SI9.out HO9.out ?_; rw [HY2.out])
       clear hQ0 hq0 hq1 cf2 ff2 HTH SI9 HO9 HY2
       go_wp2_with (with_reducible refine wpList_load_mid rfl 33 (.tmp 18) rfl y1.heap.size 0 rfl (safF V1 Q0).z.C.toList _ hmF hub rfl SIF.out ?_; simp only [Array.toArray_toList])
       refine (CA.out).mono ?_
       rintro e y4 ⟨rfl, T4, k4⟩
       have zF := HZF.out.kp k4 HNN.out.1
       have zM := HZM3.out.kp k4 HNN.out.2
       have G4 : Grew w y4 := below_kp HG3.out k4 HG3.out.size (fun i e => by have e' : i = mb := e; rw [e']; exact HWB.out.2.1)
       have hmF4 := zF.cell
       have hmM4 := zM.cell
       have hcq : y4.cell? ⟨y1.heap.size, 2, none⟩ = some (.int .i64 (Q0 : Int)) := by simpa using zF.cell 2 (.int .i64 (Q0 : Int)) rfl
       have SIM : Hid ((Tryd.prog.info? 50).map (·.size) = some m.C.toList.length) := Lib.hid sf_info
       have CM := Lib.hid (may_ok m (safF V1 Q0).z HFO.out df HDF.out [df, 0] HWY.out (by simp) y4 (HS.out.grew G4) T4)
       rw [HFM.out, show (safF V1 Q0).z.b = safF V1 Q0 from rfl, fork_may j V1 Q0 df HK22.out HK9.out HOUT.out, show j - 1 = N1 by have := HK1.out; omega] at CM
       have e81 : IntKind.i64.wrap ((j : Int) - 1) = (N1 : Int) := by have := HK1.out; have := HK9.out; rw [IntWalk.i64_in _ (by omega)]; omega
       have HG4 := Lib.hid G4
       clear T4 k4 zF zM G4 CA hmF HZF HZM3 HG3 HWY HFM HFO HDF HOUT
       by_cases hVj : (V1 : Int) ≤ (j : Int)
       ·have e1 : decide (V1 ≤ j) = true := decide_eq_true (by omega)
        rw [if_pos hVj] at CM
        clear hVj
        go_wp2_with (first
         | (with_reducible refine wpList_load_mid rfl 50 (.tmp 13) rfl qS 0 rfl m.C.toList _ hmM4 hus rfl SIM.out ?_; simp only [Array.toArray_toList])
         | (with_reducible refine wpList_load_mid rfl 33 (.tmp 18) rfl y1.heap.size 0 rfl (safF V1 Q0).z.C.toList _ hmF4 hub rfl SIF.out ?_; simp only [Array.toArray_toList]))
        refine (CM.out).mono ?_
        rintro e y5 ⟨rfl, g5⟩
        have GG := grew_trans HG4.out g5
        clear CM g5
        go_wp2_with fail
        go_ret
        exact ⟨rfl, GG⟩
       ·have e1 : decide (V1 ≤ j) = false := decide_eq_false (by omega)
        rw [if_neg hVj] at CM
        clear hVj
        by_cases hQj : (Q0 : Int) ≤ (N1 : Int)
        ·have e2 : decide (Q0 ≤ N1) = true := decide_eq_true (by omega)
         rw [if_pos hQj] at CM
         clear hQj
         go_wp2_with (first
          | (with_reducible refine wpList_load_mid rfl 50 (.tmp 13) rfl qS 0 rfl m.C.toList _ hmM4 hus rfl SIM.out ?_; simp only [Array.toArray_toList])
          | (with_reducible refine wpList_load_mid rfl 33 (.tmp 18) rfl y1.heap.size 0 rfl (safF V1 Q0).z.C.toList _ hmF4 hub rfl SIF.out ?_; simp only [Array.toArray_toList]))
         refine (CM.out).mono ?_
         rintro e y5 ⟨rfl, g5⟩
         have GG := grew_trans HG4.out g5
         clear CM g5
         go_wp2_with fail
         go_ret
         exact ⟨rfl, GG⟩
        ·have e2 : decide (Q0 ≤ N1) = false := decide_eq_false (by omega)
         rw [if_neg hQj] at CM
         clear hQj
         go_wp2_with (first
          | (with_reducible refine wpList_load_mid rfl 50 (.tmp 13) rfl qS 0 rfl m.C.toList _ hmM4 hus rfl SIM.out ?_; simp only [Array.toArray_toList])
          | (with_reducible refine wpList_load_mid rfl 33 (.tmp 18) rfl y1.heap.size 0 rfl (safF V1 Q0).z.C.toList _ hmF4 hub rfl SIF.out ?_; simp only [Array.toArray_toList]))
         refine (CM.out).mono ?_
         rintro e y5 ⟨rfl, g5⟩
         have GG := grew_trans HG4.out g5
         clear CM g5
         go_wp2_with fail
         go_ret
         exact ⟨rfl, GG⟩
end Go.Proofs.YtbohmmcmlabcdaaDoor
