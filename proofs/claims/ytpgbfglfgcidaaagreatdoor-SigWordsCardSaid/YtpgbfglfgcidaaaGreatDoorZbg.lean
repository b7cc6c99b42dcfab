/- key.Parse of a signature's words. -/
import Derived.Laws.Cover3
import Derived.Deep.Cut
import Derived.Test.YtpgbfglfgcidaaaGreatDoorZbf
import Derived.Test.YtpgbfglfgcidaaaGreatDoorZar
import Derived.Laws.MakeOwn
import Derived.Test.YtpgbfglfgcidaaaGreatDoorZaq
import Derived.Test.YtpgbfglfgcidaaaGreatDoorZaj
namespace Go.Proofs.YtpgbfglfgcidaaaGreatDoor
set_option linter.unusedSimpArgs false
set_option linter.unusedVariables false
open Go.RowKit
set_option linter.unusedVariables false
theorem rd_range {w : World} {B g : Nat} {xs : List Value} (h : Rd w B (some ⟨g, 0, none⟩) xs) : w.rangeAt g 0 xs := by
  intro j v hj
  have hj' := (List.getElem?_eq_some_iff.1 hj).1
  obtain ⟨ad, e, _, hc⟩ := h j hj'
  injection e with e
  subst e
  rw [Addr.add_mid] at hc
  rw [hc, ← hj, List.getElem?_eq_getElem hj']
theorem one_arr (s : Nat → Nat) : (u64L (oneL s)).toArray = arrU s := by
  simp [u64L, oneL, arrU]
  intro a _
  rfl
set_option maxRecDepth 100000 in
set_option maxHeartbeats 1000000 in
theorem kparse_fr (who leaf : Int) (s : Nat → Nat) (l : List Nat) (hw : 0 ≤ who ∧ who ≤ 15) (hlf : 0 ≤ leaf ∧ leaf ≤ 9223372036854775807) (hl : l.length ≤ 8) (hs : ∀ k, k < 18 → s k < 18446744073709551616) (hb : ∀ n ∈ l, n < 18446744073709551616) (w : World) (hS : Std w) :
    Calls Tryz.prog 27 #[.string ⟨(sgT who leaf s l).toArray⟩] w fun e w' => (∃ A c, e = .returned (.tuple #[.agg (sgC who leaf s (.slice A l.length c)), .int .i64 0]) ∧ Rd w' w'.heap.size A (u64L l) ∧ (∀ ad, A = some ad → w.heap.size < ad.block)) ∧ Grew w w' := by
  have HS := Lib.hid hS
  have iw : in64 who := ⟨by omega, by omega⟩
  have il : in64 leaf := ⟨by omega, by omega⟩
  have l0 := itoa_len iw.1 iw.2
  have l1 := itoa_len il.1 il.2
  have l2 := digs_len (oneL s)
  rw [oneL_length] at l2
  have l3 := digs_len l
  have lT : (sgT who leaf s l).length ≤ 100000000 := by
    have f1 := fld_len (Lib.itoa who)
    have f2 := fld_len (Lib.itoa leaf)
    have f3 := fld_len (digs (oneL s))
    have f4 := fld_len (digs l)
    unfold sgT
    simp only [joinF, List.flatMap_cons, List.flatMap_nil, List.length_append, List.length_cons, List.length_nil]
    omega
  have CS := Lib.hid (fun W => split_some (s := ⟨(sgT who leaf s l).toArray⟩) (l := [Lib.itoa who, Lib.itoa leaf, digs (oneL s), digs l]) (split_join _) (by simp) (by show (sgT who leaf s l).toArray.size ≤ _; simpa using lT) W)
  rw [show txt [Lib.itoa who, Lib.itoa leaf, digs (oneL s), digs l] = [⟨(Lib.itoa who).toArray⟩, ⟨(Lib.itoa leaf).toArray⟩, ⟨(digs (oneL s)).toArray⟩, ⟨(digs l).toArray⟩] from rfl] at CS
  have U0 := Lib.hid (fun W hW => upto_ok ⟨(Lib.itoa who).toArray⟩ (by show (Lib.itoa who).toArray.size ≤ _; simp; omega) 15 W hW)
  have U1 := Lib.hid (fun W hW => upto_ok ⟨(Lib.itoa leaf).toArray⟩ (by show (Lib.itoa leaf).toArray.size ≤ _; simp; omega) 9223372036854775807 W hW)
  have D2 := Lib.hid (fun W hW => pdigs_ok ⟨(digs (oneL s)).toArray⟩ (by show (digs (oneL s)).toArray.size ≤ _; simp; omega) W hW)
  have D3 := Lib.hid (fun W hW => pdigs_ok ⟨(digs l).toArray⟩ (by show (digs l).toArray.size ≤ _; simp; omega) W hW)
  have p0 := pnum_itoa iw.1 iw.2
  have p1 := pnum_itoa il.1 il.2
  have b0 : uptoB (Lib.itoa who) 15 = true := decide_eq_true (by rw [p0]; exact ⟨rfl, hw⟩)
  have b1 : uptoB (Lib.itoa leaf) 9223372036854775807 = true := decide_eq_true (by rw [p1]; exact ⟨rfl, hlf⟩)
  have d2 := pdigs_digs (oneL s) (fun x hx => by
    obtain ⟨k, hk, rfl⟩ := List.mem_map.1 hx
    exact hs k (List.mem_range.1 hk))
  have d3 := pdigs_digs l hb
  simp only [p0, b0] at U0
  simp only [p1, b1] at U1
  simp only [d2, Option.isSome_some, Option.getD_some, oneL_length] at D2
  simp only [d3, Option.isSome_some, Option.getD_some] at D3
  clear p0 p1 b0 b1 d2 d3 l0 l1 l2 l3 lT iw il hw hlf hs hb hS
  generalize (⟨(sgT who leaf s l).toArray⟩ : ByteArray) = tj at *
  generalize (⟨(Lib.itoa who).toArray⟩ : ByteArray) = t0 at *
  generalize (⟨(Lib.itoa leaf).toArray⟩ : ByteArray) = t1 at *
  generalize (⟨(digs (oneL s)).toArray⟩ : ByteArray) = t2 at *
  generalize (⟨(digs l).toArray⟩ : ByteArray) = t3 at *
  have z0 := alloc_sig w
  have g0 := grew_alloc (grew_refl w) (.cells (#[.int .i64 0, .int .i64 0, .int .u64 0, .int .u64 0, .int .u64 0, .int .u64 0, .int .u64 0, .int .u64 0, .int .u64 0, .int .u64 0, .int .u64 0, .int .u64 0, .int .u64 0, .int .u64 0, .int .u64 0, .int .u64 0, .int .u64 0, .int .u64 0, .int .u64 0, .int .u64 0, .slice none 0 0]) 39)
  have hus := Tryz.underlying39
  have hl8 : ¬ (8 : Int) < (l.length : Int) := by omega
  go_enter Tryz.func27, Tryz.ntmps27
  go_wp2_with fail
  refine (CS.out _).mono ?_
  rintro e w1 ⟨⟨v1, rfl, o1⟩, gg⟩
  have z1 := z0.grew gg
  have g1 := grew_trans g0 gg
  obtain ⟨g, k1, rfl, hk1, hgl, hcs⟩ := own_cells o1 (by simp)
  have x0 : w1.cell? ⟨g, 0, none⟩ = some (.string t0) := by simpa using hcs 0 (.string t0) rfl
  have x1 : w1.cell? ⟨g, 1, none⟩ = some (.string t1) := by simpa using hcs 1 (.string t1) rfl
  have x2 : w1.cell? ⟨g, 2, none⟩ = some (.string t2) := by simpa using hcs 2 (.string t2) rfl
  have x3 : w1.cell? ⟨g, 3, none⟩ = some (.string t3) := by simpa using hcs 3 (.string t3) rfl
  clear CS z0 g0 gg o1 hcs
  have hk1' : (4 : Int) ≤ (k1 : Int) := by
    have : 4 ≤ k1 := hk1
    omega
  go_wp2_with fail
  refine (U0.out _ (HS.out.grew g1)).mono ?_
  rintro e w2 ⟨rfl, gg⟩
  have y1 := (gg.cell (p := ⟨g, 1, none⟩) hgl).trans x1
  have y2 := (gg.cell (p := ⟨g, 2, none⟩) hgl).trans x2
  have y3 := (gg.cell (p := ⟨g, 3, none⟩) hgl).trans x3
  have hgl2 := Nat.lt_of_lt_of_le hgl gg.size
  have z2 := z1.grew gg
  have g2 := grew_trans g1 gg
  clear U0 x0 x1 x2 x3 z1 g1 gg hgl
  go_wp2_with fail
  refine (U1.out _ (HS.out.grew g2)).mono ?_
  rintro e w3 ⟨rfl, gg⟩
  have x2 := (gg.cell (p := ⟨g, 2, none⟩) hgl2).trans y2
  have x3 := (gg.cell (p := ⟨g, 3, none⟩) hgl2).trans y3
  have hgl3 := Nat.lt_of_lt_of_le hgl2 gg.size
  have z3 := z2.grew gg
  have g3 := grew_trans g2 gg
  clear U1 y1 y2 y3 z2 g2 gg hgl2
  go_wp2_with fail
  refine (D2.out _ (HS.out.grew g3)).mono ?_
  rintro e w4 ⟨⟨v4, rfl, o4⟩, gg⟩
  obtain ⟨A4, c4, rfl, hk4, -, r4⟩ := own_rd o4
  obtain ⟨h4, k4, e4, -, -, -⟩ := own_cells o4 (by decide)
  injection e4 with e4 e5 e6
  subst e4
  clear e5 e6
  have y3 := (gg.cell (p := ⟨g, 3, none⟩) hgl3).trans x3
  have z4 := z3.grew gg
  have g4 := grew_trans g3 gg
  clear D2 x2 x3 z3 g3 gg hgl3 o4
  go_wp2_with fail
  refine (D3.out _ (HS.out.grew g4)).mono ?_
  rintro e w5 ⟨⟨v5, rfl, o5⟩, gg⟩
  obtain ⟨A5, c5, rfl, -, -, r5⟩ := own_rd o5
  have HNE : Hid (∀ ad, A5 = some ad → w.heap.size < ad.block) := Lib.hid (fun ad h => by
    have h1 := own_base o5 ad.block (by rw [h]; rfl)
    have h2 := z4.lt
    omega)
  have r45 := r4.gr gg
  have z5 := z4.grew gg
  have g5 := grew_trans g4 gg
  have m5 := Lib.hid (rd_range r45)
  clear D3 y3 z4 g4 gg o5 r4 r45
  go_upto_region 10 with fail
  have hua := Tryz.underlying36
  have hia : (Tryz.prog.info? 36).map (·.size) = some (u64L (oneL s)).length := by rw [show (u64L (oneL s)).length = 18 by rw [u64L_length, oneL_length]]; kernel_rfl
  have hbu := sg_built who leaf s A5 l.length c5
  have hra := fun W => run_arrayAt (P := Tryz.prog) (w := W) 36 34 18 (some ⟨h4, 0, none⟩) 18 c4 hua (Nat.le_refl _)
  have HBU := Lib.hid (show Tryz.prog.built 39 [(0, .int .i64 who), (1, .int .i64 leaf), (2, .agg (u64L (oneL s)).toArray), (3, .slice A5 l.length c5)] = some (sgC who leaf s (.slice A5 l.length c5)) from by rw [one_arr]; exact hbu)
  clear hbu
  clear hk4
  generalize u64L (oneL s) = xs at *
  have hxa := Lib.hid hia
  clear hia
  have hth : w5.there w.heap.size 0 (sgC who leaf s (.slice A5 l.length c5)).size := z5.thereN 21 rfl
  have hsi : (Tryz.prog.info? 39).map (·.size) = some (sgC who leaf s (.slice A5 l.length c5)).size := sg_info
  have hone := sgC_one who leaf s A5 l.length c5
  have HTH := Lib.hid hth
  have HSI := Lib.hid hsi
  have HON := Lib.hid hone
  clear hth hsi hone
  go_wp2_with (first
    | (with_reducible refine wpList_load_mid rfl 36 (.tmp 83) rfl h4 0 rfl xs _ m5.out hua rfl hxa.out ?_)
    | (with_reducible refine wpList_build_is rfl 39 #[(0, .tmp 80), (1, .tmp 81), (2, .tmp 84), (3, .tmp 85)] rfl (sgC who leaf s (.slice A5 l.length c5)) ?_ ?_; · simpa [Act.eval, Act.put] using HBU.out)
    | (with_reducible refine wpList_store_mid rfl 39 (.tmp 2) (.tmp 86) rfl w.heap.size 0 (sgC who leaf s (.slice A5 l.length c5)) rfl rfl HTH.out HSI.out HON.out ?_; have z6 := Ag.set (vs := (sgC who leaf s (.slice A5 l.length c5)).toList) z5 rfl; have g6 := setCells_grew (o := 0) (b := w.heap.size) (sgC who leaf s (.slice A5 l.length c5)).toList g5 (Nat.le_refl _)))
  exact bodyPost_ret (results_ag2 Tryz.results27 _ _ w.heap.size _ _ _ rfl rfl z6 hus rfl sg_info) rfl ⟨⟨A5, c5, rfl, (r5.kp (setCells_kp (sgC who leaf s (.slice A5 l.length c5)).toList w.heap.size 0 w5) (Nat.le_refl _) (fun ad h1 h2 (h3 : ad.block = w.heap.size) => by have := HNE.out ad h1; omega)).more (setCells_size w5 w.heap.size 0 _), HNE.out⟩, g6⟩
theorem kparse_ok (who leaf : Int) (s : Nat → Nat) (l : List Nat) (hw : 0 ≤ who ∧ who ≤ 15) (hlf : 0 ≤ leaf ∧ leaf ≤ 9223372036854775807) (hl : l.length ≤ 8) (hs : ∀ k, k < 18 → s k < 18446744073709551616) (hb : ∀ n ∈ l, n < 18446744073709551616) (w : World) (hS : Std w) :
    Calls Tryz.prog 27 #[.string ⟨(sgT who leaf s l).toArray⟩] w fun e w' => (∃ A c, e = .returned (.tuple #[.agg (sgC who leaf s (.slice A l.length c)), .int .i64 0]) ∧ Rd w' w'.heap.size A (u64L l)) ∧ Grew w w' :=
  (kparse_fr who leaf s l hw hlf hl hs hb w hS).mono fun e w' ⟨⟨A, c, h1, h2, _⟩, g⟩ => ⟨⟨A, c, h1, h2⟩, g⟩
end Go.Proofs.YtpgbfglfgcidaaaGreatDoor

namespace Go.Proofs.YtpgbfglfgcidaaaGreatDoor
set_option linter.unusedSimpArgs false
set_option linter.unusedVariables false
open Go.RowKit
set_option linter.unusedVariables false
theorem kp_tn {g : Nat} {w w' : World} (h : Tn g w w') : Kp (fun j => j = g) w w' := ⟨h.os, h.tape, h.output, h.size, fun i hi hn => h.block i hi (fun e => hn (by injection e))⟩
theorem grew_tn {g : Nat} {a w w' : World} (h : Grew a w) (k : Tn g w w') (hg : a.heap.size ≤ g) : Grew a w' := below_tn h k h.size hg
set_option maxRecDepth 100000 in
theorem skip_err (b p : Nat) (who sd : Int) (l : List Nat) (nx rs : Nat) (hl : l.length ≤ 256) (n : Int) (hi : n < nx) (w : World) (h : KyAt w b p who sd l nx rs) :
    Calls Tryz.prog 18 #[.pointer (some ⟨b, 0, none⟩), .int .i64 n] w fun e w' => e = .returned (.int .i64 1) ∧ w = w' := by
  have c2 := h.c2
  have c3 := h.c3
  clear h
  go_enter Tryz.func18, Tryz.ntmps18
  go_wp2_with fail
  go_ret
  exact ⟨rfl, rfl⟩
theorem ky_leaves : leavesOk (pubsL 9 2).length = true := by rw [ky_len]; decide
theorem pubsL_lt (sd : Int) (n : Nat) : ∀ x ∈ pubsL sd n, x < 18446744073709551616 := fun x hx => by
  obtain ⟨i, _, rfl⟩ := List.mem_map.1 hx
  exact pubN_lt _
theorem ky_pathlen : (pathN (pubsL 9 2) 0).length = 1 := by rw [ky_path]; rfl
theorem ky_pathlt : ∀ x ∈ pathN (pubsL 9 2) 0, x < 18446744073709551616 := fun x hx => by
  rw [ky_path] at hx
  obtain rfl : x = pubN (secN 9 1) := by simpa using hx
  exact pubN_lt _
set_option maxRecDepth 100000 in
set_option maxHeartbeats 4000000 in
theorem kknown_ok (w : World) (hS : Std w) : Calls Tryz.prog 9 #[] w fun e w' => e = .returned (.bool true) ∧ Grew w w' := by
  have HS := Lib.hid hS
  clear hS
  have C1 := knew_ok 3 9 1 (by decide) (by decide) ⟨by omega, by omega⟩ w
  rw [show ((1 : Nat) : Int) = 1 from rfl, show 2 ^ 1 = 2 from rfl] at C1
  obtain ⟨P, hP⟩ : ∃ P, P = pubsL 9 2 := ⟨_, rfl⟩
  rw [← hP] at C1
  have hl2 : P.length = 2 := by rw [hP]; exact ky_len
  have hlv : leavesOk P.length = true := by rw [hP]; exact ky_leaves
  have hlt : ∀ x ∈ P, x < 18446744073709551616 := by rw [hP]; exact pubsL_lt 9 2
  have hpn : (pathN P 0).length = 1 := by rw [hP]; exact ky_pathlen
  have hpt : ∀ x ∈ pathN P 0, x < 18446744073709551616 := by rw [hP]; exact ky_pathlt
  have hv5 : vrS (rootN P) 0 (signF (secN 9 (0 : Nat)) 5) (pathN P 0) 5 1 = true := by rw [hP]; exact ver9_5
  have hv6 : vrS (rootN P) 0 (signF (secN 9 (0 : Nat)) 5) (pathN P 0) 6 1 = false := by rw [hP]; exact ver9_6
  have hv2 : vrS (rootN P) 0 (signF (secN 9 (0 : Nat)) 5) (pathN P 0) 5 2 = false := by rw [hP]; exact ver9_2
  have hst : ∀ k, k < 18 → signF (secN 9 (0 : Nat)) 5 k < 18446744073709551616 := fun k hk => signF_lt _ _ _ (secN_lt _ _ _)
  have HLV := Lib.hid hlv
  have HLT := Lib.hid hlt
  have HPT := Lib.hid hpt
  have HV5 := Lib.hid hv5
  have HV6 := Lib.hid hv6
  have HV2 := Lib.hid hv2
  have HST := Lib.hid hst
  clear hP hlv hlt hpt hv5 hv6 hv2 hst
  have hus := Tryz.underlying39
  have HZI : Hid ((Tryz.prog.info? 39).map (·.size) = some (#[.int .i64 0, .int .i64 0, .int .u64 0, .int .u64 0, .int .u64 0, .int .u64 0, .int .u64 0, .int .u64 0, .int .u64 0, .int .u64 0, .int .u64 0, .int .u64 0, .int .u64 0, .int .u64 0, .int .u64 0, .int .u64 0, .int .u64 0, .int .u64 0, .int .u64 0, .int .u64 0, .slice none 0 0] : Array Value).size) := Lib.hid sg_info
  have HZO : Hid ((#[.int .i64 0, .int .i64 0, .int .u64 0, .int .u64 0, .int .u64 0, .int .u64 0, .int .u64 0, .int .u64 0, .int .u64 0, .int .u64 0, .int .u64 0, .int .u64 0, .int .u64 0, .int .u64 0, .int .u64 0, .int .u64 0, .int .u64 0, .int .u64 0, .int .u64 0, .int .u64 0, .slice none 0 0] : Array Value).all (·.oneCell') = true) := Lib.hid (by simp [Value.oneCell'])
  go_enter Tryz.func9, Tryz.ntmps9
  go_wp2_with fail
  refine C1.mono ?_
  rintro e w1 ⟨rfl, G1, K1⟩
  clear C1
  obtain ⟨b, hb⟩ : ∃ b, w.heap.size + 1 = b := ⟨_, rfl⟩
  obtain ⟨p, hp⟩ : ∃ p, w.heap.size = p := ⟨_, rfl⟩
  rw [hb] at K1 ⊢
  rw [hp] at K1
  have hwb : w.heap.size ≤ b := by omega
  have HBP := Lib.hid (show p ≠ b by omega)
  clear hb hp
  go_wp2_with fail
  refine (knew_no 3 9 9 (by omega) w1).mono ?_
  rintro e w1' ⟨rfl, rfl⟩
  go_wp2_with fail
  refine (sign_state b p 3 9 P 0 0 (by omega) (by omega) (by omega) 5 (by omega) (by omega) w1 K1).mono ?_
  rintro e w2 ⟨rfl, gg⟩
  have zt := alloc_sig w2
  have HTH : Hid ((w2.alloc (.cells (#[.int .i64 0, .int .i64 0, .int .u64 0, .int .u64 0, .int .u64 0, .int .u64 0, .int .u64 0, .int .u64 0, .int .u64 0, .int .u64 0, .int .u64 0, .int .u64 0, .int .u64 0, .int .u64 0, .int .u64 0, .int .u64 0, .int .u64 0, .int .u64 0, .int .u64 0, .int .u64 0, .slice none 0 0]) 39)).there w2.heap.size 0 (#[.int .i64 0, .int .i64 0, .int .u64 0, .int .u64 0, .int .u64 0, .int .u64 0, .int .u64 0, .int .u64 0, .int .u64 0, .int .u64 0, .int .u64 0, .int .u64 0, .int .u64 0, .int .u64 0, .int .u64 0, .int .u64 0, .int .u64 0, .int .u64 0, .int .u64 0, .int .u64 0, .slice none 0 0] : Array Value).size) := Lib.hid (zt.thereN 21 rfl)
  have g5 : Grew w2 ((w2.alloc (.cells (#[.int .i64 0, .int .i64 0, .int .u64 0, .int .u64 0, .int .u64 0, .int .u64 0, .int .u64 0, .int .u64 0, .int .u64 0, .int .u64 0, .int .u64 0, .int .u64 0, .int .u64 0, .int .u64 0, .int .u64 0, .int .u64 0, .int .u64 0, .int .u64 0, .int .u64 0, .int .u64 0, .slice none 0 0]) 39)).setCells w2.heap.size 0 (#[.int .i64 0, .int .i64 0, .int .u64 0, .int .u64 0, .int .u64 0, .int .u64 0, .int .u64 0, .int .u64 0, .int .u64 0, .int .u64 0, .int .u64 0, .int .u64 0, .int .u64 0, .int .u64 0, .int .u64 0, .int .u64 0, .int .u64 0, .int .u64 0, .int .u64 0, .int .u64 0, .slice none 0 0] : Array Value).toList) := setCells_grew (o := 0) (b := w2.heap.size) (#[.int .i64 0, .int .i64 0, .int .u64 0, .int .u64 0, .int .u64 0, .int .u64 0, .int .u64 0, .int .u64 0, .int .u64 0, .int .u64 0, .int .u64 0, .int .u64 0, .int .u64 0, .int .u64 0, .int .u64 0, .int .u64 0, .int .u64 0, .int .u64 0, .int .u64 0, .int .u64 0, .slice none 0 0] : Array Value).toList (grew_alloc (grew_refl w2) _) (Nat.le_refl _)
  go_wp2_with (with_reducible refine wpList_store_mid rfl 39 (.tmp 5) (.tmp 38) rfl w2.heap.size 0 (#[.int .i64 0, .int .i64 0, .int .u64 0, .int .u64 0, .int .u64 0, .int .u64 0, .int .u64 0, .int .u64 0, .int .u64 0, .int .u64 0, .int .u64 0, .int .u64 0, .int .u64 0, .int .u64 0, .int .u64 0, .int .u64 0, .int .u64 0, .int .u64 0, .int .u64 0, .int .u64 0, .slice none 0 0]) rfl rfl HTH.out HZI.out HZO.out ?_)
  have K2 := (K1.grew gg).grew g5
  have G2 := grew_trans (grew_trans G1 gg) g5
  clear K1 G1 gg
  clear g5 HTH zt
  generalize (w2.alloc (.cells (#[.int .i64 0, .int .i64 0, .int .u64 0, .int .u64 0, .int .u64 0, .int .u64 0, .int .u64 0, .int .u64 0, .int .u64 0, .int .u64 0, .int .u64 0, .int .u64 0, .int .u64 0, .int .u64 0, .int .u64 0, .int .u64 0, .int .u64 0, .int .u64 0, .int .u64 0, .int .u64 0, .slice none 0 0]) 39)).setCells w2.heap.size 0 (#[.int .i64 0, .int .i64 0, .int .u64 0, .int .u64 0, .int .u64 0, .int .u64 0, .int .u64 0, .int .u64 0, .int .u64 0, .int .u64 0, .int .u64 0, .int .u64 0, .int .u64 0, .int .u64 0, .int .u64 0, .int .u64 0, .int .u64 0, .int .u64 0, .int .u64 0, .int .u64 0, .slice none 0 0] : Array Value).toList = v2 at *
  have CR := reserve_ok b p 3 9 P 0 0 (by omega) (by omega) (by omega) 1 (by omega) (by omega) _ K2
  rw [show ((1 : Nat) : Int) = 1 from rfl] at CR
  refine CR.mono ?_
  clear CR
  rintro e w3 ⟨rfl, tt, K3⟩
  have G3 := grew_tn G2 tt hwb
  clear K2 G2 tt
  go_wp2_with fail
  refine (sign_ok b p 3 9 P 0 (0 + 1) (by omega) (by omega) (by omega) 5 (by omega) (by omega) HLV.out HLT.out ⟨by omega, by omega⟩ ⟨by omega, by omega⟩ w3 K3).mono ?_
  rintro e w4 ⟨⟨A, c, rfl, r4, hA⟩, tt, K4⟩
  have HA : Hid (∀ ad, A = some ad → ad.block ≠ b) := Lib.hid (fun ad h => by have h1 := hA ad h; have h2 := K3.key.lt; omega)
  have G4 := grew_tn G3 tt hwb
  have hb4 : b < w4.heap.size := K4.key.lt
  clear K3 G3 tt hA
  rw [show (5 : Int).toNat = 5 from rfl, show ((0 : Nat) : Int) = 0 from rfl] at *
  generalize signF (secN 9 0) 5 = s at *
  generalize pathN P 0 = pl at *
  generalize hrt : rootN P = rt at *
  have CT := Lib.hid (fun W hW (hr : Rd W W.heap.size A (u64L pl)) => ktext_ok 3 0 s A c pl ⟨by omega, by omega⟩ ⟨by omega, by omega⟩ (by omega) HST.out HPT.out W hW hr)
  have CP := Lib.hid (fun W hW => kparse_ok 3 0 s pl ⟨by omega, by omega⟩ ⟨by omega, by omega⟩ (by omega) HST.out HPT.out W hW)
  have V5 := Lib.hid (fun W (hr : Rd W W.heap.size A (u64L pl)) => kverify_ok rt 3 0 s A c pl 5 1 (by omega) ⟨by omega, by omega⟩ HST.out HPT.out ⟨by omega, by omega⟩ W hr)
  have V6 := Lib.hid (fun W (hr : Rd W W.heap.size A (u64L pl)) => kverify_ok rt 3 0 s A c pl 6 1 (by omega) ⟨by omega, by omega⟩ HST.out HPT.out ⟨by omega, by omega⟩ W hr)
  have V2 := Lib.hid (fun W (hr : Rd W W.heap.size A (u64L pl)) => kverify_ok rt 3 0 s A c pl 5 2 (by omega) ⟨by omega, by omega⟩ HST.out HPT.out ⟨by omega, by omega⟩ W hr)
  have SM := Lib.hid (fun (A' : Option Addr) (c' : Nat) W (hr : Rd W W.heap.size A (u64L pl)) (hr' : Rd W W.heap.size A' (u64L pl)) => ksame_ok 3 0 s A' A c' c pl (by omega) W hr' hr)
  rw [HV5.out] at V5
  rw [HV6.out] at V6
  rw [HV2.out] at V2
  have HON := Lib.hid (sgC_one 3 0 s A pl.length c)
  have HSI : Hid ((Tryz.prog.info? 39).map (·.size) = some (sgC 3 0 s (.slice A pl.length c)).size) := Lib.hid sg_info
  have HSL : Hid ((Tryz.prog.info? 39).map (·.size) = some (sgC 3 0 s (.slice A pl.length c)).toList.length) := Lib.hid sg_info
  have HS0 : Hid ((sgC 3 0 s (.slice A pl.length c)).toList[0]? = some (.int .i64 3)) := Lib.hid rfl
  have HS1 : Hid ((sgC 3 0 s (.slice A pl.length c)).toList[1]? = some (.int .i64 0)) := Lib.hid rfl
  have HSz : Hid ((sgC 3 0 s (.slice A pl.length c)).size = 21) := Lib.hid rfl
  generalize sgC 3 0 s (.slice A pl.length c) = sg at *
  have z4 := alloc_sig w4
  have HTH : Hid ((w4.alloc (.cells (#[.int .i64 0, .int .i64 0, .int .u64 0, .int .u64 0, .int .u64 0, .int .u64 0, .int .u64 0, .int .u64 0, .int .u64 0, .int .u64 0, .int .u64 0, .int .u64 0, .int .u64 0, .int .u64 0, .int .u64 0, .int .u64 0, .int .u64 0, .int .u64 0, .int .u64 0, .int .u64 0, .slice none 0 0]) 39)).there w4.heap.size 0 sg.size) := Lib.hid (by rw [HSz.out]; exact z4.thereN 21 rfl)
  have z5 := Ag.set (vs := sg.toList) z4 (by rw [Array.length_toList, HSz.out]; rfl)
  have g5 : Grew w4 ((w4.alloc (.cells (#[.int .i64 0, .int .i64 0, .int .u64 0, .int .u64 0, .int .u64 0, .int .u64 0, .int .u64 0, .int .u64 0, .int .u64 0, .int .u64 0, .int .u64 0, .int .u64 0, .int .u64 0, .int .u64 0, .int .u64 0, .int .u64 0, .int .u64 0, .int .u64 0, .int .u64 0, .int .u64 0, .slice none 0 0]) 39)).setCells w4.heap.size 0 sg.toList) := setCells_grew (o := 0) (b := w4.heap.size) sg.toList (grew_alloc (grew_refl w4) _) (Nat.le_refl _)
  go_wp2_with (with_reducible refine wpList_store_mid rfl 39 (.tmp 9) (.tmp 48) rfl w4.heap.size 0 sg rfl rfl HTH.out HSI.out HON.out ?_)
  have K5 := K4.grew g5
  have G5 := grew_trans G4 g5
  have r5 := r4.gr g5
  have hsb : w4.heap.size ≠ b := by omega
  clear K4 G4 r4 g5 z4 HTH
  generalize w4.heap.size = sb at *
  generalize (w4.alloc (.cells (#[.int .i64 0, .int .i64 0, .int .u64 0, .int .u64 0, .int .u64 0, .int .u64 0, .int .u64 0, .int .u64 0, .int .u64 0, .int .u64 0, .int .u64 0, .int .u64 0, .int .u64 0, .int .u64 0, .int .u64 0, .int .u64 0, .int .u64 0, .int .u64 0, .int .u64 0, .int .u64 0, .slice none 0 0]) 39)).setCells sb 0 sg.toList = w5 at *
  refine (sign_state b p 3 9 P (0 + 1) (0 + 1) (by omega) (by omega) (by omega) 6 (by omega) (by omega) w5 K5).mono ?_
  rintro e w6 ⟨rfl, gg⟩
  have zt := alloc_sig w6
  have HTH : Hid ((w6.alloc (.cells (#[.int .i64 0, .int .i64 0, .int .u64 0, .int .u64 0, .int .u64 0, .int .u64 0, .int .u64 0, .int .u64 0, .int .u64 0, .int .u64 0, .int .u64 0, .int .u64 0, .int .u64 0, .int .u64 0, .int .u64 0, .int .u64 0, .int .u64 0, .int .u64 0, .int .u64 0, .int .u64 0, .slice none 0 0]) 39)).there w6.heap.size 0 (#[.int .i64 0, .int .i64 0, .int .u64 0, .int .u64 0, .int .u64 0, .int .u64 0, .int .u64 0, .int .u64 0, .int .u64 0, .int .u64 0, .int .u64 0, .int .u64 0, .int .u64 0, .int .u64 0, .int .u64 0, .int .u64 0, .int .u64 0, .int .u64 0, .int .u64 0, .int .u64 0, .slice none 0 0] : Array Value).size) := Lib.hid (zt.thereN 21 rfl)
  have g5 : Grew w6 ((w6.alloc (.cells (#[.int .i64 0, .int .i64 0, .int .u64 0, .int .u64 0, .int .u64 0, .int .u64 0, .int .u64 0, .int .u64 0, .int .u64 0, .int .u64 0, .int .u64 0, .int .u64 0, .int .u64 0, .int .u64 0, .int .u64 0, .int .u64 0, .int .u64 0, .int .u64 0, .int .u64 0, .int .u64 0, .slice none 0 0]) 39)).setCells w6.heap.size 0 (#[.int .i64 0, .int .i64 0, .int .u64 0, .int .u64 0, .int .u64 0, .int .u64 0, .int .u64 0, .int .u64 0, .int .u64 0, .int .u64 0, .int .u64 0, .int .u64 0, .int .u64 0, .int .u64 0, .int .u64 0, .int .u64 0, .int .u64 0, .int .u64 0, .int .u64 0, .int .u64 0, .slice none 0 0] : Array Value).toList) := setCells_grew (o := 0) (b := w6.heap.size) (#[.int .i64 0, .int .i64 0, .int .u64 0, .int .u64 0, .int .u64 0, .int .u64 0, .int .u64 0, .int .u64 0, .int .u64 0, .int .u64 0, .int .u64 0, .int .u64 0, .int .u64 0, .int .u64 0, .int .u64 0, .int .u64 0, .int .u64 0, .int .u64 0, .int .u64 0, .int .u64 0, .slice none 0 0] : Array Value).toList (grew_alloc (grew_refl w6) _) (Nat.le_refl _)
  go_wp2_with (with_reducible refine wpList_store_mid rfl 39 (.tmp 11) (.tmp 53) rfl w6.heap.size 0 (#[.int .i64 0, .int .i64 0, .int .u64 0, .int .u64 0, .int .u64 0, .int .u64 0, .int .u64 0, .int .u64 0, .int .u64 0, .int .u64 0, .int .u64 0, .int .u64 0, .int .u64 0, .int .u64 0, .int .u64 0, .int .u64 0, .int .u64 0, .int .u64 0, .int .u64 0, .int .u64 0, .slice none 0 0]) rfl rfl HTH.out HZI.out HZO.out ?_)
  have K6 := (K5.grew gg).grew g5
  have z6 := (z5.grew gg).grew g5
  have r6 := (r5.gr gg).gr g5
  have G6 := grew_trans (grew_trans G5 gg) g5
  clear K5 z5 r5 G5 gg
  clear g5 HTH zt
  generalize (w6.alloc (.cells (#[.int .i64 0, .int .i64 0, .int .u64 0, .int .u64 0, .int .u64 0, .int .u64 0, .int .u64 0, .int .u64 0, .int .u64 0, .int .u64 0, .int .u64 0, .int .u64 0, .int .u64 0, .int .u64 0, .int .u64 0, .int .u64 0, .int .u64 0, .int .u64 0, .int .u64 0, .int .u64 0, .slice none 0 0]) 39)).setCells w6.heap.size 0 (#[.int .i64 0, .int .i64 0, .int .u64 0, .int .u64 0, .int .u64 0, .int .u64 0, .int .u64 0, .int .u64 0, .int .u64 0, .int .u64 0, .int .u64 0, .int .u64 0, .int .u64 0, .int .u64 0, .int .u64 0, .int .u64 0, .int .u64 0, .int .u64 0, .int .u64 0, .int .u64 0, .slice none 0 0] : Array Value).toList = v6 at *
  refine (reserve_spent b p 3 9 P (0 + 1) (0 + 1) (by omega) (by omega) (by omega) 2 (by omega) (by omega) _ K6).mono ?_
  rintro e w7 ⟨rfl, tt, K7⟩
  have G7 := grew_tn G6 tt hwb
  have z7 := z6.kp (kp_tn tt) hsb
  have r7 := (r6.kp (kp_tn tt) (Nat.le_refl _) (fun ad h1 _ h3 => HA.out ad h1 h3)).more tt.size
  clear K6 z6 r6 G6 tt
  go_wp2_with fail
  have CS := skip_ok b p 3 9 P (0 + 1) (0 + 1) (by omega) (by omega) (by omega) 2 (by omega) (by omega) _ K7
  rw [show ((2 : Nat) : Int) = 2 from rfl] at CS
  refine CS.mono ?_
  clear CS
  rintro e w8 ⟨rfl, tt, K8⟩
  have G8 := grew_tn G7 tt hwb
  have z8 := z7.kp (kp_tn tt) hsb
  have r8 := (r7.kp (kp_tn tt) (Nat.le_refl _) (fun ad h1 _ h3 => HA.out ad h1 h3)).more tt.size
  clear K7 z7 r7 G7 tt
  go_wp2_with fail
  refine (sign_spent b p 3 9 P 2 (max (0 + 1) 2) (by omega) (by omega) (by omega) 6 (by omega) w8 K8).mono ?_
  rintro e w9 ⟨rfl, gg⟩
  have zt := alloc_sig w9
  have HTH : Hid ((w9.alloc (.cells (#[.int .i64 0, .int .i64 0, .int .u64 0, .int .u64 0, .int .u64 0, .int .u64 0, .int .u64 0, .int .u64 0, .int .u64 0, .int .u64 0, .int .u64 0, .int .u64 0, .int .u64 0, .int .u64 0, .int .u64 0, .int .u64 0, .int .u64 0, .int .u64 0, .int .u64 0, .int .u64 0, .slice none 0 0]) 39)).there w9.heap.size 0 (#[.int .i64 0, .int .i64 0, .int .u64 0, .int .u64 0, .int .u64 0, .int .u64 0, .int .u64 0, .int .u64 0, .int .u64 0, .int .u64 0, .int .u64 0, .int .u64 0, .int .u64 0, .int .u64 0, .int .u64 0, .int .u64 0, .int .u64 0, .int .u64 0, .int .u64 0, .int .u64 0, .slice none 0 0] : Array Value).size) := Lib.hid (zt.thereN 21 rfl)
  have g5 : Grew w9 ((w9.alloc (.cells (#[.int .i64 0, .int .i64 0, .int .u64 0, .int .u64 0, .int .u64 0, .int .u64 0, .int .u64 0, .int .u64 0, .int .u64 0, .int .u64 0, .int .u64 0, .int .u64 0, .int .u64 0, .int .u64 0, .int .u64 0, .int .u64 0, .int .u64 0, .int .u64 0, .int .u64 0, .int .u64 0, .slice none 0 0]) 39)).setCells w9.heap.size 0 (#[.int .i64 0, .int .i64 0, .int .u64 0, .int .u64 0, .int .u64 0, .int .u64 0, .int .u64 0, .int .u64 0, .int .u64 0, .int .u64 0, .int .u64 0, .int .u64 0, .int .u64 0, .int .u64 0, .int .u64 0, .int .u64 0, .int .u64 0, .int .u64 0, .int .u64 0, .int .u64 0, .slice none 0 0] : Array Value).toList) := setCells_grew (o := 0) (b := w9.heap.size) (#[.int .i64 0, .int .i64 0, .int .u64 0, .int .u64 0, .int .u64 0, .int .u64 0, .int .u64 0, .int .u64 0, .int .u64 0, .int .u64 0, .int .u64 0, .int .u64 0, .int .u64 0, .int .u64 0, .int .u64 0, .int .u64 0, .int .u64 0, .int .u64 0, .int .u64 0, .int .u64 0, .slice none 0 0] : Array Value).toList (grew_alloc (grew_refl w9) _) (Nat.le_refl _)
  go_wp2_with (with_reducible refine wpList_store_mid rfl 39 (.tmp 16) (.tmp 65) rfl w9.heap.size 0 (#[.int .i64 0, .int .i64 0, .int .u64 0, .int .u64 0, .int .u64 0, .int .u64 0, .int .u64 0, .int .u64 0, .int .u64 0, .int .u64 0, .int .u64 0, .int .u64 0, .int .u64 0, .int .u64 0, .int .u64 0, .int .u64 0, .int .u64 0, .int .u64 0, .int .u64 0, .int .u64 0, .slice none 0 0]) rfl rfl HTH.out HZI.out HZO.out ?_)
  have K9 := (K8.grew gg).grew g5
  have z9 := (z8.grew gg).grew g5
  have r9 := (r8.gr gg).gr g5
  have G9 := grew_trans (grew_trans G8 gg) g5
  clear K8 z8 r8 G8 gg
  clear g5 HTH zt
  generalize (w9.alloc (.cells (#[.int .i64 0, .int .i64 0, .int .u64 0, .int .u64 0, .int .u64 0, .int .u64 0, .int .u64 0, .int .u64 0, .int .u64 0, .int .u64 0, .int .u64 0, .int .u64 0, .int .u64 0, .int .u64 0, .int .u64 0, .int .u64 0, .int .u64 0, .int .u64 0, .int .u64 0, .int .u64 0, .slice none 0 0]) 39)).setCells w9.heap.size 0 (#[.int .i64 0, .int .i64 0, .int .u64 0, .int .u64 0, .int .u64 0, .int .u64 0, .int .u64 0, .int .u64 0, .int .u64 0, .int .u64 0, .int .u64 0, .int .u64 0, .int .u64 0, .int .u64 0, .int .u64 0, .int .u64 0, .int .u64 0, .int .u64 0, .int .u64 0, .int .u64 0, .slice none 0 0] : Array Value).toList = v9 at *
  refine (twin_ok b p 3 9 P 2 (max (0 + 1) 2) _ K9).mono ?_
  rintro e w10 ⟨rfl, gg, T10, hlt⟩
  have K10 := K9.grew gg
  have z10 := z9.grew gg
  have r10 := r9.gr gg
  have G10 := grew_trans G9 gg
  clear K9 z9 r9 G9 gg hlt
  generalize v9.heap.size = tb at *
  generalize (⟨(sgT 3 0 s pl).toArray⟩ : ByteArray) = tx at *
  go_wp2_with (with_reducible refine wpList_load_mid rfl 39 (.tmp 9) rfl sb 0 rfl sg.toList _ z10.cell hus rfl HSL.out ?_)
  refine (CT.out w10 (HS.out.grew G10) r10).mono ?_
  rintro e w11 ⟨rfl, gg⟩
  have K11 := K10.grew gg
  have T11 := T10.grew gg
  have z11 := z10.grew gg
  have r11 := r10.gr gg
  have G11 := grew_trans G10 gg
  clear K10 T10 z10 r10 G10 gg CT
  go_wp2_with fail
  refine (CP.out w11 (HS.out.grew G11)).mono ?_
  rintro e w12 ⟨⟨A', c', rfl, rx⟩, gg⟩
  have K12 := K11.grew gg
  have T12 := T11.grew gg
  have z12 := z11.grew gg
  have r12 := r11.gr gg
  have G12 := grew_trans G11 gg
  clear K11 T11 z11 r11 G11 gg CP
  have SX := Lib.hid (SM.out A' c')
  have XON := Lib.hid (sgC_one 3 0 s A' pl.length c')
  have XSI : Hid ((Tryz.prog.info? 39).map (·.size) = some (sgC 3 0 s (.slice A' pl.length c')).size) := Lib.hid sg_info
  have XSL : Hid ((Tryz.prog.info? 39).map (·.size) = some (sgC 3 0 s (.slice A' pl.length c')).toList.length) := Lib.hid sg_info
  have XSz : Hid ((sgC 3 0 s (.slice A' pl.length c')).size = 21) := Lib.hid rfl
  generalize sgC 3 0 s (.slice A' pl.length c') = sx at *
  have zt := alloc_sig w12
  have HTH : Hid ((w12.alloc (.cells (#[.int .i64 0, .int .i64 0, .int .u64 0, .int .u64 0, .int .u64 0, .int .u64 0, .int .u64 0, .int .u64 0, .int .u64 0, .int .u64 0, .int .u64 0, .int .u64 0, .int .u64 0, .int .u64 0, .int .u64 0, .int .u64 0, .int .u64 0, .int .u64 0, .int .u64 0, .int .u64 0, .slice none 0 0]) 39)).there w12.heap.size 0 sx.size) := Lib.hid (by rw [XSz.out]; exact zt.thereN 21 rfl)
  have zx := Ag.set (vs := sx.toList) zt (by rw [Array.length_toList, XSz.out]; rfl)
  have g5 : Grew w12 ((w12.alloc (.cells (#[.int .i64 0, .int .i64 0, .int .u64 0, .int .u64 0, .int .u64 0, .int .u64 0, .int .u64 0, .int .u64 0, .int .u64 0, .int .u64 0, .int .u64 0, .int .u64 0, .int .u64 0, .int .u64 0, .int .u64 0, .int .u64 0, .int .u64 0, .int .u64 0, .int .u64 0, .int .u64 0, .slice none 0 0]) 39)).setCells w12.heap.size 0 sx.toList) := setCells_grew (o := 0) (b := w12.heap.size) sx.toList (grew_alloc (grew_refl w12) _) (Nat.le_refl _)
  have K13 := K12.grew g5
  have T13 := T12.grew g5
  have z13 := z12.grew g5
  have r13 := r12.gr g5
  have x13 := rx.gr g5
  have G13 := grew_trans G12 g5
  clear K12 T12 z12 r12 G12 rx zt
  go_wp2_with (with_reducible refine wpList_store_mid rfl 39 (.tmp 19) (.tmp 73) rfl w12.heap.size 0 sx rfl rfl HTH.out XSI.out XON.out ?_)
  clear g5 HTH
  generalize w12.heap.size = xb at *
  generalize (w12.alloc (.cells (#[.int .i64 0, .int .i64 0, .int .u64 0, .int .u64 0, .int .u64 0, .int .u64 0, .int .u64 0, .int .u64 0, .int .u64 0, .int .u64 0, .int .u64 0, .int .u64 0, .int .u64 0, .int .u64 0, .int .u64 0, .int .u64 0, .int .u64 0, .int .u64 0, .int .u64 0, .int .u64 0, .slice none 0 0]) 39)).setCells xb 0 sx.toList = w13 at *
  have LS : Hid (∀ y : Gr w13, Ag y.val sb sg.toList) := Lib.hid (fun y => z13.gr y)
  have LX : Hid (∀ y : Gr w13, Ag y.val xb sx.toList) := Lib.hid (fun y => zx.gr y)
  have q0 : ∀ y : Gr w13, y.val.cell? ⟨sb, 0, none⟩ = some (.int .i64 3) := fun y => by simpa using (z13.gr y).cell 0 _ HS0.out
  have q1 : ∀ y : Gr w13, y.val.cell? ⟨sb, 1, none⟩ = some (.int .i64 0) := fun y => by simpa using (z13.gr y).cell 1 _ HS1.out
  have KK : Hid (∀ y : Gr w13, KyAt y.val b p 3 9 P 2 (max (0 + 1) 2)) := Lib.hid (fun y => K13.grew y.ok)
  have TT : Hid (∀ y : Gr w13, KyAt y.val tb p 3 9 P 2 (max (0 + 1) 2)) := Lib.hid (fun y => T13.grew y.ok)
  have RR : Hid (∀ y : Gr w13, Rd y.val y.val.heap.size A (u64L pl)) := Lib.hid (fun y => r13.gr y.ok)
  have RX : Hid (∀ y : Gr w13, Rd y.val y.val.heap.size A' (u64L pl)) := Lib.hid (fun y => x13.gr y.ok)
  have CRt : Hid (∀ y : Gr w13, Calls Tryz.prog 23 #[.pointer (some ⟨b, 0, none⟩)] y.val fun e w' => e = .returned (.int .u64 (rt : Nat)) ∧ Grew y.val w') := Lib.hid (fun y => by rw [← hrt]; exact keyroot_ok b p 3 9 P 2 (max (0 + 1) 2) (by omega) HLV.out HLT.out y.val (KK.out y))
  have CNx : Hid (∀ y : Gr w13, Calls Tryz.prog 21 #[.pointer (some ⟨b, 0, none⟩)] y.val fun e w' => e = .returned (.int .i64 2) ∧ y.val = w') := Lib.hid (fun y => next_ok b p 3 9 P 2 (max (0 + 1) 2) y.val (KK.out y))
  have CTx : Hid (∀ y : Gr w13, Calls Tryz.prog 21 #[.pointer (some ⟨tb, 0, none⟩)] y.val fun e w' => e = .returned (.int .i64 2) ∧ y.val = w') := Lib.hid (fun y => next_ok tb p 3 9 P 2 (max (0 + 1) 2) y.val (TT.out y))
  have CLf : Hid (∀ y : Gr w13, Calls Tryz.prog 22 #[.pointer (some ⟨b, 0, none⟩)] y.val fun e w' => e = .returned (.int .i64 0) ∧ Grew y.val w') := Lib.hid (fun y => by
    have := left_ok b p 3 9 P 2 (max (0 + 1) 2) (by omega) (by omega) y.val (KK.out y)
    rwa [show (P.length : Int) - ((2 : Nat) : Int) = 0 by omega] at this)
  have CSk : Hid (∀ y : Gr w13, Calls Tryz.prog 18 #[.pointer (some ⟨b, 0, none⟩), .int .i64 1] y.val fun e w' => e = .returned (.int .i64 1) ∧ y.val = w') := Lib.hid (fun y => skip_err b p 3 9 P 2 (max (0 + 1) 2) (by omega) 1 (by omega) y.val (KK.out y))
  have W5 : Hid (∀ y : Gr w13, Calls Tryz.prog 25 #[.int .u64 (rt : Nat), .agg sg, .int .u64 5, .int .i64 1] y.val fun e w' => e = .returned (.bool true) ∧ Grew y.val w') := Lib.hid (fun y => V5.out y.val (RR.out y))
  have W6 : Hid (∀ y : Gr w13, Calls Tryz.prog 25 #[.int .u64 (rt : Nat), .agg sg, .int .u64 6, .int .i64 1] y.val fun e w' => e = .returned (.bool false) ∧ Grew y.val w') := Lib.hid (fun y => V6.out y.val (RR.out y))
  have W2 : Hid (∀ y : Gr w13, Calls Tryz.prog 25 #[.int .u64 (rt : Nat), .agg sg, .int .u64 5, .int .i64 2] y.val fun e w' => e = .returned (.bool false) ∧ Grew y.val w') := Lib.hid (fun y => V2.out y.val (RR.out y))
  have WS : Hid (∀ y : Gr w13, Calls Tryz.prog 32 #[.agg sx, .agg sg] y.val fun e w' => e = .returned (.bool true) ∧ Grew y.val w') := Lib.hid (fun y => SX.out y.val (RR.out y) (RX.out y))
  clear K13 T13 z13 r13 x13 zx V5 V6 V2 SX SM
  have HSI2 := HSL
  have HXI2 := XSL
  clear HZI HZO HON HSI HSz XON XSI XSz HS0 HS1 HLV HLT HPT HV5 HV6 HV2 HST HA
  go_wp2_with fail
  refine wp_region_grew (grew_refl w13) (by kernel_rfl) (by kernel_rfl) ?_
  simp only [List.append_eq, List.cons_append, List.nil_append]
  repeat (first
    | (go_big_quiet_want; refine quiet_load_mid 39 (.tmp 9) rfl sb 0 rfl sg.toList _ (fun y => (LS.out y).cell) hus rfl HSL.out ?_; simp only [Act.put, List.setIfInBounds_toArray, List.set_cons_succ, List.set_cons_zero, Array.toArray_toList]; go_big_quiet_on)
    | (go_big_quiet_want; refine quiet_load_mid 39 (.tmp 19) rfl xb 0 rfl sx.toList _ (fun y => (LX.out y).cell) hus rfl XSL.out ?_; simp only [Act.put, List.setIfInBounds_toArray, List.set_cons_succ, List.set_cons_zero, Array.toArray_toList]; go_big_quiet_on)
    | (go_big_quiet_step (first
      | (go_at_call 23; exact callG (CRt.out _))
      | (go_at_call_of 25 (Value.int IntKind.u64 6); exact callG (W6.out _))
      | (go_at_call_of 25 (Value.int IntKind.i64 2); exact callG (W2.out _))
      | (go_at_call 25; exact callG (W5.out _))
      | (go_at_call 32; exact callG (WS.out _))
      | (go_at_call_of 21 (Value.pointer (some (⟨tb, 0, none⟩ : Addr))); exact callS (CTx.out _))
      | (go_at_call 21; exact callS (CNx.out _))
      | (go_at_call 22; exact callG (CLf.out _))
      | (go_at_call 18; exact callS (CSk.out _)))))
  refine wpQuiet_nil ?_
  rintro w14 ⟨⟨w14', g14⟩, rfl⟩
  go_wp2_with fail
  go_ret
  exact ⟨rfl, grew_trans G13 g14⟩
end Go.Proofs.YtpgbfglfgcidaaaGreatDoor

namespace Go.Proofs.YtpgbfglfgcidaaaGreatDoor
set_option linter.unusedSimpArgs false
set_option linter.unusedVariables false
open Go.RowKit
set_option linter.unusedVariables false
theorem pubsL_snoc (sd : Int) (k : Nat) : pubsL sd (k + 1) = pubsL sd k ++ [pubN (secN sd (k : Int))] := by simp [pubsL, List.range_succ]
theorem leaves_pow : ∀ h : Fin 9, leavesOk (2 ^ h.val) = true := by decide
set_option maxRecDepth 100000 in
set_option maxHeartbeats 4000000 in
theorem keyRoots_law (x seed y : Int) (hx : 0 ≤ x ∧ x ≤ 255) (hsd : U64 seed) (hy : 0 ≤ y ∧ y ≤ 255) (w : World) (hS : Std w) :
    Calls Tryz.prog 6 #[.int .u8 x, .int .u64 seed, .int .u8 y] w fun e w' => e = .returned (.bool true) ∧ Grew w w' := by
  have CK := Lib.hid (kknown_ok w hS)
  clear hS
  obtain ⟨h, hh, hh6⟩ : ∃ h : Nat, y % 6 = (h : Int) ∧ h < 6 := ⟨(y % 6).toNat, by omega, by omega⟩
  obtain ⟨who, hw, hw15⟩ : ∃ who : Int, x % 16 = who ∧ (0 ≤ who ∧ who ≤ 15) := ⟨_, rfl, by omega⟩
  have CN := Lib.hid (fun W => knew_ok who seed h hw15 (by omega) hsd W)
  have hlv : leavesOk (2 ^ h) = true := leaves_pow ⟨h, by omega⟩
  have hn : 2 ^ h ≤ 256 := by
    have : 2 ^ h ≤ 2 ^ 8 := Nat.pow_le_pow_right (by decide) (by omega)
    simpa using this
  have e2 : wrap64 ((2 : Int) ^ h) = ((2 ^ h : Nat) : Int) := by
    have : ((2 : Int) ^ h) = ((2 ^ h : Nat) : Int) := by simp
    rw [this]
    generalize 2 ^ h = n at *
    unfold wrap64; omega
  have h0 : (0 : Int) ≤ (h : Int) := by omega
  have h5 : (h : Int) ≤ 5 := by omega
  generalize 2 ^ h = n at *
  have hlen := pubsL_length seed n
  have hlt := pubsL_lt seed n
  have HLV : Hid (leavesOk (pubsL seed n).length = true) := Lib.hid (by rw [hlen]; exact hlv)
  have HLT := Lib.hid hlt
  have HLN := Lib.hid hlen
  have HSN := Lib.hid (fun k => pubsL_snoc seed k)
  have CS := Lib.hid (fun (k : Nat) (hk : k < 256) W => secrets_any seed k hsd ⟨by omega, by omega⟩ W)
  have CP := Lib.hid (fun (k : Nat) W => pub_any (secN seed k) W (fun j _ => secN_lt _ _ _))
  have HPL := Lib.hid (fun k => pubN_lt (secN seed k))
  obtain ⟨i0, hi, hz0, hz1, hz2⟩ := info_parts infoD
  clear hlv hlt hlen hsd hw15
  go_enter Tryz.func6, Tryz.ntmps6
  go_wp2_with fail
  refine CK.out.mono ?_
  rintro e w1 ⟨rfl, G1⟩
  clear CK
  go_wp2_with fail
  refine (CN.out w1).mono ?_
  rintro e w2 ⟨rfl, gg, K2⟩
  have G2 := grew_trans G1 gg
  obtain ⟨b, hb⟩ : ∃ b, w1.heap.size + 1 = b := ⟨_, rfl⟩
  obtain ⟨p, hp⟩ : ∃ p, w1.heap.size = p := ⟨_, rfl⟩
  rw [hb] at K2 ⊢
  rw [hp] at K2
  clear hb hp gg G1 CN
  go_wp2_with fail
  go_loopw [10, 11] (fun rv iv wr => ∃ k : Nat, k ≤ n ∧ iv = .int .i64 k ∧ wr.ownsRow w2.heap.size 34 1 rv k (u64L (pubsL seed k)) ∧ Grew w2 wr) (fun _ iv _ => n - (intOf iv).toNat)
  case atStart => exact ⟨0, Nat.zero_le _, rfl, World.ownsRow_nil _ _ _ _, grew_refl _⟩
  case round =>
    obtain ⟨k, hk, rfl, hown, hg⟩ := hrel
    by_cases hlt : k < n
    · have hk0 : (0 : Int) ≤ (k : Int) := by omega
      have hk1 : (k : Int) < (n : Int) := by omega
      have e1 : IntKind.i64.wrap ((k : Int) + 1) = ((k + 1 : Nat) : Int) := by rw [IntWalk.i64_in _ (by omega)]; omega
      have cS := CS.out k (by omega) wr
      have ha : ((List.range 18).map fun j => u64V (secN seed (k : Int) j)).toArray = arrU (secN seed (k : Int)) := rfl
      rw [ha] at cS
      have CC := Lib.hid cS
      have HK := Lib.hid hlt
      clear cS ha
      go_wp2_with fail
      refine CC.out.mono ?_
      rintro e w3 ⟨rfl, g3⟩
      clear CC
      go_wp2_with fail
      refine (CP.out k w3).mono ?_
      rintro e w4 ⟨rfl, g4⟩
      have hg3 := grew_trans g3 g4
      have hgg := grew_trans hg hg3
      have hown3 := ownsRow_kp (S := fun _ => False) hown (kp_grew hg3) (fun g _ h => h)
      have hz3 := hgg.size
      have HT : Hid (u64L (pubsL seed (k + 1)) = u64L (pubsL seed k) ++ [Value.int .u64 (pubN (secN seed (k : Int)) : Nat)]) := Lib.hid (by rw [HSN.out k]; simp [u64L])
      clear g3 g4 hg3 hown hg
      generalize pubN (secN seed (k : Int)) = q at *
      go_wp2_with (at_builtin; refine wpList_append_rd rfl (.tmp 41) (.tmp 46) 37 rfl w2.heap.size 34 i0 (.int .u64 0) 8 Tryz.underlying37 hi hz0 hz1 hz2 rfl _ k _ rfl (hown3.alloc _) (w4.heap.size + 1) (some ⟨w4.heap.size, 0, none⟩) 1 1 [Value.int .u64 (q : Nat)] rfl rfl (rd_new w4 34 #[Value.int .u64 (q : Nat)] (0, 0)) (one_cell rfl) (by unfold maxLen; omega) (by omega) (by simp; omega) ?_; intro v6 w6 hown6 hgrow6 _; have hg6 := grew_put hgg hgrow6 (own_base hown3))
      go_roundw
      case rel => exact ⟨k + 1, by have := HK.out; omega, by go_num, by rw [HT.out]; exact hown6, hg6⟩
      case measure => have h9 := HK.out; simp [intOf]; omega
    · obtain rfl : k = n := by omega
      obtain ⟨A, c, rfl, -, -, hrd⟩ := own_rd hown
      have CR := root_ok A c wr.heap.size (pubsL seed k) (by rw [HLN.out]; omega) HLV.out HLT.out wr hrd (Nat.le_refl _)
      rw [HLN.out] at CR
      have K3 := K2.grew hg
      have G3 := grew_trans G2 hg
      clear K2 G2 hg hown hrd
      go_wp2_with fail
      refine CR.mono ?_
      rintro e w5 ⟨rfl, g5⟩
      have K5 := K3.grew g5
      have G5 := grew_trans G3 g5
      clear CR K3 G3 g5
      have CK := keyroot_ok b p who seed (pubsL seed k) 0 0 (by rw [HLN.out]; omega) HLV.out HLT.out w5 K5
      go_wp2_with fail
      refine CK.mono ?_
      rintro e w6 ⟨rfl, g6⟩
      have K6 := K5.grew g6
      have G6 := grew_trans G5 g6
      clear CK K5 G5 g6
      have CL := left_ok b p who seed (pubsL seed k) 0 0 (by rw [HLN.out]; omega) (Nat.zero_le _) w6 K6
      rw [HLN.out, show ((k : Int) - ((0 : Nat) : Int)) = (k : Int) by omega] at CL
      go_wp2_with fail
      refine CL.mono ?_
      rintro e w7 ⟨rfl, g7⟩
      have K7 := K6.grew g7
      have G7 := grew_trans G6 g7
      clear CL K6 G6 g7
      have CX := next_ok b p who seed (pubsL seed k) 0 0 w7 K7
      go_wp2_with fail
      refine CX.mono ?_
      rintro e w8 ⟨rfl, rfl⟩
      clear CX
      go_wp2_with fail
      go_ret
      exact ⟨by simp, G7⟩
end Go.Proofs.YtpgbfglfgcidaaaGreatDoor

namespace Go.Proofs.YtpgbfglfgcidaaaGreatDoor
set_option linter.unusedSimpArgs false
set_option linter.unusedVariables false
open Go.RowKit
set_option linter.unusedVariables false
theorem ver_pubs (sd : Int) (m d : Nat) (hm : m < 16) : vrS (rootN (pubsL sd 16)) (m : Int) (signF (secN sd (m : Int)) d) (pathN (pubsL sd 16) m) (d : Int) 4 = true := by
  have hl : (pubsL sd 16).length = 2 ^ 4 := pubsL_length sd 16
  obtain ⟨h1, h2⟩ := path_pow 4 (by omega) (pubsL sd 16) m hl (by rw [hl]; omega)
  have h3 : (pubsL sd 16).getD m 0 = pubN (secN sd (m : Int)) := by simp [pubsL, List.getD, hm]
  rw [h3] at h2
  unfold vrS
  rw [Int.toNat_natCast, rec_sign, verN_yes (by rw [h1]; omega), Int.toNat_natCast, h2, h1]
  simp
theorem path_four (sd : Int) (m : Nat) (hm : m < 16) : (pathN (pubsL sd 16) m).length = 4 := by
  have hl : (pubsL sd 16).length = 2 ^ 4 := pubsL_length sd 16
  exact (path_pow 4 (by omega) (pubsL sd 16) m hl (by rw [hl]; omega)).1
set_option maxRecDepth 100000 in
set_option maxHeartbeats 4000000 in
theorem keyTwins_law (seed : Int) (hsd : U64 seed) (A : Option Addr) (c : Nat) (l : List Int) (y : Int) (hy : 0 ≤ y ∧ y ≤ 255) (hz : ∀ z ∈ l, U64 z) (w : World) (hS : Std w) (hr : Rd w w.heap.size A (l.map (Value.int .u64))) (hlm : l.length ≤ 9223372036854775807) :
    Calls Tryz.prog 7 #[.int .u64 seed, .slice A l.length c, .int .u8 y] w fun e w' => e = .returned (.bool true) ∧ Grew w w' := by
  have CK := Lib.hid (kknown_ok w hS)
  clear hS
  by_cases hbig : 20 < l.length
  · have hbi : (20 : Int) < (l.length : Int) := by omega
    go_enter Tryz.func7, Tryz.ntmps7
    go_wp2_with (go_at_call 9; refine (CK.out).mono ?_; rintro e w1 ⟨rfl, hg1⟩)
    go_ret
    exact ⟨rfl, hg1⟩
  · have hbi : ¬ (20 : Int) < (l.length : Int) := by omega
    have HR := Lib.hid hr
    have HU := Lib.hid hz
    have hl20 : l.length ≤ 20 := by omega
    have hus := Tryz.underlying39
    have HZI : Hid ((Tryz.prog.info? 39).map (·.size) = some (#[.int .i64 0, .int .i64 0, .int .u64 0, .int .u64 0, .int .u64 0, .int .u64 0, .int .u64 0, .int .u64 0, .int .u64 0, .int .u64 0, .int .u64 0, .int .u64 0, .int .u64 0, .int .u64 0, .int .u64 0, .int .u64 0, .int .u64 0, .int .u64 0, .int .u64 0, .int .u64 0, .slice none 0 0] : Array Value).size) := Lib.hid sg_info
    have HZO : Hid ((#[.int .i64 0, .int .i64 0, .int .u64 0, .int .u64 0, .int .u64 0, .int .u64 0, .int .u64 0, .int .u64 0, .int .u64 0, .int .u64 0, .int .u64 0, .int .u64 0, .int .u64 0, .int .u64 0, .int .u64 0, .int .u64 0, .int .u64 0, .int .u64 0, .int .u64 0, .int .u64 0, .slice none 0 0] : Array Value).all (·.oneCell') = true) := Lib.hid (by simp [Value.oneCell'])
    have CN := Lib.hid (fun W => knew_ok 2 seed 4 (by decide) (by decide) hsd W)
    rw [show ((4 : Nat) : Int) = 4 from rfl, show 2 ^ 4 = 16 from rfl] at CN
    obtain ⟨P, hP⟩ : ∃ P, P = pubsL seed 16 := ⟨_, rfl⟩
    rw [← hP] at CN
    have HV : Hid (∀ m : Nat, m < 16 → vrS (rootN P) (m : Int) (signF (secN seed (m : Int)) 5) (pathN P m) 5 4 = true) := Lib.hid (by rw [hP]; exact fun m hm => ver_pubs seed m 5 hm)
    have H4 : Hid (∀ m : Nat, m < 16 → (pathN P m).length = 4) := Lib.hid (by rw [hP]; exact fun m hm => path_four seed m hm)
    have hl2 : P.length = 16 := by rw [hP]; exact pubsL_length _ _
    have hlv : leavesOk P.length = true := by rw [hl2]; decide
    have hlt : ∀ x ∈ P, x < 18446744073709551616 := by rw [hP]; exact pubsL_lt seed 16
    have HLV := Lib.hid hlv
    have HLT := Lib.hid hlt
    have HSD := Lib.hid hsd
    obtain ⟨n, hn, hn20⟩ : ∃ n : Nat, y % 20 = (n : Int) ∧ n < 20 := ⟨(y % 20).toNat, by omega, by omega⟩
    clear hP hlv hlt hsd hr hbig hlm hz
    go_enter Tryz.func7, Tryz.ntmps7
    go_wp2_with fail
    refine CK.out.mono ?_
    rintro e w1 ⟨rfl, G1⟩
    clear CK
    go_wp2_with fail
    refine (CN.out w1).mono ?_
    rintro e w2 ⟨rfl, gg, K2⟩
    have G2 := grew_trans G1 gg
    have hw1 := G1.size
    obtain ⟨b, hb⟩ : ∃ b, w1.heap.size + 1 = b := ⟨_, rfl⟩
    obtain ⟨p, hp⟩ : ∃ p, w1.heap.size = p := ⟨_, rfl⟩
    rw [hb] at K2 ⊢
    rw [hp] at K2
    have hwb : w.heap.size ≤ b := by omega
    clear hb hp gg G1 CN hw1
    go_wp2_with fail
    have CR := reserve_ok b p 2 seed P 0 0 (by omega) (by omega) (by omega) 16 (by omega) (by omega) w2 K2
    rw [show ((16 : Nat) : Int) = 16 from rfl] at CR
    refine CR.mono ?_
    rintro e w3 ⟨rfl, tt, K3⟩
    have G3 := grew_tn G2 tt hwb
    clear K2 G2 tt CR
    go_wp2_with fail
    refine (twin_ok b p 2 seed P 0 (0 + 16) w3 K3).mono ?_
    rintro e w4 ⟨rfl, gg, T4, hsz⟩
    have hbt : b ≠ w3.heap.size := by have := K3.key.lt; omega
    have hpt : p ≠ w3.heap.size := by have := K3.pub.lt; omega
    have K4 := K3.grew gg
    have G4 := grew_trans G3 gg
    have hwt : w.heap.size ≤ w3.heap.size := G3.size
    clear K3 G3 gg
    rw [show 0 + 16 = 16 from rfl] at K4 T4
    generalize w3.heap.size = t at *
    clear hsz
    go_wp2_with fail
    go_loopw [10] (fun iv wr => ∃ k : Nat, k ≤ l.length ∧ k ≤ 8 ∧ iv = .int .i64 k ∧ KyAt wr b p 2 seed P k 16 ∧ KyAt wr t p 2 seed P k 16 ∧ Grew w wr) (fun iv _ => l.length - (intOf iv).toNat)
    case atStart => exact ⟨0, Nat.zero_le _, Nat.zero_le _, rfl, K4, T4, G4⟩
    case round =>
      clear K4 T4 G4
      obtain ⟨k, hk, hk8, rfl, K, Q, G⟩ := hrel
      have hk0 : (0 : Int) ≤ (k : Int) := by omega
      by_cases hlt : k < l.length ∧ k < 8
      · obtain ⟨hkl, hk9⟩ := hlt
        have hk1 : (k : Int) < (l.length : Int) := by omega
        have hk2 : (k : Int) < 8 := by omega
        have e1 : IntKind.i64.wrap ((k : Int) + 1) = ((k + 1 : Nat) : Int) := by rw [IntWalk.i64_in _ (by omega)]; omega
        have hzu := HU.out (l[k]'hkl) (List.getElem_mem hkl)
        have HC : Hid (∃ ad, A = some ad ∧ ∀ W, Grew w W → W.cell? (ad.add k) = some (.int .u64 (l[k]'hkl))) := Lib.hid (by
          obtain ⟨ad, hA, hbl, hc0⟩ := HR.out k (by simpa using hkl)
          refine ⟨ad, hA, fun W g => ?_⟩
          obtain ⟨ad', hA', _, hc⟩ := (HR.out.grew g) k (by simpa using hkl)
          rw [hA] at hA'
          cases hA'
          simpa using hc)
        obtain ⟨ad, hA, hcell⟩ := HC.out
        subst hA
        clear HC
        generalize l[k]'hkl = z at *
        have HCL := Lib.hid hcell
        clear hcell
        have hc0 := HCL.out wr G
        have hpl := H4.out k (by omega)
        have hpx := pathN_lt P k HLT.out
        have HPX := Lib.hid hpx
        clear hpx
        go_wp2_with fail
        refine (sign_ok b p 2 seed P k 16 (by omega) (by omega) (by omega) z (by omega) (by omega) HLV.out HLT.out HSD.out hzu wr K).mono ?_
        rintro e w3 ⟨⟨A1, c1, rfl, r1, hA1⟩, tt, K3⟩
        have hAt : Hid (∀ ad, A1 = some ad → ad.block ≠ t) := Lib.hid (fun ad h => by have h1 := hA1 ad h; have h2 := Q.key.lt; omega)
        have Q3 := Q.tn tt (Ne.symm hbt) K.ne
        have G3 := grew_tn G tt hwb
        clear K Q G tt hA1 hc0
        obtain ⟨s, hs⟩ : ∃ s, signF (secN seed (k : Int)) z.toNat = s := ⟨_, rfl⟩
        obtain ⟨pl, hq⟩ : ∃ pl, pathN P k = pl := ⟨_, rfl⟩
        have HSQ := Lib.hid hs
        have HPQ := Lib.hid hq
        rw [hs] at ⊢
        rw [hq] at r1 hpl HPX ⊢
        clear hs hq
        obtain ⟨g1, hg1⟩ : ∃ g, sgC 2 (k : Int) s (.slice A1 pl.length c1) = g := ⟨_, rfl⟩
        have HON1 := Lib.hid (sgC_one 2 (k : Int) s A1 pl.length c1)
        have HSI1 : Hid ((Tryz.prog.info? 39).map (·.size) = some (sgC 2 (k : Int) s (.slice A1 pl.length c1)).size) := Lib.hid sg_info
        have HSL1 : Hid ((Tryz.prog.info? 39).map (·.size) = some (sgC 2 (k : Int) s (.slice A1 pl.length c1)).toList.length) := Lib.hid sg_info
        have HSB1 : Hid ((sgC 2 (k : Int) s (.slice A1 pl.length c1)).toList[1]? = some (.int .i64 (k : Int))) := Lib.hid rfl
        have HSz1 : Hid ((sgC 2 (k : Int) s (.slice A1 pl.length c1)).size = 21) := Lib.hid rfl
        rw [hg1] at HON1 HSI1 HSL1 HSB1 HSz1 ⊢
        have HG1 := Lib.hid hg1
        clear hg1
        have zt := alloc_sig w3
        have HTH : Hid ((w3.alloc (.cells (#[.int .i64 0, .int .i64 0, .int .u64 0, .int .u64 0, .int .u64 0, .int .u64 0, .int .u64 0, .int .u64 0, .int .u64 0, .int .u64 0, .int .u64 0, .int .u64 0, .int .u64 0, .int .u64 0, .int .u64 0, .int .u64 0, .int .u64 0, .int .u64 0, .int .u64 0, .int .u64 0, .slice none 0 0]) 39)).there w3.heap.size 0 g1.size) := Lib.hid (by rw [HSz1.out]; exact zt.thereN 21 rfl)
        have z4 := Ag.set (vs := g1.toList) zt (by rw [Array.length_toList, HSz1.out]; rfl)
        have g5 : Grew w3 ((w3.alloc (.cells (#[.int .i64 0, .int .i64 0, .int .u64 0, .int .u64 0, .int .u64 0, .int .u64 0, .int .u64 0, .int .u64 0, .int .u64 0, .int .u64 0, .int .u64 0, .int .u64 0, .int .u64 0, .int .u64 0, .int .u64 0, .int .u64 0, .int .u64 0, .int .u64 0, .int .u64 0, .int .u64 0, .slice none 0 0]) 39)).setCells w3.heap.size 0 g1.toList) := setCells_grew (o := 0) (b := w3.heap.size) g1.toList (grew_alloc (grew_refl w3) _) (Nat.le_refl _)
        have K4 := K3.grew g5
        have Q4 := Q3.grew g5
        have G4 := grew_trans G3 g5
        have r4 := r1.gr g5
        have hqt : w3.heap.size ≠ t := by have := Q3.key.lt; omega
        clear zt g5 K3 Q3 G3 r1
        obtain ⟨w4, hw4⟩ : ∃ w4, (w3.alloc (.cells (#[.int .i64 0, .int .i64 0, .int .u64 0, .int .u64 0, .int .u64 0, .int .u64 0, .int .u64 0, .int .u64 0, .int .u64 0, .int .u64 0, .int .u64 0, .int .u64 0, .int .u64 0, .int .u64 0, .int .u64 0, .int .u64 0, .int .u64 0, .int .u64 0, .int .u64 0, .int .u64 0, .slice none 0 0]) 39)).setCells w3.heap.size 0 g1.toList = w4 := ⟨_, rfl⟩
        rw [hw4] at K4 Q4 G4 r4 z4
        have HW4 := Lib.hid hw4
        clear hw4
        have hc4 := HCL.out w4 G4
        go_wp2_with (with_reducible refine wpList_store_mid rfl 39 (.tmp 11) (.tmp 59) rfl w3.heap.size 0 g1 rfl rfl HTH.out HSI1.out HON1.out ?_; rw [HW4.out])
        clear HW4 HTH
        generalize w3.heap.size = q1 at *
        refine (sign_ok t p 2 seed P k 16 (by omega) (by omega) (by omega) z (by omega) (by omega) HLV.out HLT.out HSD.out hzu w4 Q4).mono ?_
        rw [HSQ.out, HPQ.out]
        rintro e w5 ⟨⟨A2, c2, rfl, r2, hA2⟩, tt, Q5⟩
        have K5 := K4.tn tt hbt hpt
        have z5 := z4.kp (kp_tn tt) hqt
        have r5 := (r4.kp (kp_tn tt) (Nat.le_refl _) (fun ad h1 _ h3 => hAt.out ad h1 h3)).more tt.size
        have G5 := grew_tn G4 tt hwt
        clear K4 Q4 G4 r4 z4 tt hA2 hc4
        have CS := Lib.hid (fun W h1 h2 => ksame_ok 2 (k : Int) s A1 A2 c1 c2 pl (by omega) W h1 h2)
        rw [HG1.out] at CS
        obtain ⟨g2, hg2⟩ : ∃ g, sgC 2 (k : Int) s (.slice A2 pl.length c2) = g := ⟨_, rfl⟩
        have HON2 := Lib.hid (sgC_one 2 (k : Int) s A2 pl.length c2)
        have HSI2 : Hid ((Tryz.prog.info? 39).map (·.size) = some (sgC 2 (k : Int) s (.slice A2 pl.length c2)).size) := Lib.hid sg_info
        have HSL2 : Hid ((Tryz.prog.info? 39).map (·.size) = some (sgC 2 (k : Int) s (.slice A2 pl.length c2)).toList.length) := Lib.hid sg_info
        have HSz2 : Hid ((sgC 2 (k : Int) s (.slice A2 pl.length c2)).size = 21) := Lib.hid rfl
        rw [hg2] at HON2 HSI2 HSL2 HSz2 CS ⊢
        clear hg2
        have zt := alloc_sig w5
        have HTH : Hid ((w5.alloc (.cells (#[.int .i64 0, .int .i64 0, .int .u64 0, .int .u64 0, .int .u64 0, .int .u64 0, .int .u64 0, .int .u64 0, .int .u64 0, .int .u64 0, .int .u64 0, .int .u64 0, .int .u64 0, .int .u64 0, .int .u64 0, .int .u64 0, .int .u64 0, .int .u64 0, .int .u64 0, .int .u64 0, .slice none 0 0]) 39)).there w5.heap.size 0 g2.size) := Lib.hid (by rw [HSz2.out]; exact zt.thereN 21 rfl)
        have y6 := Ag.set (vs := g2.toList) zt (by rw [Array.length_toList, HSz2.out]; rfl)
        have g5 : Grew w5 ((w5.alloc (.cells (#[.int .i64 0, .int .i64 0, .int .u64 0, .int .u64 0, .int .u64 0, .int .u64 0, .int .u64 0, .int .u64 0, .int .u64 0, .int .u64 0, .int .u64 0, .int .u64 0, .int .u64 0, .int .u64 0, .int .u64 0, .int .u64 0, .int .u64 0, .int .u64 0, .int .u64 0, .int .u64 0, .slice none 0 0]) 39)).setCells w5.heap.size 0 g2.toList) := setCells_grew (o := 0) (b := w5.heap.size) g2.toList (grew_alloc (grew_refl w5) _) (Nat.le_refl _)
        have K6 := K5.grew g5
        have Q6 := Q5.grew g5
        have G6 := grew_trans G5 g5
        have r6 := r5.gr g5
        have s6 := r2.gr g5
        have z6 := z5.grew g5
        clear zt g5 K5 Q5 G5 r5 z5 r2
        obtain ⟨w6, hw6⟩ : ∃ w6, (w5.alloc (.cells (#[.int .i64 0, .int .i64 0, .int .u64 0, .int .u64 0, .int .u64 0, .int .u64 0, .int .u64 0, .int .u64 0, .int .u64 0, .int .u64 0, .int .u64 0, .int .u64 0, .int .u64 0, .int .u64 0, .int .u64 0, .int .u64 0, .int .u64 0, .int .u64 0, .int .u64 0, .int .u64 0, .slice none 0 0]) 39)).setCells w5.heap.size 0 g2.toList = w6 := ⟨_, rfl⟩
        rw [hw6] at K6 Q6 G6 r6 s6 y6 z6
        have HW6 := Lib.hid hw6
        clear hw6
        have cl : w6.cell? ⟨q1, 1, none⟩ = some (.int .i64 (k : Int)) := by simpa using z6.cell 1 _ HSB1.out
        have Z6 := Lib.hid z6.cell
        have Y6 := Lib.hid y6.cell
        have HZ6 := Lib.hid z6
        clear z6 y6
        go_wp2_with (first
          | (with_reducible refine wpList_store_mid rfl 39 (.tmp 13) (.tmp 68) rfl w5.heap.size 0 g2 rfl rfl HTH.out HSI2.out HON2.out ?_; rw [HW6.out]; clear HW6 HTH; generalize w5.heap.size = q2 at *)
          | (refine wpList_load_mid_want (by rfl) 39 (.tmp 11) rfl q1 0 rfl g1.toList _ Z6.out hus rfl HSL1.out ?_)
          | (refine wpList_load_mid_want (by rfl) 39 (.tmp 13) rfl _ 0 rfl g2.toList _ Y6.out hus rfl HSL2.out ?_))
        refine (CS.out w6 r6 s6).mono ?_
        rintro e w7 ⟨rfl, gg⟩
        have K7 := K6.grew gg
        have Q7 := Q6.grew gg
        have G7 := grew_trans G6 gg
        have cl7 : w7.cell? ⟨q1, 1, none⟩ = some (.int .i64 (k : Int)) := by simpa using (HZ6.out.grew gg).cell 1 _ HSB1.out
        clear K6 Q6 G6 r6 s6 CS cl Z6 Y6 HZ6 gg
        go_wp2_with fail
        go_roundw
        case rel => exact ⟨k + 1, by omega, by omega, by go_num, K7, Q7, G7⟩
        case measure => simp [intOf]; omega
      · by_cases hkl : k < l.length
        · have hk1 : (k : Int) < (l.length : Int) := by omega
          have hk2 : ¬ (k : Int) < 8 := by omega
          go_wp2_with fail
          refine (next_ok b p 2 seed P k 16 wr K).mono ?_
          rintro e w5 ⟨rfl, rfl⟩
          go_wp2_with fail
          by_cases hnk : n < k
          · have d1 : ¬ (k : Int) ≤ (n : Int) := by omega
            have d2 : (n : Int) < (k : Int) := by omega
            have d3 : ¬ (16 : Int) ≤ (k : Int) := by omega
            refine (skip_no b p 2 seed P k 16 (by omega) (by omega) (by omega) (n : Int) (by omega) wr K).mono ?_
            rintro e v3 ⟨rfl, tt, K3⟩
            have G3 := grew_tn G tt hwb
            clear K Q G tt
            go_wp2_with fail
            have hpx := pathN_lt P k HLT.out
            have HPX := Lib.hid hpx
            have hpl := H4.out k (by omega)
            clear hpx
            refine (sign_ok b p 2 seed P k 16 (by omega) (by omega) (by omega) 5 (by omega) (by omega) HLV.out HLT.out HSD.out ⟨by omega, by omega⟩ v3 K3).mono ?_
            rintro e v4 ⟨⟨A1, c1, rfl, r1, hA1⟩, tt, K4⟩
            have G4 := grew_tn G3 tt hwb
            clear K3 G3 tt hA1
            obtain ⟨g1, hg1⟩ : ∃ g, sgC 2 (k : Int) (signF (secN seed (k : Int)) (5 : Int).toNat) (.slice A1 (pathN P k).length c1) = g := ⟨_, rfl⟩
            have HON1 := Lib.hid (sgC_one 2 (k : Int) (signF (secN seed (k : Int)) (5 : Int).toNat) A1 (pathN P k).length c1)
            have HSI1 : Hid ((Tryz.prog.info? 39).map (·.size) = some (sgC 2 (k : Int) (signF (secN seed (k : Int)) (5 : Int).toNat) (.slice A1 (pathN P k).length c1)).size) := Lib.hid sg_info
            have HSL1 : Hid ((Tryz.prog.info? 39).map (·.size) = some (sgC 2 (k : Int) (signF (secN seed (k : Int)) (5 : Int).toNat) (.slice A1 (pathN P k).length c1)).toList.length) := Lib.hid sg_info
            have HSB1 : Hid ((sgC 2 (k : Int) (signF (secN seed (k : Int)) (5 : Int).toNat) (.slice A1 (pathN P k).length c1)).toList[1]? = some (.int .i64 (k : Int))) := Lib.hid rfl
            have HSz1 : Hid ((sgC 2 (k : Int) (signF (secN seed (k : Int)) (5 : Int).toNat) (.slice A1 (pathN P k).length c1)).size = 21) := Lib.hid rfl
            have CV := Lib.hid (fun W h1 => kverify_ok (rootN P) 2 (k : Int) (signF (secN seed (k : Int)) (5 : Int).toNat) A1 c1 (pathN P k) 5 4 (by omega) ⟨by omega, by omega⟩ (fun j hj => signF_lt _ _ _ (secN_lt _ _ _)) HPX.out ⟨by omega, by omega⟩ W h1)
            rw [show (5 : Int).toNat = 5 from rfl] at HON1 HSI1 HSL1 HSB1 HSz1 CV hg1 ⊢
            rw [HV.out k (by omega)] at CV
            rw [hg1] at HON1 HSI1 HSL1 HSB1 HSz1 CV ⊢
            clear hg1
            have zt := alloc_sig v4
            have HTH : Hid ((v4.alloc (.cells (#[.int .i64 0, .int .i64 0, .int .u64 0, .int .u64 0, .int .u64 0, .int .u64 0, .int .u64 0, .int .u64 0, .int .u64 0, .int .u64 0, .int .u64 0, .int .u64 0, .int .u64 0, .int .u64 0, .int .u64 0, .int .u64 0, .int .u64 0, .int .u64 0, .int .u64 0, .int .u64 0, .slice none 0 0]) 39)).there v4.heap.size 0 g1.size) := Lib.hid (by rw [HSz1.out]; exact zt.thereN 21 rfl)
            have z5 := Ag.set (vs := g1.toList) zt (by rw [Array.length_toList, HSz1.out]; rfl)
            have g5 : Grew v4 ((v4.alloc (.cells (#[.int .i64 0, .int .i64 0, .int .u64 0, .int .u64 0, .int .u64 0, .int .u64 0, .int .u64 0, .int .u64 0, .int .u64 0, .int .u64 0, .int .u64 0, .int .u64 0, .int .u64 0, .int .u64 0, .int .u64 0, .int .u64 0, .int .u64 0, .int .u64 0, .int .u64 0, .int .u64 0, .slice none 0 0]) 39)).setCells v4.heap.size 0 g1.toList) := setCells_grew (o := 0) (b := v4.heap.size) g1.toList (grew_alloc (grew_refl v4) _) (Nat.le_refl _)
            have K5 := K4.grew g5
            have G5 := grew_trans G4 g5
            have r5 := r1.gr g5
            clear zt g5 K4 G4 r1
            obtain ⟨v5, hv5⟩ : ∃ v5, (v4.alloc (.cells (#[.int .i64 0, .int .i64 0, .int .u64 0, .int .u64 0, .int .u64 0, .int .u64 0, .int .u64 0, .int .u64 0, .int .u64 0, .int .u64 0, .int .u64 0, .int .u64 0, .int .u64 0, .int .u64 0, .int .u64 0, .int .u64 0, .int .u64 0, .int .u64 0, .int .u64 0, .int .u64 0, .slice none 0 0]) 39)).setCells v4.heap.size 0 g1.toList = v5 := ⟨_, rfl⟩
            rw [hv5] at K5 G5 r5 z5
            have HW5 := Lib.hid hv5
            clear hv5
            go_wp2_with (with_reducible refine wpList_store_mid rfl 39 (.tmp 18) (.tmp 107) rfl v4.heap.size 0 g1 rfl rfl HTH.out HSI1.out HON1.out ?_; rw [HW5.out]; clear HW5 HTH; generalize v4.heap.size = q1 at *)
            have m1 : ∀ y : Gr v5, y.val.cell? ⟨q1, 1, none⟩ = some (.int .i64 (k : Int)) := fun y => by simpa using (z5.gr y).cell 1 _ HSB1.out
            have mm : Hid (∀ y : Gr v5, y.val.rangeAt q1 0 g1.toList) := Lib.hid (fun y => (z5.gr y).cell)
            have CRT := Lib.hid (fun (y : Gr v5) => keyroot_ok b p 2 seed P (k + 1) 16 (by omega) HLV.out HLT.out y.val (K5.grew y.ok))
            have CVV := Lib.hid (fun (y : Gr v5) => CV.out y.val (r5.gr y.ok))
            have CL := Lib.hid (fun (y : Gr v5) => left_ok b p 2 seed P (k + 1) 16 (by omega) (by omega) y.val (K5.grew y.ok))
            rw [show ((P.length : Int) - ((k + 1 : Nat) : Int)) = 15 - (k : Int) by omega] at CL
            have e9 : IntKind.i64.wrap (15 - (k : Int)) = 15 - (k : Int) := IntWalk.i64_in _ (by omega)
            clear CV K5 r5 z5
            generalize rootN P = rt at *
            refine wp_region_grew (grew_refl v5) (by kernel_rfl) (by kernel_rfl) ?_
            repeat (first
              | (go_big_quiet_want; refine quiet_load_mid 39 (.tmp 18) rfl q1 0 rfl g1.toList _ mm.out hus rfl HSL1.out ?_; simp only [Act.put, List.setIfInBounds_toArray, List.set_cons_succ, List.set_cons_zero, Array.toArray_toList]; go_big_quiet_on)
              | (go_big_quiet_step (first
                | (go_at_call 23; exact callG (CRT.out _))
                | (go_at_call 25; exact callG (CVV.out _))
                | (go_at_call 22; exact callG (CL.out _)))))
            refine wpQuiet_nil ?_
            rintro w8 ⟨⟨w8', g8⟩, rfl⟩
            go_wp2_with fail
            go_ret
            exact ⟨by simp, grew_trans G5 g8⟩
          · have d1 : (k : Int) ≤ (n : Int) := by omega
            have d2 : ¬ (n : Int) < (k : Int) := by omega
            by_cases hn16 : 16 < n
            · have d3 : ¬ (n : Int) ≤ 16 := by omega
              have d4 : ¬ (16 : Int) ≤ (k : Int) := by omega
              refine (skip_no b p 2 seed P k 16 (by omega) (by omega) (by omega) (n : Int) (by omega) wr K).mono ?_
              rintro e v3 ⟨rfl, tt, K3⟩
              have G3 := grew_tn G tt hwb
              clear K Q G tt
              go_wp2_with fail
              have hpx := pathN_lt P k HLT.out
              have HPX := Lib.hid hpx
              have hpl := H4.out k (by omega)
              clear hpx
              refine (sign_ok b p 2 seed P k 16 (by omega) (by omega) (by omega) 5 (by omega) (by omega) HLV.out HLT.out HSD.out ⟨by omega, by omega⟩ v3 K3).mono ?_
              rintro e v4 ⟨⟨A1, c1, rfl, r1, hA1⟩, tt, K4⟩
              have G4 := grew_tn G3 tt hwb
              clear K3 G3 tt hA1
              obtain ⟨g1, hg1⟩ : ∃ g, sgC 2 (k : Int) (signF (secN seed (k : Int)) (5 : Int).toNat) (.slice A1 (pathN P k).length c1) = g := ⟨_, rfl⟩
              have HON1 := Lib.hid (sgC_one 2 (k : Int) (signF (secN seed (k : Int)) (5 : Int).toNat) A1 (pathN P k).length c1)
              have HSI1 : Hid ((Tryz.prog.info? 39).map (·.size) = some (sgC 2 (k : Int) (signF (secN seed (k : Int)) (5 : Int).toNat) (.slice A1 (pathN P k).length c1)).size) := Lib.hid sg_info
              have HSL1 : Hid ((Tryz.prog.info? 39).map (·.size) = some (sgC 2 (k : Int) (signF (secN seed (k : Int)) (5 : Int).toNat) (.slice A1 (pathN P k).length c1)).toList.length) := Lib.hid sg_info
              have HSB1 : Hid ((sgC 2 (k : Int) (signF (secN seed (k : Int)) (5 : Int).toNat) (.slice A1 (pathN P k).length c1)).toList[1]? = some (.int .i64 (k : Int))) := Lib.hid rfl
              have HSz1 : Hid ((sgC 2 (k : Int) (signF (secN seed (k : Int)) (5 : Int).toNat) (.slice A1 (pathN P k).length c1)).size = 21) := Lib.hid rfl
              have CV := Lib.hid (fun W h1 => kverify_ok (rootN P) 2 (k : Int) (signF (secN seed (k : Int)) (5 : Int).toNat) A1 c1 (pathN P k) 5 4 (by omega) ⟨by omega, by omega⟩ (fun j hj => signF_lt _ _ _ (secN_lt _ _ _)) HPX.out ⟨by omega, by omega⟩ W h1)
              rw [show (5 : Int).toNat = 5 from rfl] at HON1 HSI1 HSL1 HSB1 HSz1 CV hg1 ⊢
              rw [HV.out k (by omega)] at CV
              rw [hg1] at HON1 HSI1 HSL1 HSB1 HSz1 CV ⊢
              clear hg1
              have zt := alloc_sig v4
              have HTH : Hid ((v4.alloc (.cells (#[.int .i64 0, .int .i64 0, .int .u64 0, .int .u64 0, .int .u64 0, .int .u64 0, .int .u64 0, .int .u64 0, .int .u64 0, .int .u64 0, .int .u64 0, .int .u64 0, .int .u64 0, .int .u64 0, .int .u64 0, .int .u64 0, .int .u64 0, .int .u64 0, .int .u64 0, .int .u64 0, .slice none 0 0]) 39)).there v4.heap.size 0 g1.size) := Lib.hid (by rw [HSz1.out]; exact zt.thereN 21 rfl)
              have z5 := Ag.set (vs := g1.toList) zt (by rw [Array.length_toList, HSz1.out]; rfl)
              have g5 : Grew v4 ((v4.alloc (.cells (#[.int .i64 0, .int .i64 0, .int .u64 0, .int .u64 0, .int .u64 0, .int .u64 0, .int .u64 0, .int .u64 0, .int .u64 0, .int .u64 0, .int .u64 0, .int .u64 0, .int .u64 0, .int .u64 0, .int .u64 0, .int .u64 0, .int .u64 0, .int .u64 0, .int .u64 0, .int .u64 0, .slice none 0 0]) 39)).setCells v4.heap.size 0 g1.toList) := setCells_grew (o := 0) (b := v4.heap.size) g1.toList (grew_alloc (grew_refl v4) _) (Nat.le_refl _)
              have K5 := K4.grew g5
              have G5 := grew_trans G4 g5
              have r5 := r1.gr g5
              clear zt g5 K4 G4 r1
              obtain ⟨v5, hv5⟩ : ∃ v5, (v4.alloc (.cells (#[.int .i64 0, .int .i64 0, .int .u64 0, .int .u64 0, .int .u64 0, .int .u64 0, .int .u64 0, .int .u64 0, .int .u64 0, .int .u64 0, .int .u64 0, .int .u64 0, .int .u64 0, .int .u64 0, .int .u64 0, .int .u64 0, .int .u64 0, .int .u64 0, .int .u64 0, .int .u64 0, .slice none 0 0]) 39)).setCells v4.heap.size 0 g1.toList = v5 := ⟨_, rfl⟩
              rw [hv5] at K5 G5 r5 z5
              have HW5 := Lib.hid hv5
              clear hv5
              go_wp2_with (with_reducible refine wpList_store_mid rfl 39 (.tmp 18) (.tmp 107) rfl v4.heap.size 0 g1 rfl rfl HTH.out HSI1.out HON1.out ?_; rw [HW5.out]; clear HW5 HTH; generalize v4.heap.size = q1 at *)
              have m1 : ∀ y : Gr v5, y.val.cell? ⟨q1, 1, none⟩ = some (.int .i64 (k : Int)) := fun y => by simpa using (z5.gr y).cell 1 _ HSB1.out
              have mm : Hid (∀ y : Gr v5, y.val.rangeAt q1 0 g1.toList) := Lib.hid (fun y => (z5.gr y).cell)
              have CRT := Lib.hid (fun (y : Gr v5) => keyroot_ok b p 2 seed P (k + 1) 16 (by omega) HLV.out HLT.out y.val (K5.grew y.ok))
              have CVV := Lib.hid (fun (y : Gr v5) => CV.out y.val (r5.gr y.ok))
              have CL := Lib.hid (fun (y : Gr v5) => left_ok b p 2 seed P (k + 1) 16 (by omega) (by omega) y.val (K5.grew y.ok))
              rw [show ((P.length : Int) - ((k + 1 : Nat) : Int)) = 15 - (k : Int) by omega] at CL
              have e9 : IntKind.i64.wrap (15 - (k : Int)) = 15 - (k : Int) := IntWalk.i64_in _ (by omega)
              clear CV K5 r5 z5
              generalize rootN P = rt at *
              refine wp_region_grew (grew_refl v5) (by kernel_rfl) (by kernel_rfl) ?_
              repeat (first
                | (go_big_quiet_want; refine quiet_load_mid 39 (.tmp 18) rfl q1 0 rfl g1.toList _ mm.out hus rfl HSL1.out ?_; simp only [Act.put, List.setIfInBounds_toArray, List.set_cons_succ, List.set_cons_zero, Array.toArray_toList]; go_big_quiet_on)
                | (go_big_quiet_step (first
                  | (go_at_call 23; exact callG (CRT.out _))
                  | (go_at_call 25; exact callG (CVV.out _))
                  | (go_at_call 22; exact callG (CL.out _)))))
              refine wpQuiet_nil ?_
              rintro w8 ⟨⟨w8', g8⟩, rfl⟩
              go_wp2_with fail
              go_ret
              exact ⟨by simp, grew_trans G5 g8⟩
            · have d3 : (n : Int) ≤ 16 := by omega
              refine (skip_ok b p 2 seed P k 16 (by omega) (by omega) (by omega) n (by omega) (by omega) wr K).mono ?_
              rintro e v3 ⟨rfl, tt, K3⟩
              have G3 := grew_tn G tt hwb
              rw [show max 16 n = 16 by omega] at K3
              clear K Q G tt
              go_wp2_with fail
              by_cases hx : n = 16
              · subst hx
                refine (sign_spent b p 2 seed P 16 16 (by omega) (by omega) (by omega) 5 (by omega) v3 K3).mono ?_
                rintro e v4 ⟨rfl, gg⟩
                have G4 := grew_trans G3 gg
                have zt := alloc_sig v4
                have HTH : Hid ((v4.alloc (.cells (#[.int .i64 0, .int .i64 0, .int .u64 0, .int .u64 0, .int .u64 0, .int .u64 0, .int .u64 0, .int .u64 0, .int .u64 0, .int .u64 0, .int .u64 0, .int .u64 0, .int .u64 0, .int .u64 0, .int .u64 0, .int .u64 0, .int .u64 0, .int .u64 0, .int .u64 0, .int .u64 0, .slice none 0 0]) 39)).there v4.heap.size 0 (#[.int .i64 0, .int .i64 0, .int .u64 0, .int .u64 0, .int .u64 0, .int .u64 0, .int .u64 0, .int .u64 0, .int .u64 0, .int .u64 0, .int .u64 0, .int .u64 0, .int .u64 0, .int .u64 0, .int .u64 0, .int .u64 0, .int .u64 0, .int .u64 0, .int .u64 0, .int .u64 0, .slice none 0 0] : Array Value).size) := Lib.hid (zt.thereN 21 rfl)
                have g5 : Grew v4 ((v4.alloc (.cells (#[.int .i64 0, .int .i64 0, .int .u64 0, .int .u64 0, .int .u64 0, .int .u64 0, .int .u64 0, .int .u64 0, .int .u64 0, .int .u64 0, .int .u64 0, .int .u64 0, .int .u64 0, .int .u64 0, .int .u64 0, .int .u64 0, .int .u64 0, .int .u64 0, .int .u64 0, .int .u64 0, .slice none 0 0]) 39)).setCells v4.heap.size 0 (#[.int .i64 0, .int .i64 0, .int .u64 0, .int .u64 0, .int .u64 0, .int .u64 0, .int .u64 0, .int .u64 0, .int .u64 0, .int .u64 0, .int .u64 0, .int .u64 0, .int .u64 0, .int .u64 0, .int .u64 0, .int .u64 0, .int .u64 0, .int .u64 0, .int .u64 0, .int .u64 0, .slice none 0 0] : Array Value).toList) := setCells_grew (o := 0) (b := v4.heap.size) (#[.int .i64 0, .int .i64 0, .int .u64 0, .int .u64 0, .int .u64 0, .int .u64 0, .int .u64 0, .int .u64 0, .int .u64 0, .int .u64 0, .int .u64 0, .int .u64 0, .int .u64 0, .int .u64 0, .int .u64 0, .int .u64 0, .int .u64 0, .int .u64 0, .int .u64 0, .int .u64 0, .slice none 0 0] : Array Value).toList (grew_alloc (grew_refl v4) _) (Nat.le_refl _)
                have G5 := grew_trans G4 g5
                clear zt g5 G4 K3 G3
                obtain ⟨v5, hv5⟩ : ∃ v5, (v4.alloc (.cells (#[.int .i64 0, .int .i64 0, .int .u64 0, .int .u64 0, .int .u64 0, .int .u64 0, .int .u64 0, .int .u64 0, .int .u64 0, .int .u64 0, .int .u64 0, .int .u64 0, .int .u64 0, .int .u64 0, .int .u64 0, .int .u64 0, .int .u64 0, .int .u64 0, .int .u64 0, .int .u64 0, .slice none 0 0]) 39)).setCells v4.heap.size 0 (#[.int .i64 0, .int .i64 0, .int .u64 0, .int .u64 0, .int .u64 0, .int .u64 0, .int .u64 0, .int .u64 0, .int .u64 0, .int .u64 0, .int .u64 0, .int .u64 0, .int .u64 0, .int .u64 0, .int .u64 0, .int .u64 0, .int .u64 0, .int .u64 0, .int .u64 0, .int .u64 0, .slice none 0 0] : Array Value).toList = v5 := ⟨_, rfl⟩
                rw [hv5] at G5
                have HW5 := Lib.hid hv5
                clear hv5
                go_wp2_with (with_reducible refine wpList_store_mid rfl 39 (.tmp 18) (.tmp 107) rfl v4.heap.size 0 (#[.int .i64 0, .int .i64 0, .int .u64 0, .int .u64 0, .int .u64 0, .int .u64 0, .int .u64 0, .int .u64 0, .int .u64 0, .int .u64 0, .int .u64 0, .int .u64 0, .int .u64 0, .int .u64 0, .int .u64 0, .int .u64 0, .int .u64 0, .int .u64 0, .int .u64 0, .int .u64 0, .slice none 0 0]) rfl rfl HTH.out HZI.out HZO.out ?_; rw [HW5.out])
                go_ret
                exact ⟨by simp, G5⟩
              · have d4 : ¬ (16 : Int) ≤ (n : Int) := by omega
                have hpx := pathN_lt P n HLT.out
                have HPX := Lib.hid hpx
                have hpl := H4.out n (by omega)
                clear hpx
                refine (sign_ok b p 2 seed P n 16 (by omega) (by omega) (by omega) 5 (by omega) (by omega) HLV.out HLT.out HSD.out ⟨by omega, by omega⟩ v3 K3).mono ?_
                rintro e v4 ⟨⟨A1, c1, rfl, r1, hA1⟩, tt, K4⟩
                have G4 := grew_tn G3 tt hwb
                clear K3 G3 tt hA1
                obtain ⟨g1, hg1⟩ : ∃ g, sgC 2 (n : Int) (signF (secN seed (n : Int)) (5 : Int).toNat) (.slice A1 (pathN P n).length c1) = g := ⟨_, rfl⟩
                have HON1 := Lib.hid (sgC_one 2 (n : Int) (signF (secN seed (n : Int)) (5 : Int).toNat) A1 (pathN P n).length c1)
                have HSI1 : Hid ((Tryz.prog.info? 39).map (·.size) = some (sgC 2 (n : Int) (signF (secN seed (n : Int)) (5 : Int).toNat) (.slice A1 (pathN P n).length c1)).size) := Lib.hid sg_info
                have HSL1 : Hid ((Tryz.prog.info? 39).map (·.size) = some (sgC 2 (n : Int) (signF (secN seed (n : Int)) (5 : Int).toNat) (.slice A1 (pathN P n).length c1)).toList.length) := Lib.hid sg_info
                have HSB1 : Hid ((sgC 2 (n : Int) (signF (secN seed (n : Int)) (5 : Int).toNat) (.slice A1 (pathN P n).length c1)).toList[1]? = some (.int .i64 (n : Int))) := Lib.hid rfl
                have HSz1 : Hid ((sgC 2 (n : Int) (signF (secN seed (n : Int)) (5 : Int).toNat) (.slice A1 (pathN P n).length c1)).size = 21) := Lib.hid rfl
                have CV := Lib.hid (fun W h1 => kverify_ok (rootN P) 2 (n : Int) (signF (secN seed (n : Int)) (5 : Int).toNat) A1 c1 (pathN P n) 5 4 (by omega) ⟨by omega, by omega⟩ (fun j hj => signF_lt _ _ _ (secN_lt _ _ _)) HPX.out ⟨by omega, by omega⟩ W h1)
                rw [show (5 : Int).toNat = 5 from rfl] at HON1 HSI1 HSL1 HSB1 HSz1 CV hg1 ⊢
                rw [HV.out n (by omega)] at CV
                rw [hg1] at HON1 HSI1 HSL1 HSB1 HSz1 CV ⊢
                clear hg1
                have zt := alloc_sig v4
                have HTH : Hid ((v4.alloc (.cells (#[.int .i64 0, .int .i64 0, .int .u64 0, .int .u64 0, .int .u64 0, .int .u64 0, .int .u64 0, .int .u64 0, .int .u64 0, .int .u64 0, .int .u64 0, .int .u64 0, .int .u64 0, .int .u64 0, .int .u64 0, .int .u64 0, .int .u64 0, .int .u64 0, .int .u64 0, .int .u64 0, .slice none 0 0]) 39)).there v4.heap.size 0 g1.size) := Lib.hid (by rw [HSz1.out]; exact zt.thereN 21 rfl)
                have z5 := Ag.set (vs := g1.toList) zt (by rw [Array.length_toList, HSz1.out]; rfl)
                have g5 : Grew v4 ((v4.alloc (.cells (#[.int .i64 0, .int .i64 0, .int .u64 0, .int .u64 0, .int .u64 0, .int .u64 0, .int .u64 0, .int .u64 0, .int .u64 0, .int .u64 0, .int .u64 0, .int .u64 0, .int .u64 0, .int .u64 0, .int .u64 0, .int .u64 0, .int .u64 0, .int .u64 0, .int .u64 0, .int .u64 0, .slice none 0 0]) 39)).setCells v4.heap.size 0 g1.toList) := setCells_grew (o := 0) (b := v4.heap.size) g1.toList (grew_alloc (grew_refl v4) _) (Nat.le_refl _)
                have K5 := K4.grew g5
                have G5 := grew_trans G4 g5
                have r5 := r1.gr g5
                clear zt g5 K4 G4 r1
                obtain ⟨v5, hv5⟩ : ∃ v5, (v4.alloc (.cells (#[.int .i64 0, .int .i64 0, .int .u64 0, .int .u64 0, .int .u64 0, .int .u64 0, .int .u64 0, .int .u64 0, .int .u64 0, .int .u64 0, .int .u64 0, .int .u64 0, .int .u64 0, .int .u64 0, .int .u64 0, .int .u64 0, .int .u64 0, .int .u64 0, .int .u64 0, .int .u64 0, .slice none 0 0]) 39)).setCells v4.heap.size 0 g1.toList = v5 := ⟨_, rfl⟩
                rw [hv5] at K5 G5 r5 z5
                have HW5 := Lib.hid hv5
                clear hv5
                go_wp2_with (with_reducible refine wpList_store_mid rfl 39 (.tmp 18) (.tmp 107) rfl v4.heap.size 0 g1 rfl rfl HTH.out HSI1.out HON1.out ?_; rw [HW5.out]; clear HW5 HTH; generalize v4.heap.size = q1 at *)
                have m1 : ∀ y : Gr v5, y.val.cell? ⟨q1, 1, none⟩ = some (.int .i64 (n : Int)) := fun y => by simpa using (z5.gr y).cell 1 _ HSB1.out
                have mm : Hid (∀ y : Gr v5, y.val.rangeAt q1 0 g1.toList) := Lib.hid (fun y => (z5.gr y).cell)
                have CRT := Lib.hid (fun (y : Gr v5) => keyroot_ok b p 2 seed P (n + 1) 16 (by omega) HLV.out HLT.out y.val (K5.grew y.ok))
                have CVV := Lib.hid (fun (y : Gr v5) => CV.out y.val (r5.gr y.ok))
                have CL := Lib.hid (fun (y : Gr v5) => left_ok b p 2 seed P (n + 1) 16 (by omega) (by omega) y.val (K5.grew y.ok))
                rw [show ((P.length : Int) - ((n + 1 : Nat) : Int)) = 15 - (n : Int) by omega] at CL
                have e9 : IntKind.i64.wrap (15 - (n : Int)) = 15 - (n : Int) := IntWalk.i64_in _ (by omega)
                clear CV K5 r5 z5
                generalize rootN P = rt at *
                refine wp_region_grew (grew_refl v5) (by kernel_rfl) (by kernel_rfl) ?_
                repeat (first
                  | (go_big_quiet_want; refine quiet_load_mid 39 (.tmp 18) rfl q1 0 rfl g1.toList _ mm.out hus rfl HSL1.out ?_; simp only [Act.put, List.setIfInBounds_toArray, List.set_cons_succ, List.set_cons_zero, Array.toArray_toList]; go_big_quiet_on)
                  | (go_big_quiet_step (first
                    | (go_at_call 23; exact callG (CRT.out _))
                    | (go_at_call 25; exact callG (CVV.out _))
                    | (go_at_call 22; exact callG (CL.out _)))))
                refine wpQuiet_nil ?_
                rintro w8 ⟨⟨w8', g8⟩, rfl⟩
                go_wp2_with fail
                go_ret
                exact ⟨by simp, grew_trans G5 g8⟩
        · have hk1 : ¬ (k : Int) < (l.length : Int) := by omega
          go_wp2_with fail
          refine (next_ok b p 2 seed P k 16 wr K).mono ?_
          rintro e w5 ⟨rfl, rfl⟩
          go_wp2_with fail
          by_cases hnk : n < k
          · have d1 : ¬ (k : Int) ≤ (n : Int) := by omega
            have d2 : (n : Int) < (k : Int) := by omega
            have d3 : ¬ (16 : Int) ≤ (k : Int) := by omega
            refine (skip_no b p 2 seed P k 16 (by omega) (by omega) (by omega) (n : Int) (by omega) wr K).mono ?_
            rintro e v3 ⟨rfl, tt, K3⟩
            have G3 := grew_tn G tt hwb
            clear K Q G tt
            go_wp2_with fail
            have hpx := pathN_lt P k HLT.out
            have HPX := Lib.hid hpx
            have hpl := H4.out k (by omega)
            clear hpx
            refine (sign_ok b p 2 seed P k 16 (by omega) (by omega) (by omega) 5 (by omega) (by omega) HLV.out HLT.out HSD.out ⟨by omega, by omega⟩ v3 K3).mono ?_
            rintro e v4 ⟨⟨A1, c1, rfl, r1, hA1⟩, tt, K4⟩
            have G4 := grew_tn G3 tt hwb
            clear K3 G3 tt hA1
            obtain ⟨g1, hg1⟩ : ∃ g, sgC 2 (k : Int) (signF (secN seed (k : Int)) (5 : Int).toNat) (.slice A1 (pathN P k).length c1) = g := ⟨_, rfl⟩
            have HON1 := Lib.hid (sgC_one 2 (k : Int) (signF (secN seed (k : Int)) (5 : Int).toNat) A1 (pathN P k).length c1)
            have HSI1 : Hid ((Tryz.prog.info? 39).map (·.size) = some (sgC 2 (k : Int) (signF (secN seed (k : Int)) (5 : Int).toNat) (.slice A1 (pathN P k).length c1)).size) := Lib.hid sg_info
            have HSL1 : Hid ((Tryz.prog.info? 39).map (·.size) = some (sgC 2 (k : Int) (signF (secN seed (k : Int)) (5 : Int).toNat) (.slice A1 (pathN P k).length c1)).toList.length) := Lib.hid sg_info
            have HSB1 : Hid ((sgC 2 (k : Int) (signF (secN seed (k : Int)) (5 : Int).toNat) (.slice A1 (pathN P k).length c1)).toList[1]? = some (.int .i64 (k : Int))) := Lib.hid rfl
            have HSz1 : Hid ((sgC 2 (k : Int) (signF (secN seed (k : Int)) (5 : Int).toNat) (.slice A1 (pathN P k).length c1)).size = 21) := Lib.hid rfl
            have CV := Lib.hid (fun W h1 => kverify_ok (rootN P) 2 (k : Int) (signF (secN seed (k : Int)) (5 : Int).toNat) A1 c1 (pathN P k) 5 4 (by omega) ⟨by omega, by omega⟩ (fun j hj => signF_lt _ _ _ (secN_lt _ _ _)) HPX.out ⟨by omega, by omega⟩ W h1)
            rw [show (5 : Int).toNat = 5 from rfl] at HON1 HSI1 HSL1 HSB1 HSz1 CV hg1 ⊢
            rw [HV.out k (by omega)] at CV
            rw [hg1] at HON1 HSI1 HSL1 HSB1 HSz1 CV ⊢
            clear hg1
            have zt := alloc_sig v4
            have HTH : Hid ((v4.alloc (.cells (#[.int .i64 0, .int .i64 0, .int .u64 0, .int .u64 0, .int .u64 0, .int .u64 0, .int .u64 0, .int .u64 0, .int .u64 0, .int .u64 0, .int .u64 0, .int .u64 0, .int .u64 0, .int .u64 0, .int .u64 0, .int .u64 0, .int .u64 0, .int .u64 0, .int .u64 0, .int .u64 0, .slice none 0 0]) 39)).there v4.heap.size 0 g1.size) := Lib.hid (by rw [HSz1.out]; exact zt.thereN 21 rfl)
            have z5 := Ag.set (vs := g1.toList) zt (by rw [Array.length_toList, HSz1.out]; rfl)
            have g5 : Grew v4 ((v4.alloc (.cells (#[.int .i64 0, .int .i64 0, .int .u64 0, .int .u64 0, .int .u64 0, .int .u64 0, .int .u64 0, .int .u64 0, .int .u64 0, .int .u64 0, .int .u64 0, .int .u64 0, .int .u64 0, .int .u64 0, .int .u64 0, .int .u64 0, .int .u64 0, .int .u64 0, .int .u64 0, .int .u64 0, .slice none 0 0]) 39)).setCells v4.heap.size 0 g1.toList) := setCells_grew (o := 0) (b := v4.heap.size) g1.toList (grew_alloc (grew_refl v4) _) (Nat.le_refl _)
            have K5 := K4.grew g5
            have G5 := grew_trans G4 g5
            have r5 := r1.gr g5
            clear zt g5 K4 G4 r1
            obtain ⟨v5, hv5⟩ : ∃ v5, (v4.alloc (.cells (#[.int .i64 0, .int .i64 0, .int .u64 0, .int .u64 0, .int .u64 0, .int .u64 0, .int .u64 0, .int .u64 0, .int .u64 0, .int .u64 0, .int .u64 0, .int .u64 0, .int .u64 0, .int .u64 0, .int .u64 0, .int .u64 0, .int .u64 0, .int .u64 0, .int .u64 0, .int .u64 0, .slice none 0 0]) 39)).setCells v4.heap.size 0 g1.toList = v5 := ⟨_, rfl⟩
            rw [hv5] at K5 G5 r5 z5
            have HW5 := Lib.hid hv5
            clear hv5
            go_wp2_with (with_reducible refine wpList_store_mid rfl 39 (.tmp 18) (.tmp 107) rfl v4.heap.size 0 g1 rfl rfl HTH.out HSI1.out HON1.out ?_; rw [HW5.out]; clear HW5 HTH; generalize v4.heap.size = q1 at *)
            have m1 : ∀ y : Gr v5, y.val.cell? ⟨q1, 1, none⟩ = some (.int .i64 (k : Int)) := fun y => by simpa using (z5.gr y).cell 1 _ HSB1.out
            have mm : Hid (∀ y : Gr v5, y.val.rangeAt q1 0 g1.toList) := Lib.hid (fun y => (z5.gr y).cell)
            have CRT := Lib.hid (fun (y : Gr v5) => keyroot_ok b p 2 seed P (k + 1) 16 (by omega) HLV.out HLT.out y.val (K5.grew y.ok))
            have CVV := Lib.hid (fun (y : Gr v5) => CV.out y.val (r5.gr y.ok))
            have CL := Lib.hid (fun (y : Gr v5) => left_ok b p 2 seed P (k + 1) 16 (by omega) (by omega) y.val (K5.grew y.ok))
            rw [show ((P.length : Int) - ((k + 1 : Nat) : Int)) = 15 - (k : Int) by omega] at CL
            have e9 : IntKind.i64.wrap (15 - (k : Int)) = 15 - (k : Int) := IntWalk.i64_in _ (by omega)
            clear CV K5 r5 z5
            generalize rootN P = rt at *
            refine wp_region_grew (grew_refl v5) (by kernel_rfl) (by kernel_rfl) ?_
            repeat (first
              | (go_big_quiet_want; refine quiet_load_mid 39 (.tmp 18) rfl q1 0 rfl g1.toList _ mm.out hus rfl HSL1.out ?_; simp only [Act.put, List.setIfInBounds_toArray, List.set_cons_succ, List.set_cons_zero, Array.toArray_toList]; go_big_quiet_on)
              | (go_big_quiet_step (first
                | (go_at_call 23; exact callG (CRT.out _))
                | (go_at_call 25; exact callG (CVV.out _))
                | (go_at_call 22; exact callG (CL.out _)))))
            refine wpQuiet_nil ?_
            rintro w8 ⟨⟨w8', g8⟩, rfl⟩
            go_wp2_with fail
            go_ret
            exact ⟨by simp, grew_trans G5 g8⟩
          · have d1 : (k : Int) ≤ (n : Int) := by omega
            have d2 : ¬ (n : Int) < (k : Int) := by omega
            by_cases hn16 : 16 < n
            · have d3 : ¬ (n : Int) ≤ 16 := by omega
              have d4 : ¬ (16 : Int) ≤ (k : Int) := by omega
              refine (skip_no b p 2 seed P k 16 (by omega) (by omega) (by omega) (n : Int) (by omega) wr K).mono ?_
              rintro e v3 ⟨rfl, tt, K3⟩
              have G3 := grew_tn G tt hwb
              clear K Q G tt
              go_wp2_with fail
              have hpx := pathN_lt P k HLT.out
              have HPX := Lib.hid hpx
              have hpl := H4.out k (by omega)
              clear hpx
              refine (sign_ok b p 2 seed P k 16 (by omega) (by omega) (by omega) 5 (by omega) (by omega) HLV.out HLT.out HSD.out ⟨by omega, by omega⟩ v3 K3).mono ?_
              rintro e v4 ⟨⟨A1, c1, rfl, r1, hA1⟩, tt, K4⟩
              have G4 := grew_tn G3 tt hwb
              clear K3 G3 tt hA1
              obtain ⟨g1, hg1⟩ : ∃ g, sgC 2 (k : Int) (signF (secN seed (k : Int)) (5 : Int).toNat) (.slice A1 (pathN P k).length c1) = g := ⟨_, rfl⟩
              have HON1 := Lib.hid (sgC_one 2 (k : Int) (signF (secN seed (k : Int)) (5 : Int).toNat) A1 (pathN P k).length c1)
              have HSI1 : Hid ((Tryz.prog.info? 39).map (·.size) = some (sgC 2 (k : Int) (signF (secN seed (k : Int)) (5 : Int).toNat) (.slice A1 (pathN P k).length c1)).size) := Lib.hid sg_info
              have HSL1 : Hid ((Tryz.prog.info? 39).map (·.size) = some (sgC 2 (k : Int) (signF (secN seed (k : Int)) (5 : Int).toNat) (.slice A1 (pathN P k).length c1)).toList.length) := Lib.hid sg_info
              have HSB1 : Hid ((sgC 2 (k : Int) (signF (secN seed (k : Int)) (5 : Int).toNat) (.slice A1 (pathN P k).length c1)).toList[1]? = some (.int .i64 (k : Int))) := Lib.hid rfl
              have HSz1 : Hid ((sgC 2 (k : Int) (signF (secN seed (k : Int)) (5 : Int).toNat) (.slice A1 (pathN P k).length c1)).size = 21) := Lib.hid rfl
              have CV := Lib.hid (fun W h1 => kverify_ok (rootN P) 2 (k : Int) (signF (secN seed (k : Int)) (5 : Int).toNat) A1 c1 (pathN P k) 5 4 (by omega) ⟨by omega, by omega⟩ (fun j hj => signF_lt _ _ _ (secN_lt _ _ _)) HPX.out ⟨by omega, by omega⟩ W h1)
              rw [show (5 : Int).toNat = 5 from rfl] at HON1 HSI1 HSL1 HSB1 HSz1 CV hg1 ⊢
              rw [HV.out k (by omega)] at CV
              rw [hg1] at HON1 HSI1 HSL1 HSB1 HSz1 CV ⊢
              clear hg1
              have zt := alloc_sig v4
              have HTH : Hid ((v4.alloc (.cells (#[.int .i64 0, .int .i64 0, .int .u64 0, .int .u64 0, .int .u64 0, .int .u64 0, .int .u64 0, .int .u64 0, .int .u64 0, .int .u64 0, .int .u64 0, .int .u64 0, .int .u64 0, .int .u64 0, .int .u64 0, .int .u64 0, .int .u64 0, .int .u64 0, .int .u64 0, .int .u64 0, .slice none 0 0]) 39)).there v4.heap.size 0 g1.size) := Lib.hid (by rw [HSz1.out]; exact zt.thereN 21 rfl)
              have z5 := Ag.set (vs := g1.toList) zt (by rw [Array.length_toList, HSz1.out]; rfl)
              have g5 : Grew v4 ((v4.alloc (.cells (#[.int .i64 0, .int .i64 0, .int .u64 0, .int .u64 0, .int .u64 0, .int .u64 0, .int .u64 0, .int .u64 0, .int .u64 0, .int .u64 0, .int .u64 0, .int .u64 0, .int .u64 0, .int .u64 0, .int .u64 0, .int .u64 0, .int .u64 0, .int .u64 0, .int .u64 0, .int .u64 0, .slice none 0 0]) 39)).setCells v4.heap.size 0 g1.toList) := setCells_grew (o := 0) (b := v4.heap.size) g1.toList (grew_alloc (grew_refl v4) _) (Nat.le_refl _)
              have K5 := K4.grew g5
              have G5 := grew_trans G4 g5
              have r5 := r1.gr g5
              clear zt g5 K4 G4 r1
              obtain ⟨v5, hv5⟩ : ∃ v5, (v4.alloc (.cells (#[.int .i64 0, .int .i64 0, .int .u64 0, .int .u64 0, .int .u64 0, .int .u64 0, .int .u64 0, .int .u64 0, .int .u64 0, .int .u64 0, .int .u64 0, .int .u64 0, .int .u64 0, .int .u64 0, .int .u64 0, .int .u64 0, .int .u64 0, .int .u64 0, .int .u64 0, .int .u64 0, .slice none 0 0]) 39)).setCells v4.heap.size 0 g1.toList = v5 := ⟨_, rfl⟩
              rw [hv5] at K5 G5 r5 z5
              have HW5 := Lib.hid hv5
              clear hv5
              go_wp2_with (with_reducible refine wpList_store_mid rfl 39 (.tmp 18) (.tmp 107) rfl v4.heap.size 0 g1 rfl rfl HTH.out HSI1.out HON1.out ?_; rw [HW5.out]; clear HW5 HTH; generalize v4.heap.size = q1 at *)
              have m1 : ∀ y : Gr v5, y.val.cell? ⟨q1, 1, none⟩ = some (.int .i64 (k : Int)) := fun y => by simpa using (z5.gr y).cell 1 _ HSB1.out
              have mm : Hid (∀ y : Gr v5, y.val.rangeAt q1 0 g1.toList) := Lib.hid (fun y => (z5.gr y).cell)
              have CRT := Lib.hid (fun (y : Gr v5) => keyroot_ok b p 2 seed P (k + 1) 16 (by omega) HLV.out HLT.out y.val (K5.grew y.ok))
              have CVV := Lib.hid (fun (y : Gr v5) => CV.out y.val (r5.gr y.ok))
              have CL := Lib.hid (fun (y : Gr v5) => left_ok b p 2 seed P (k + 1) 16 (by omega) (by omega) y.val (K5.grew y.ok))
              rw [show ((P.length : Int) - ((k + 1 : Nat) : Int)) = 15 - (k : Int) by omega] at CL
              have e9 : IntKind.i64.wrap (15 - (k : Int)) = 15 - (k : Int) := IntWalk.i64_in _ (by omega)
              clear CV K5 r5 z5
              generalize rootN P = rt at *
              refine wp_region_grew (grew_refl v5) (by kernel_rfl) (by kernel_rfl) ?_
              repeat (first
                | (go_big_quiet_want; refine quiet_load_mid 39 (.tmp 18) rfl q1 0 rfl g1.toList _ mm.out hus rfl HSL1.out ?_; simp only [Act.put, List.setIfInBounds_toArray, List.set_cons_succ, List.set_cons_zero, Array.toArray_toList]; go_big_quiet_on)
                | (go_big_quiet_step (first
                  | (go_at_call 23; exact callG (CRT.out _))
                  | (go_at_call 25; exact callG (CVV.out _))
                  | (go_at_call 22; exact callG (CL.out _)))))
              refine wpQuiet_nil ?_
              rintro w8 ⟨⟨w8', g8⟩, rfl⟩
              go_wp2_with fail
              go_ret
              exact ⟨by simp, grew_trans G5 g8⟩
            · have d3 : (n : Int) ≤ 16 := by omega
              refine (skip_ok b p 2 seed P k 16 (by omega) (by omega) (by omega) n (by omega) (by omega) wr K).mono ?_
              rintro e v3 ⟨rfl, tt, K3⟩
              have G3 := grew_tn G tt hwb
              rw [show max 16 n = 16 by omega] at K3
              clear K Q G tt
              go_wp2_with fail
              by_cases hx : n = 16
              · subst hx
                refine (sign_spent b p 2 seed P 16 16 (by omega) (by omega) (by omega) 5 (by omega) v3 K3).mono ?_
                rintro e v4 ⟨rfl, gg⟩
                have G4 := grew_trans G3 gg
                have zt := alloc_sig v4
                have HTH : Hid ((v4.alloc (.cells (#[.int .i64 0, .int .i64 0, .int .u64 0, .int .u64 0, .int .u64 0, .int .u64 0, .int .u64 0, .int .u64 0, .int .u64 0, .int .u64 0, .int .u64 0, .int .u64 0, .int .u64 0, .int .u64 0, .int .u64 0, .int .u64 0, .int .u64 0, .int .u64 0, .int .u64 0, .int .u64 0, .slice none 0 0]) 39)).there v4.heap.size 0 (#[.int .i64 0, .int .i64 0, .int .u64 0, .int .u64 0, .int .u64 0, .int .u64 0, .int .u64 0, .int .u64 0, .int .u64 0, .int .u64 0, .int .u64 0, .int .u64 0, .int .u64 0, .int .u64 0, .int .u64 0, .int .u64 0, .int .u64 0, .int .u64 0, .int .u64 0, .int .u64 0, .slice none 0 0] : Array Value).size) := Lib.hid (zt.thereN 21 rfl)
                have g5 : Grew v4 ((v4.alloc (.cells (#[.int .i64 0, .int .i64 0, .int .u64 0, .int .u64 0, .int .u64 0, .int .u64 0, .int .u64 0, .int .u64 0, .int .u64 0, .int .u64 0, .int .u64 0, .int .u64 0, .int .u64 0, .int .u64 0, .int .u64 0, .int .u64 0, .int .u64 0, .int .u64 0, .int .u64 0, .int .u64 0, .slice none 0 0]) 39)).setCells v4.heap.size 0 (#[.int .i64 0, .int .i64 0, .int .u64 0, .int .u64 0, .int .u64 0, .int .u64 0, .int .u64 0, .int .u64 0, .int .u64 0, .int .u64 0, .int .u64 0, .int .u64 0, .int .u64 0, .int .u64 0, .int .u64 0, .int .u64 0, .int .u64 0, .int .u64 0, .int .u64 0, .int .u64 0, .slice none 0 0] : Array Value).toList) := setCells_grew (o := 0) (b := v4.heap.size) (#[.int .i64 0, .int .i64 0, .int .u64 0, .int .u64 0, .int .u64 0, .int .u64 0, .int .u64 0, .int .u64 0, .int .u64 0, .int .u64 0, .int .u64 0, .int .u64 0, .int .u64 0, .int .u64 0, .int .u64 0, .int .u64 0, .int .u64 0, .int .u64 0, .int .u64 0, .int .u64 0, .slice none 0 0] : Array Value).toList (grew_alloc (grew_refl v4) _) (Nat.le_refl _)
                have G5 := grew_trans G4 g5
                clear zt g5 G4 K3 G3
                obtain ⟨v5, hv5⟩ : ∃ v5, (v4.alloc (.cells (#[.int .i64 0, .int .i64 0, .int .u64 0, .int .u64 0, .int .u64 0, .int .u64 0, .int .u64 0, .int .u64 0, .int .u64 0, .int .u64 0, .int .u64 0, .int .u64 0, .int .u64 0, .int .u64 0, .int .u64 0, .int .u64 0, .int .u64 0, .int .u64 0, .int .u64 0, .int .u64 0, .slice none 0 0]) 39)).setCells v4.heap.size 0 (#[.int .i64 0, .int .i64 0, .int .u64 0, .int .u64 0, .int .u64 0, .int .u64 0, .int .u64 0, .int .u64 0, .int .u64 0, .int .u64 0, .int .u64 0, .int .u64 0, .int .u64 0, .int .u64 0, .int .u64 0, .int .u64 0, .int .u64 0, .int .u64 0, .int .u64 0, .int .u64 0, .slice none 0 0] : Array Value).toList = v5 := ⟨_, rfl⟩
                rw [hv5] at G5
                have HW5 := Lib.hid hv5
                clear hv5
                go_wp2_with (with_reducible refine wpList_store_mid rfl 39 (.tmp 18) (.tmp 107) rfl v4.heap.size 0 (#[.int .i64 0, .int .i64 0, .int .u64 0, .int .u64 0, .int .u64 0, .int .u64 0, .int .u64 0, .int .u64 0, .int .u64 0, .int .u64 0, .int .u64 0, .int .u64 0, .int .u64 0, .int .u64 0, .int .u64 0, .int .u64 0, .int .u64 0, .int .u64 0, .int .u64 0, .int .u64 0, .slice none 0 0]) rfl rfl HTH.out HZI.out HZO.out ?_; rw [HW5.out])
                go_ret
                exact ⟨by simp, G5⟩
              · have d4 : ¬ (16 : Int) ≤ (n : Int) := by omega
                have hpx := pathN_lt P n HLT.out
                have HPX := Lib.hid hpx
                have hpl := H4.out n (by omega)
                clear hpx
                refine (sign_ok b p 2 seed P n 16 (by omega) (by omega) (by omega) 5 (by omega) (by omega) HLV.out HLT.out HSD.out ⟨by omega, by omega⟩ v3 K3).mono ?_
                rintro e v4 ⟨⟨A1, c1, rfl, r1, hA1⟩, tt, K4⟩
                have G4 := grew_tn G3 tt hwb
                clear K3 G3 tt hA1
                obtain ⟨g1, hg1⟩ : ∃ g, sgC 2 (n : Int) (signF (secN seed (n : Int)) (5 : Int).toNat) (.slice A1 (pathN P n).length c1) = g := ⟨_, rfl⟩
                have HON1 := Lib.hid (sgC_one 2 (n : Int) (signF (secN seed (n : Int)) (5 : Int).toNat) A1 (pathN P n).length c1)
                have HSI1 : Hid ((Tryz.prog.info? 39).map (·.size) = some (sgC 2 (n : Int) (signF (secN seed (n : Int)) (5 : Int).toNat) (.slice A1 (pathN P n).length c1)).size) := Lib.hid sg_info
                have HSL1 : Hid ((Tryz.prog.info? 39).map (·.size) = some (sgC 2 (n : Int) (signF (secN seed (n : Int)) (5 : Int).toNat) (.slice A1 (pathN P n).length c1)).toList.length) := Lib.hid sg_info
                have HSB1 : Hid ((sgC 2 (n : Int) (signF (secN seed (n : Int)) (5 : Int).toNat) (.slice A1 (pathN P n).length c1)).toList[1]? = some (.int .i64 (n : Int))) := Lib.hid rfl
                have HSz1 : Hid ((sgC 2 (n : Int) (signF (secN seed (n : Int)) (5 : Int).toNat) (.slice A1 (pathN P n).length c1)).size = 21) := Lib.hid rfl
                have CV := Lib.hid (fun W h1 => kverify_ok (rootN P) 2 (n : Int) (signF (secN seed (n : Int)) (5 : Int).toNat) A1 c1 (pathN P n) 5 4 (by omega) ⟨by omega, by omega⟩ (fun j hj => signF_lt _ _ _ (secN_lt _ _ _)) HPX.out ⟨by omega, by omega⟩ W h1)
                rw [show (5 : Int).toNat = 5 from rfl] at HON1 HSI1 HSL1 HSB1 HSz1 CV hg1 ⊢
                rw [HV.out n (by omega)] at CV
                rw [hg1] at HON1 HSI1 HSL1 HSB1 HSz1 CV ⊢
                clear hg1
                have zt := alloc_sig v4
                have HTH : Hid ((v4.alloc (.cells (#[.int .i64 0, .int .i64 0, .int .u64 0, .int .u64 0, .int .u64 0, .int .u64 0, .int .u64 0, .int .u64 0, .int .u64 0, .int .u64 0, .int .u64 0, .int .u64 0, .int .u64 0, .int .u64 0, .int .u64 0, .int .u64 0, .int .u64 0, .int .u64 0, .int .u64 0, .int .u64 0, .slice none 0 0]) 39)).there v4.heap.size 0 g1.size) := Lib.hid (by rw [HSz1.out]; exact zt.thereN 21 rfl)
                have z5 := Ag.set (vs := g1.toList) zt (by rw [Array.length_toList, HSz1.out]; rfl)
                have g5 : Grew v4 ((v4.alloc (.cells (#[.int .i64 0, .int .i64 0, .int .u64 0, .int .u64 0, .int .u64 0, .int .u64 0, .int .u64 0, .int .u64 0, .int .u64 0, .int .u64 0, .int .u64 0, .int .u64 0, .int .u64 0, .int .u64 0, .int .u64 0, .int .u64 0, .int .u64 0, .int .u64 0, .int .u64 0, .int .u64 0, .slice none 0 0]) 39)).setCells v4.heap.size 0 g1.toList) := setCells_grew (o := 0) (b := v4.heap.size) g1.toList (grew_alloc (grew_refl v4) _) (Nat.le_refl _)
                have K5 := K4.grew g5
                have G5 := grew_trans G4 g5
                have r5 := r1.gr g5
                clear zt g5 K4 G4 r1
                obtain ⟨v5, hv5⟩ : ∃ v5, (v4.alloc (.cells (#[.int .i64 0, .int .i64 0, .int .u64 0, .int .u64 0, .int .u64 0, .int .u64 0, .int .u64 0, .int .u64 0, .int .u64 0, .int .u64 0, .int .u64 0, .int .u64 0, .int .u64 0, .int .u64 0, .int .u64 0, .int .u64 0, .int .u64 0, .int .u64 0, .int .u64 0, .int .u64 0, .slice none 0 0]) 39)).setCells v4.heap.size 0 g1.toList = v5 := ⟨_, rfl⟩
                rw [hv5] at K5 G5 r5 z5
                have HW5 := Lib.hid hv5
                clear hv5
                go_wp2_with (with_reducible refine wpList_store_mid rfl 39 (.tmp 18) (.tmp 107) rfl v4.heap.size 0 g1 rfl rfl HTH.out HSI1.out HON1.out ?_; rw [HW5.out]; clear HW5 HTH; generalize v4.heap.size = q1 at *)
                have m1 : ∀ y : Gr v5, y.val.cell? ⟨q1, 1, none⟩ = some (.int .i64 (n : Int)) := fun y => by simpa using (z5.gr y).cell 1 _ HSB1.out
                have mm : Hid (∀ y : Gr v5, y.val.rangeAt q1 0 g1.toList) := Lib.hid (fun y => (z5.gr y).cell)
                have CRT := Lib.hid (fun (y : Gr v5) => keyroot_ok b p 2 seed P (n + 1) 16 (by omega) HLV.out HLT.out y.val (K5.grew y.ok))
                have CVV := Lib.hid (fun (y : Gr v5) => CV.out y.val (r5.gr y.ok))
                have CL := Lib.hid (fun (y : Gr v5) => left_ok b p 2 seed P (n + 1) 16 (by omega) (by omega) y.val (K5.grew y.ok))
                rw [show ((P.length : Int) - ((n + 1 : Nat) : Int)) = 15 - (n : Int) by omega] at CL
                have e9 : IntKind.i64.wrap (15 - (n : Int)) = 15 - (n : Int) := IntWalk.i64_in _ (by omega)
                clear CV K5 r5 z5
                generalize rootN P = rt at *
                refine wp_region_grew (grew_refl v5) (by kernel_rfl) (by kernel_rfl) ?_
                repeat (first
                  | (go_big_quiet_want; refine quiet_load_mid 39 (.tmp 18) rfl q1 0 rfl g1.toList _ mm.out hus rfl HSL1.out ?_; simp only [Act.put, List.setIfInBounds_toArray, List.set_cons_succ, List.set_cons_zero, Array.toArray_toList]; go_big_quiet_on)
                  | (go_big_quiet_step (first
                    | (go_at_call 23; exact callG (CRT.out _))
                    | (go_at_call 25; exact callG (CVV.out _))
                    | (go_at_call 22; exact callG (CL.out _)))))
                refine wpQuiet_nil ?_
                rintro w8 ⟨⟨w8', g8⟩, rfl⟩
                go_wp2_with fail
                go_ret
                exact ⟨by simp, grew_trans G5 g8⟩
end Go.Proofs.YtpgbfglfgcidaaaGreatDoor

namespace Go.Proofs.YtpgbfglfgcidaaaGreatDoor
set_option linter.unusedSimpArgs false
set_option linter.unusedVariables false
open Go.RowKit
set_option linter.unusedVariables false
set_option maxRecDepth 100000 in
set_option maxHeartbeats 1000000 in
theorem kparse_core (tj : ByteArray) (x0 x1 x2 x3 : List UInt8) (who leaf : Int) (s : Nat → Nat) (l : List Nat) (hsp : splitF tj.data.toList = some [x0, x1, x2, x3]) (hz : tj.size ≤ 1000000) (l0 : x0.length ≤ 1000000) (l1 : x1.length ≤ 1000000) (l2 : x2.length ≤ 1000000) (l3 : x3.length ≤ 1000000)
    (p0 : (pnum x0).1 = who) (b0 : uptoB x0 15 = true) (p1 : (pnum x1).1 = leaf) (b1 : uptoB x1 9223372036854775807 = true) (d2 : pdigs x2 = some (oneL s)) (d3 : pdigs x3 = some l) (hl : l.length ≤ 8) (w : World) (hS : Std w) :
    Calls Tryz.prog 27 #[.string tj] w fun e w' => (∃ A c, e = .returned (.tuple #[.agg (sgC who leaf s (.slice A l.length c)), .int .i64 0]) ∧ Rd w' w'.heap.size A (u64L l) ∧ (∀ ad, A = some ad → w.heap.size < ad.block)) ∧ Grew w w' := by
  have HS := Lib.hid hS
  have CS := Lib.hid (fun W => split_some (s := tj) (l := [x0, x1, x2, x3]) hsp (by simp) (by omega) W)
  rw [show txt [x0, x1, x2, x3] = [⟨x0.toArray⟩, ⟨x1.toArray⟩, ⟨x2.toArray⟩, ⟨x3.toArray⟩] from rfl] at CS
  have U0 := Lib.hid (fun W hW => upto_ok ⟨x0.toArray⟩ (by show x0.toArray.size ≤ _; simp; omega) 15 W hW)
  have U1 := Lib.hid (fun W hW => upto_ok ⟨x1.toArray⟩ (by show x1.toArray.size ≤ _; simp; omega) 9223372036854775807 W hW)
  have D2 := Lib.hid (fun W hW => pdigs_ok ⟨x2.toArray⟩ (by show x2.toArray.size ≤ _; simp; omega) W hW)
  have D3 := Lib.hid (fun W hW => pdigs_ok ⟨x3.toArray⟩ (by show x3.toArray.size ≤ _; simp; omega) W hW)
  simp only [p0, b0] at U0
  simp only [p1, b1] at U1
  simp only [d2, Option.isSome_some, Option.getD_some, oneL_length] at D2
  simp only [d3, Option.isSome_some, Option.getD_some] at D3
  clear p0 p1 b0 b1 d2 d3 l0 l1 l2 l3 hz hsp hS
  generalize (⟨x0.toArray⟩ : ByteArray) = t0 at *
  generalize (⟨x1.toArray⟩ : ByteArray) = t1 at *
  generalize (⟨x2.toArray⟩ : ByteArray) = t2 at *
  generalize (⟨x3.toArray⟩ : ByteArray) = t3 at *
  have z0 := alloc_sig w
  have g0 := grew_alloc (grew_refl w) (.cells (#[.int .i64 0, .int .i64 0, .int .u64 0, .int .u64 0, .int .u64 0, .int .u64 0, .int .u64 0, .int .u64 0, .int .u64 0, .int .u64 0, .int .u64 0, .int .u64 0, .int .u64 0, .int .u64 0, .int .u64 0, .int .u64 0, .int .u64 0, .int .u64 0, .int .u64 0, .int .u64 0, .slice none 0 0]) 39)
  have hus := Tryz.underlying39
  have hl8 : ¬ (8 : Int) < (l.length : Int) := by omega
  go_enter Tryz.func27, Tryz.ntmps27
  go_wp2_with fail
  refine (CS.out _).mono ?_
  rintro e w1 ⟨⟨v1, rfl, o1⟩, gg⟩
  have z1 := z0.grew gg
  have g1 := grew_trans g0 gg
  obtain ⟨g, k1, rfl, hk1, hgl, hcs⟩ := own_cells o1 (by simp)
  have x0 : w1.cell? ⟨g, 0, none⟩ = some (.string t0) := by simpa using hcs 0 (.string t0) rfl
  have x1 : w1.cell? ⟨g, 1, none⟩ = some (.string t1) := by simpa using hcs 1 (.string t1) rfl
  have x2 : w1.cell? ⟨g, 2, none⟩ = some (.string t2) := by simpa using hcs 2 (.string t2) rfl
  have x3 : w1.cell? ⟨g, 3, none⟩ = some (.string t3) := by simpa using hcs 3 (.string t3) rfl
  clear CS z0 g0 gg o1 hcs
  have hk1' : (4 : Int) ≤ (k1 : Int) := by
    have : 4 ≤ k1 := hk1
    omega
  go_wp2_with fail
  refine (U0.out _ (HS.out.grew g1)).mono ?_
  rintro e w2 ⟨rfl, gg⟩
  have y1 := (gg.cell (p := ⟨g, 1, none⟩) hgl).trans x1
  have y2 := (gg.cell (p := ⟨g, 2, none⟩) hgl).trans x2
  have y3 := (gg.cell (p := ⟨g, 3, none⟩) hgl).trans x3
  have hgl2 := Nat.lt_of_lt_of_le hgl gg.size
  have z2 := z1.grew gg
  have g2 := grew_trans g1 gg
  clear U0 x0 x1 x2 x3 z1 g1 gg hgl
  go_wp2_with fail
  refine (U1.out _ (HS.out.grew g2)).mono ?_
  rintro e w3 ⟨rfl, gg⟩
  have x2 := (gg.cell (p := ⟨g, 2, none⟩) hgl2).trans y2
  have x3 := (gg.cell (p := ⟨g, 3, none⟩) hgl2).trans y3
  have hgl3 := Nat.lt_of_lt_of_le hgl2 gg.size
  have z3 := z2.grew gg
  have g3 := grew_trans g2 gg
  clear U1 y1 y2 y3 z2 g2 gg hgl2
  go_wp2_with fail
  refine (D2.out _ (HS.out.grew g3)).mono ?_
  rintro e w4 ⟨⟨v4, rfl, o4⟩, gg⟩
  obtain ⟨A4, c4, rfl, hk4, -, r4⟩ := own_rd o4
  obtain ⟨h4, k4, e4, -, -, -⟩ := own_cells o4 (by decide)
  injection e4 with e4 e5 e6
  subst e4
  clear e5 e6
  have y3 := (gg.cell (p := ⟨g, 3, none⟩) hgl3).trans x3
  have z4 := z3.grew gg
  have g4 := grew_trans g3 gg
  clear D2 x2 x3 z3 g3 gg hgl3 o4
  go_wp2_with fail
  refine (D3.out _ (HS.out.grew g4)).mono ?_
  rintro e w5 ⟨⟨v5, rfl, o5⟩, gg⟩
  obtain ⟨A5, c5, rfl, -, -, r5⟩ := own_rd o5
  have HNE : Hid (∀ ad, A5 = some ad → w.heap.size < ad.block) := Lib.hid (fun ad h => by
    have h1 := own_base o5 ad.block (by rw [h]; rfl)
    have h2 := z4.lt
    omega)
  have r45 := r4.gr gg
  have z5 := z4.grew gg
  have g5 := grew_trans g4 gg
  have m5 := Lib.hid (rd_range r45)
  clear D3 y3 z4 g4 gg o5 r4 r45
  go_upto_region 10 with fail
  have hua := Tryz.underlying36
  have hia : (Tryz.prog.info? 36).map (·.size) = some (u64L (oneL s)).length := by rw [show (u64L (oneL s)).length = 18 by rw [u64L_length, oneL_length]]; kernel_rfl
  have hbu := sg_built who leaf s A5 l.length c5
  have hra := fun W => run_arrayAt (P := Tryz.prog) (w := W) 36 34 18 (some ⟨h4, 0, none⟩) 18 c4 hua (Nat.le_refl _)
  have HBU := Lib.hid (show Tryz.prog.built 39 [(0, .int .i64 who), (1, .int .i64 leaf), (2, .agg (u64L (oneL s)).toArray), (3, .slice A5 l.length c5)] = some (sgC who leaf s (.slice A5 l.length c5)) from by rw [one_arr]; exact hbu)
  clear hbu
  clear hk4
  generalize u64L (oneL s) = xs at *
  have hxa := Lib.hid hia
  clear hia
  have hth : w5.there w.heap.size 0 (sgC who leaf s (.slice A5 l.length c5)).size := z5.thereN 21 rfl
  have hsi : (Tryz.prog.info? 39).map (·.size) = some (sgC who leaf s (.slice A5 l.length c5)).size := sg_info
  have hone := sgC_one who leaf s A5 l.length c5
  have HTH := Lib.hid hth
  have HSI := Lib.hid hsi
  have HON := Lib.hid hone
  clear hth hsi hone
  go_wp2_with (first
    | (with_reducible refine wpList_load_mid rfl 36 (.tmp 83) rfl h4 0 rfl xs _ m5.out hua rfl hxa.out ?_)
    | (with_reducible refine wpList_build_is rfl 39 #[(0, .tmp 80), (1, .tmp 81), (2, .tmp 84), (3, .tmp 85)] rfl (sgC who leaf s (.slice A5 l.length c5)) ?_ ?_; · simpa [Act.eval, Act.put] using HBU.out)
    | (with_reducible refine wpList_store_mid rfl 39 (.tmp 2) (.tmp 86) rfl w.heap.size 0 (sgC who leaf s (.slice A5 l.length c5)) rfl rfl HTH.out HSI.out HON.out ?_; have z6 := Ag.set (vs := (sgC who leaf s (.slice A5 l.length c5)).toList) z5 rfl; have g6 := setCells_grew (o := 0) (b := w.heap.size) (sgC who leaf s (.slice A5 l.length c5)).toList g5 (Nat.le_refl _)))
  exact bodyPost_ret (results_ag2 Tryz.results27 _ _ w.heap.size _ _ _ rfl rfl z6 hus rfl sg_info) rfl ⟨⟨A5, c5, rfl, (r5.kp (setCells_kp (sgC who leaf s (.slice A5 l.length c5)).toList w.heap.size 0 w5) (Nat.le_refl _) (fun ad h1 h2 (h3 : ad.block = w.heap.size) => by have := HNE.out ad h1; omega)).more (setCells_size w5 w.heap.size 0 _), HNE.out⟩, g6⟩
end Go.Proofs.YtpgbfglfgcidaaaGreatDoor
