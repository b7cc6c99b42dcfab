/- key.Parse of a signature's words. -/
import Derived.Laws.Cover3
import Derived.Deep.Cut
import Derived.Test.YtaeopobofmpioaaGreatDoorZbg
import Derived.Test.YtaeopobofmpioaaGreatDoorZat
import Derived.Laws.MakeOwn
import Derived.Test.YtaeopobofmpioaaGreatDoorZas
import Derived.Test.YtaeopobofmpioaaGreatDoorZak
import Derived.Test.YtaeopobofmpioaaGreatDoorZaj
import Derived.Test.YtaeopobofmpioaaGreatDoorZbf
import Derived.Test.YtaeopobofmpioaaGreatDoorZan
namespace Go.Proofs.YtaeopobofmpioaaGreatDoor
set_option linter.unusedSimpArgs false
set_option linter.unusedVariables false
open Go.RowKit
set_option linter.unusedVariables false
theorem rd_range {w : World} {B g : Nat} {xs : List Value} (h : Rd w B (some ⟨g, 0, none⟩) xs) : w.rangeAt g 0 xs := by
  intro j v hj
  have hj' := (List.getElem?_eq_some_iff.1 hj).1
  obtain ⟨ad, e, _, hc⟩ := h j hj'
  injection e with e
  subst e
  rw [Addr.add_mid] at hc
  rw [hc, ← hj, List.getElem?_eq_getElem hj']
theorem one_arr (s : Nat → Nat) : (u64L (oneL s)).toArray = arrU s := by
  simp [u64L, oneL, arrU]
  intro a _
  rfl
set_option maxRecDepth 100000 in
set_option maxHeartbeats 1000000 in
theorem kparse_fr (who leaf : Int) (s : Nat → Nat) (l : List Nat) (hw : 0 ≤ who ∧ who ≤ 15) (hlf : 0 ≤ leaf ∧ leaf ≤ 9223372036854775807) (hl : l.length ≤ 8) (hs : ∀ k, k < 18 → s k < 18446744073709551616) (hb : ∀ n ∈ l, n < 18446744073709551616) (w : World) (hS : Std w) :
    Calls Tryz.prog 87 #[.string ⟨(sgT who leaf s l).toArray⟩] w fun e w' => (∃ A c, e = .returned (.tuple #[.agg (sgC who leaf s (.slice A l.length c)), .int .i64 0]) ∧ Rd w' w'.heap.size A (u64L l) ∧ (∀ ad, A = some ad → w.heap.size < ad.block)) ∧ Grew w w' := by
  have HS := Lib.hid hS
  have iw : in64 who := ⟨by omega, by omega⟩
  have il : in64 leaf := ⟨by omega, by omega⟩
  have l0 := itoa_len iw.1 iw.2
  have l1 := itoa_len il.1 il.2
  have l2 := digs_len (oneL s)
  rw [oneL_length] at l2
  have l3 := digs_len l
  have lT : (sgT who leaf s l).length ≤ 100000000 := by
    have f1 := fld_len (Lib.itoa who)
    have f2 := fld_len (Lib.itoa leaf)
    have f3 := fld_len (digs (oneL s))
    have f4 := fld_len (digs l)
    unfold sgT
    simp only [joinF, List.flatMap_cons, List.flatMap_nil, List.length_append, List.length_cons, List.length_nil]
    omega
  have CS := Lib.hid (fun W => split_some (s := ⟨(sgT who leaf s l).toArray⟩) (l := [Lib.itoa who, Lib.itoa leaf, digs (oneL s), digs l]) (split_join _) (by simp) (by show (sgT who leaf s l).toArray.size ≤ _; simpa using lT) W)
  rw [show txt [Lib.itoa who, Lib.itoa leaf, digs (oneL s), digs l] = [⟨(Lib.itoa who).toArray⟩, ⟨(Lib.itoa leaf).toArray⟩, ⟨(digs (oneL s)).toArray⟩, ⟨(digs l).toArray⟩] from rfl] at CS
  have U0 := Lib.hid (fun W hW => upto_ok ⟨(Lib.itoa who).toArray⟩ (by show (Lib.itoa who).toArray.size ≤ _; simp; omega) 15 W hW)
  have U1 := Lib.hid (fun W hW => upto_ok ⟨(Lib.itoa leaf).toArray⟩ (by show (Lib.itoa leaf).toArray.size ≤ _; simp; omega) 9223372036854775807 W hW)
  have D2 := Lib.hid (fun W hW => pdigs_ok ⟨(digs (oneL s)).toArray⟩ (by show (digs (oneL s)).toArray.size ≤ _; simp; omega) W hW)
  have D3 := Lib.hid (fun W hW => pdigs_ok ⟨(digs l).toArray⟩ (by show (digs l).toArray.size ≤ _; simp; omega) W hW)
  have p0 := pnum_itoa iw.1 iw.2
  have p1 := pnum_itoa il.1 il.2
  have b0 : uptoB (Lib.itoa who) 15 = true := decide_eq_true (by rw [p0]; exact ⟨rfl, hw⟩)
  have b1 : uptoB (Lib.itoa leaf) 9223372036854775807 = true := decide_eq_true (by rw [p1]; exact ⟨rfl, hlf⟩)
  have d2 := pdigs_digs (oneL s) (fun x hx => by
    obtain ⟨k, hk, rfl⟩ := List.mem_map.1 hx
    exact hs k (List.mem_range.1 hk))
  have d3 := pdigs_digs l hb
  simp only [p0, b0] at U0
  simp only [p1, b1] at U1
  simp only [d2, Option.isSome_some, Option.getD_some, oneL_length] at D2
  simp only [d3, Option.isSome_some, Option.getD_some] at D3
  clear p0 p1 b0 b1 d2 d3 l0 l1 l2 l3 lT iw il hw hlf hs hb hS
  generalize (⟨(sgT who leaf s l).toArray⟩ : ByteArray) = tj at *
  generalize (⟨(Lib.itoa who).toArray⟩ : ByteArray) = t0 at *
  generalize (⟨(Lib.itoa leaf).toArray⟩ : ByteArray) = t1 at *
  generalize (⟨(digs (oneL s)).toArray⟩ : ByteArray) = t2 at *
  generalize (⟨(digs l).toArray⟩ : ByteArray) = t3 at *
  have z0 := alloc_sig w
  have g0 := grew_alloc (grew_refl w) (.cells (#[.int .i64 0, .int .i64 0, .int .u64 0, .int .u64 0, .int .u64 0, .int .u64 0, .int .u64 0, .int .u64 0, .int .u64 0, .int .u64 0, .int .u64 0, .int .u64 0, .int .u64 0, .int .u64 0, .int .u64 0, .int .u64 0, .int .u64 0, .int .u64 0, .int .u64 0, .int .u64 0, .slice none 0 0]) 42)
  have hus := Tryz.underlying42
  have hl8 : ¬ (8 : Int) < (l.length : Int) := by omega
  go_enter Tryz.func87, Tryz.ntmps87
  go_wp2_with fail
  refine (CS.out _).mono ?_
  rintro e w1 ⟨⟨v1, rfl, o1⟩, gg⟩
  have z1 := z0.grew gg
  have g1 := grew_trans g0 gg
  obtain ⟨g, k1, rfl, hk1, hgl, hcs⟩ := own_cells o1 (by simp)
  have x0 : w1.cell? ⟨g, 0, none⟩ = some (.string t0) := by simpa using hcs 0 (.string t0) rfl
  have x1 : w1.cell? ⟨g, 1, none⟩ = some (.string t1) := by simpa using hcs 1 (.string t1) rfl
  have x2 : w1.cell? ⟨g, 2, none⟩ = some (.string t2) := by simpa using hcs 2 (.string t2) rfl
  have x3 : w1.cell? ⟨g, 3, none⟩ = some (.string t3) := by simpa using hcs 3 (.string t3) rfl
  clear CS z0 g0 gg o1 hcs
  have hk1' : (4 : Int) ≤ (k1 : Int) := by
    have : 4 ≤ k1 := hk1
    omega
  go_wp2_with fail
  refine (U0.out _ (HS.out.grew g1)).mono ?_
  rintro e w2 ⟨rfl, gg⟩
  have y1 := (gg.cell (p := ⟨g, 1, none⟩) hgl).trans x1
  have y2 := (gg.cell (p := ⟨g, 2, none⟩) hgl).trans x2
  have y3 := (gg.cell (p := ⟨g, 3, none⟩) hgl).trans x3
  have hgl2 := Nat.lt_of_lt_of_le hgl gg.size
  have z2 := z1.grew gg
  have g2 := grew_trans g1 gg
  clear U0 x0 x1 x2 x3 z1 g1 gg hgl
  go_wp2_with fail
  refine (U1.out _ (HS.out.grew g2)).mono ?_
  rintro e w3 ⟨rfl, gg⟩
  have x2 := (gg.cell (p := ⟨g, 2, none⟩) hgl2).trans y2
  have x3 := (gg.cell (p := ⟨g, 3, none⟩) hgl2).trans y3
  have hgl3 := Nat.lt_of_lt_of_le hgl2 gg.size
  have z3 := z2.grew gg
  have g3 := grew_trans g2 gg
  clear U1 y1 y2 y3 z2 g2 gg hgl2
  go_wp2_with fail
  refine (D2.out _ (HS.out.grew g3)).mono ?_
  rintro e w4 ⟨⟨v4, rfl, o4⟩, gg⟩
  obtain ⟨A4, c4, rfl, hk4, -, r4⟩ := own_rd o4
  obtain ⟨h4, k4, e4, -, -, -⟩ := own_cells o4 (by decide)
  injection e4 with e4 e5 e6
  subst e4
  clear e5 e6
  have y3 := (gg.cell (p := ⟨g, 3, none⟩) hgl3).trans x3
  have z4 := z3.grew gg
  have g4 := grew_trans g3 gg
  clear D2 x2 x3 z3 g3 gg hgl3 o4
  go_wp2_with fail
  refine (D3.out _ (HS.out.grew g4)).mono ?_
  rintro e w5 ⟨⟨v5, rfl, o5⟩, gg⟩
  obtain ⟨A5, c5, rfl, -, -, r5⟩ := own_rd o5
  have HNE : Hid (∀ ad, A5 = some ad → w.heap.size < ad.block) := Lib.hid (fun ad h => by
    have h1 := own_base o5 ad.block (by rw [h]; rfl)
    have h2 := z4.lt
    omega)
  have r45 := r4.gr gg
  have z5 := z4.grew gg
  have g5 := grew_trans g4 gg
  have m5 := Lib.hid (rd_range r45)
  clear D3 y3 z4 g4 gg o5 r4 r45
  go_upto_region 10 with fail
  have hua := Tryz.underlying40
  have hia : (Tryz.prog.info? 40).map (·.size) = some (u64L (oneL s)).length := by rw [show (u64L (oneL s)).length = 18 by rw [u64L_length, oneL_length]]; kernel_rfl
  have hbu := sg_built who leaf s A5 l.length c5
  have hra := fun W => run_arrayAt (P := Tryz.prog) (w := W) 40 38 18 (some ⟨h4, 0, none⟩) 18 c4 hua (Nat.le_refl _)
  have HBU := Lib.hid (show Tryz.prog.built 42 [(0, .int .i64 who), (1, .int .i64 leaf), (2, .agg (u64L (oneL s)).toArray), (3, .slice A5 l.length c5)] = some (sgC who leaf s (.slice A5 l.length c5)) from by rw [one_arr]; exact hbu)
  clear hbu
  clear hk4
  generalize u64L (oneL s) = xs at *
  have hxa := Lib.hid hia
  clear hia
  have hth : w5.there w.heap.size 0 (sgC who leaf s (.slice A5 l.length c5)).size := z5.thereN 21 rfl
  have hsi : (Tryz.prog.info? 42).map (·.size) = some (sgC who leaf s (.slice A5 l.length c5)).size := sg_info
  have hone := sgC_one who leaf s A5 l.length c5
  have HTH := Lib.hid hth
  have HSI := Lib.hid hsi
  have HON := Lib.hid hone
  clear hth hsi hone
  go_wp2_with (first
    | (with_reducible refine wpList_load_mid rfl 40 (.tmp 83) rfl h4 0 rfl xs _ m5.out hua rfl hxa.out ?_)
    | (with_reducible refine wpList_build_is rfl 42 #[(0, .tmp 80), (1, .tmp 81), (2, .tmp 84), (3, .tmp 85)] rfl (sgC who leaf s (.slice A5 l.length c5)) ?_ ?_; · simpa [Act.eval, Act.put] using HBU.out)
    | (with_reducible refine wpList_store_mid rfl 42 (.tmp 2) (.tmp 86) rfl w.heap.size 0 (sgC who leaf s (.slice A5 l.length c5)) rfl rfl HTH.out HSI.out HON.out ?_; have z6 := Ag.set (vs := (sgC who leaf s (.slice A5 l.length c5)).toList) z5 rfl; have g6 := setCells_grew (o := 0) (b := w.heap.size) (sgC who leaf s (.slice A5 l.length c5)).toList g5 (Nat.le_refl _)))
  exact bodyPost_ret (results_ag2 Tryz.results87 _ _ w.heap.size _ _ _ rfl rfl z6 hus rfl sg_info) rfl ⟨⟨A5, c5, rfl, (r5.kp (setCells_kp (sgC who leaf s (.slice A5 l.length c5)).toList w.heap.size 0 w5) (Nat.le_refl _) (fun ad h1 h2 (h3 : ad.block = w.heap.size) => by have := HNE.out ad h1; omega)).more (setCells_size w5 w.heap.size 0 _), HNE.out⟩, g6⟩
theorem kparse_ok (who leaf : Int) (s : Nat → Nat) (l : List Nat) (hw : 0 ≤ who ∧ who ≤ 15) (hlf : 0 ≤ leaf ∧ leaf ≤ 9223372036854775807) (hl : l.length ≤ 8) (hs : ∀ k, k < 18 → s k < 18446744073709551616) (hb : ∀ n ∈ l, n < 18446744073709551616) (w : World) (hS : Std w) :
    Calls Tryz.prog 87 #[.string ⟨(sgT who leaf s l).toArray⟩] w fun e w' => (∃ A c, e = .returned (.tuple #[.agg (sgC who leaf s (.slice A l.length c)), .int .i64 0]) ∧ Rd w' w'.heap.size A (u64L l)) ∧ Grew w w' :=
  (kparse_fr who leaf s l hw hlf hl hs hb w hS).mono fun e w' ⟨⟨A, c, h1, h2, _⟩, g⟩ => ⟨⟨A, c, h1, h2⟩, g⟩
end Go.Proofs.YtaeopobofmpioaaGreatDoor

namespace Go.Proofs.YtaeopobofmpioaaGreatDoor
set_option linter.unusedSimpArgs false
set_option linter.unusedVariables false
open Go.RowKit
set_option linter.unusedVariables false
theorem kp_tn {g : Nat} {w w' : World} (h : Tn g w w') : Kp (fun j => j = g) w w' := ⟨h.os, h.tape, h.output, h.size, fun i hi hn => h.block i hi (fun e => hn (by injection e))⟩
theorem grew_tn {g : Nat} {a w w' : World} (h : Grew a w) (k : Tn g w w') (hg : a.heap.size ≤ g) : Grew a w' := below_tn h k h.size hg
theorem ky_leaves : leavesOk (pubsL 9 2).length = true := by rw [ky_len]; decide
theorem pubsL_lt (sd : Int) (n : Nat) : ∀ x ∈ pubsL sd n, x < 18446744073709551616 := fun x hx => by
  obtain ⟨i, _, rfl⟩ := List.mem_map.1 hx
  exact pubN_lt _
theorem ky_pathlen : (pathN (pubsL 9 2) 0).length = 1 := by rw [ky_path]; rfl
theorem ky_pathlt : ∀ x ∈ pathN (pubsL 9 2) 0, x < 18446744073709551616 := fun x hx => by
  rw [ky_path] at hx
  obtain rfl : x = pubN (secN 9 1) := by simpa using hx
  exact pubN_lt _
end Go.Proofs.YtaeopobofmpioaaGreatDoor

namespace Go.Proofs.YtaeopobofmpioaaGreatDoor
set_option linter.unusedSimpArgs false
set_option linter.unusedVariables false
open Go.RowKit
set_option linter.unusedVariables false
theorem pubsL_snoc (sd : Int) (k : Nat) : pubsL sd (k + 1) = pubsL sd k ++ [pubN (secN sd (k : Int))] := by simp [pubsL, List.range_succ]
theorem leaves_pow : ∀ h : Fin 9, leavesOk (2 ^ h.val) = true := by decide
end Go.Proofs.YtaeopobofmpioaaGreatDoor

namespace Go.Proofs.YtaeopobofmpioaaGreatDoor
set_option linter.unusedSimpArgs false
set_option linter.unusedVariables false
open Go.RowKit
set_option linter.unusedVariables false
theorem ver_pubs (sd : Int) (m d : Nat) (hm : m < 16) : vrS (rootN (pubsL sd 16)) (m : Int) (signF (secN sd (m : Int)) d) (pathN (pubsL sd 16) m) (d : Int) 4 = true := by
  have hl : (pubsL sd 16).length = 2 ^ 4 := pubsL_length sd 16
  obtain ⟨h1, h2⟩ := path_pow 4 (by omega) (pubsL sd 16) m hl (by rw [hl]; omega)
  have h3 : (pubsL sd 16).getD m 0 = pubN (secN sd (m : Int)) := by simp [pubsL, List.getD, hm]
  rw [h3] at h2
  unfold vrS
  rw [Int.toNat_natCast, rec_sign, verN_yes (by rw [h1]; omega), Int.toNat_natCast, h2, h1]
  simp
theorem path_four (sd : Int) (m : Nat) (hm : m < 16) : (pathN (pubsL sd 16) m).length = 4 := by
  have hl : (pubsL sd 16).length = 2 ^ 4 := pubsL_length sd 16
  exact (path_pow 4 (by omega) (pubsL sd 16) m hl (by rw [hl]; omega)).1
end Go.Proofs.YtaeopobofmpioaaGreatDoor

namespace Go.Proofs.YtaeopobofmpioaaGreatDoor
set_option linter.unusedSimpArgs false
set_option linter.unusedVariables false
open Go.RowKit
set_option linter.unusedVariables false
set_option linter.unusedSimpArgs false
theorem Ag.set1 {w : World} {b : Nat} {cs : List Value} (h : Ag w b cs) (j : Nat) (v : Value) (hj : j < cs.length) : Ag (w.setCell ⟨b, j, none⟩ v) b (cs.set j v) := by
  have ht : w.there b j [v].length := fun i hi => by
    have : i = 0 := by simpa using hi
    subst this
    simpa using h.there j hj
  have hs := World.rangeAt_setCells_same w b j [v] ht
  have e : w.setCells b j [v] = w.setCell ⟨b, j, none⟩ v := rfl
  refine ⟨fun i x hx => ?_, fun i hi => ⟨?_, ?_⟩, Nat.lt_of_lt_of_le h.lt (by rw [← e]; exact (setCells_kp [v] b j w).size)⟩
  · by_cases hij : i = j
    · subst hij
      rw [List.getElem?_set_self hj] at hx
      cases hx
      rw [← e]
      simpa using hs 0 v rfl
    · rw [List.getElem?_set_ne (Ne.symm hij)] at hx
      rw [show (w.setCell ⟨b, j, none⟩ v).cell? ⟨b, 0 + i, none⟩ = w.cell? ⟨b, 0 + i, none⟩ from World.cell?_setCell_other w _ _ v (fun e => by injection e; omega)]
      exact h.cell i x hx
  · rw [← e]
    exact World.isSome_setCells b [v] j w _ (h.there i (by simpa using hi)).1
  · rw [← e, World.frozen?_setCells]
    exact (h.there i (by simpa using hi)).2
theorem sgC_leaf (who leaf leaf' : Int) (s : Nat → Nat) (pv : Value) : (sgC who leaf s pv).toList.set 1 (.int .i64 leaf') = (sgC who leaf' s pv).toList := rfl
theorem ver_pow (sd : Int) (h : Nat) (hh : h ≤ 8) (m : Nat) (d : Int) (hd : 0 ≤ d) (hm : m < 2 ^ h) : vrS (rootN (pubsL sd (2 ^ h))) (m : Int) (signF (secN sd (m : Int)) d.toNat) (pathN (pubsL sd (2 ^ h)) m) d (h : Int) = true := by
  have hl : (pubsL sd (2 ^ h)).length = 2 ^ h := pubsL_length sd _
  obtain ⟨h1, h2⟩ := path_pow h hh (pubsL sd (2 ^ h)) m hl (by rw [hl]; omega)
  have h3 : (pubsL sd (2 ^ h)).getD m 0 = pubN (secN sd (m : Int)) := by simp [pubsL, List.getD, hm]
  rw [h3] at h2
  have hp : ((2 ^ h : Nat) : Int) = (2 : Int) ^ h := by simp
  unfold vrS
  rw [rec_sign, verN_yes (by rw [h1]; exact ⟨hh, by omega, by rw [← hp]; omega⟩), Int.toNat_natCast, h2, h1]
  simp
theorem path_len (sd : Int) (h : Nat) (hh : h ≤ 8) (m : Nat) (hm : m < 2 ^ h) : (pathN (pubsL sd (2 ^ h)) m).length = h := by
  have hl : (pubsL sd (2 ^ h)).length = 2 ^ h := pubsL_length sd _
  exact (path_pow h hh (pubsL sd (2 ^ h)) m hl (by rw [hl]; omega)).1
end Go.Proofs.YtaeopobofmpioaaGreatDoor

namespace Go.Proofs.YtaeopobofmpioaaGreatDoor
set_option linter.unusedSimpArgs false
set_option linter.unusedVariables false
open Go.RowKit
set_option linter.unusedVariables false
set_option linter.unusedSimpArgs false
structure OwnU (w : World) (B : Nat) (l : List Nat) (v : Value) : Prop where
  out : w.ownsRow B 25 1 v l.length (u64L l)
theorem OwnU.gr {w w' : World} {B : Nat} {l : List Nat} {v : Value} (h : OwnU w B l v) (g : Grew w w') : OwnU w' B l v := ⟨ownsRow_gr h.out g⟩
theorem PV.kp {S : Nat → Prop} {w w' : World} {B : Nat} {l : List Nat} {v : Value} (h : PV w B l v) (k : Kp S w w') (hs : ∀ i, S i → i < B) : PV w' B l v := by
  obtain ⟨A, c, h1, h2, h3⟩ := h.out
  exact ⟨A, c, h1, (h2.kp k (Nat.le_refl _) (fun ad e _ hS => by have h4 := h3 ad e; have h5 := hs _ hS; omega)).more k.size, h3⟩
theorem pv_one (y : World) (t : TypeId) (q : Nat) {B : Nat} (h : B ≤ y.heap.size) : PV (y.alloc (.cells #[.int .u64 (q : Nat)] t)) B [q] (.slice (some ⟨y.heap.size, 0, none⟩) 1 1) :=
  ⟨some ⟨y.heap.size, 0, none⟩, 1, rfl, rd_made y t #[.int .u64 (q : Nat)], fun ad e => by cases e; exact h⟩
def rkC (who sd h : Int) (v : Value) (nx rs : Nat) : List Value := [.int .i64 who, .int .u64 sd, .int .i64 h, v, .int .i64 (nx : Int), .int .i64 (rs : Int)]
/-- the reference's key in block b; its leaves in no block of N -/
structure RkAt (w : World) (b : Nat) (N : Nat → Prop) (who sd h : Int) (l : List Nat) (nx rs : Nat) : Prop where
  out : ∃ A c, Ag w b (rkC who sd h (.slice A l.length c) nx rs) ∧ RdN w N A (u64L l)
theorem RkAt.lt {w : World} {b : Nat} {N : Nat → Prop} {who sd h : Int} {l : List Nat} {nx rs : Nat} (k : RkAt w b N who sd h l nx rs) : b < w.heap.size := by
  obtain ⟨A, c, z, _⟩ := k.out
  exact z.lt
theorem RkAt.kp {S : Nat → Prop} {w w' : World} {b : Nat} {N : Nat → Prop} {who sd h : Int} {l : List Nat} {nx rs : Nat} (k : RkAt w b N who sd h l nx rs) (t : Kp S w w') (hb : ¬ S b) (hs : ∀ i, S i → N i) : RkAt w' b N who sd h l nx rs := by
  obtain ⟨A, c, z, r⟩ := k.out
  exact ⟨A, c, z.kp t hb, r.kp t hs⟩
theorem RkAt.grew {w w' : World} {b : Nat} {N : Nat → Prop} {who sd h : Int} {l : List Nat} {nx rs : Nat} (k : RkAt w b N who sd h l nx rs) (t : Grew w w') : RkAt w' b N who sd h l nx rs := k.kp (S := fun _ => False) (kp_grew t) (fun h => h) (fun _ h => h.elim)
theorem RkAt.chg {w : World} {b : Nat} {N N' : Nat → Prop} {who sd h : Int} {l : List Nat} {nx rs : Nat} (k : RkAt w b N who sd h l nx rs) (hn : ∀ i, i < w.heap.size → N' i → N i) : RkAt w b N' who sd h l nx rs := by
  obtain ⟨A, c, z, r⟩ := k.out
  exact ⟨A, c, z, r.chg hn⟩
end Go.Proofs.YtaeopobofmpioaaGreatDoor

namespace Go.Proofs.YtaeopobofmpioaaGreatDoor
set_option linter.unusedSimpArgs false
set_option linter.unusedVariables false
open Go.RowKit
set_option linter.unusedVariables false
set_option linter.unusedSimpArgs false
theorem RkAt.set4 {w : World} {b : Nat} {N : Nat → Prop} {who sd h : Int} {l : List Nat} {nx rs : Nat} (k : RkAt w b N who sd h l nx rs) (hN : N b) (m : Nat) : RkAt (w.setCell ⟨b, 4, none⟩ (.int .i64 (m : Int))) b N who sd h l m rs := by
  obtain ⟨A, c, z, r⟩ := k.out
  exact ⟨A, c, Ag.set1 z 4 (.int .i64 (m : Int)) (by simp [rkC]), r.kp (kp_tn (tn_set (g := b) (tn_refl _ w) (p := ⟨b, 4, none⟩) (.inl rfl) _)) (fun i e => e ▸ hN)⟩
theorem RkAt.set5 {w : World} {b : Nat} {N : Nat → Prop} {who sd h : Int} {l : List Nat} {nx rs : Nat} (k : RkAt w b N who sd h l nx rs) (hN : N b) (m : Nat) : RkAt (w.setCell ⟨b, 5, none⟩ (.int .i64 (m : Int))) b N who sd h l nx m := by
  obtain ⟨A, c, z, r⟩ := k.out
  exact ⟨A, c, Ag.set1 z 5 (.int .i64 (m : Int)) (by simp [rkC]), r.kp (kp_tn (tn_set (g := b) (tn_refl _ w) (p := ⟨b, 5, none⟩) (.inl rfl) _)) (fun i e => e ▸ hN)⟩
theorem RkAt.drewN {w : World} {b : Nat} {N : Nat → Prop} {who sd h : Int} {l : List Nat} {nx rs : Nat} (k : RkAt w b N who sd h l nx rs) (n : Nat) : RkAt (w.drewN n) b N who sd h l nx rs := k.grew (grew_drewN (grew_refl w) n)
end Go.Proofs.YtaeopobofmpioaaGreatDoor

namespace Go.Proofs.YtaeopobofmpioaaGreatDoor
set_option linter.unusedSimpArgs false
set_option linter.unusedVariables false
open Go.RowKit
set_option linter.unusedVariables false
set_option linter.unusedSimpArgs false
set_option maxRecDepth 100000 in
theorem rg_zero : Tryz.prog.built 28 [] = some (#[.int .i64 0, .int .i64 0, .int .u64 0, .int .u64 0, .int .u64 0, .int .u64 0, .int .u64 0, .int .u64 0, .int .u64 0, .int .u64 0, .int .u64 0, .int .u64 0, .int .u64 0, .int .u64 0, .int .u64 0, .int .u64 0, .int .u64 0, .int .u64 0, .int .u64 0, .int .u64 0, .slice none 0 0]) := by kernel_rfl
theorem alloc_rsig (w : World) : Ag (w.alloc (.cells (#[.int .i64 0, .int .i64 0, .int .u64 0, .int .u64 0, .int .u64 0, .int .u64 0, .int .u64 0, .int .u64 0, .int .u64 0, .int .u64 0, .int .u64 0, .int .u64 0, .int .u64 0, .int .u64 0, .int .u64 0, .int .u64 0, .int .u64 0, .int .u64 0, .int .u64 0, .int .u64 0, .slice none 0 0]) 28)) w.heap.size (#[.int .i64 0, .int .i64 0, .int .u64 0, .int .u64 0, .int .u64 0, .int .u64 0, .int .u64 0, .int .u64 0, .int .u64 0, .int .u64 0, .int .u64 0, .int .u64 0, .int .u64 0, .int .u64 0, .int .u64 0, .int .u64 0, .int .u64 0, .int .u64 0, .int .u64 0, .int .u64 0, .slice none 0 0]).toList := Ag.new _ _ _
end Go.Proofs.YtaeopobofmpioaaGreatDoor

namespace Go.Proofs.YtaeopobofmpioaaGreatDoor
set_option linter.unusedSimpArgs false
set_option linter.unusedVariables false
open Go.RowKit
set_option linter.unusedVariables false
set_option linter.unusedSimpArgs false
section
variable (l : List Nat) (nx rs : Nat) (who sd d n : Int)
def soW : Int := if l.length ≤ nx then 0 else if rs ≤ nx then 0 else who
def soL : Int := if l.length ≤ nx then 0 else if rs ≤ nx then 0 else (nx : Int)
noncomputable def soS : Nat → Nat := if l.length ≤ nx then fun _ => 0 else if rs ≤ nx then fun _ => 0 else signF (secN sd nx) d.toNat
noncomputable def soP : List Nat := if l.length ≤ nx then [] else if rs ≤ nx then [] else pathN l nx
def soE : Int := if l.length ≤ nx then 14 else if rs ≤ nx then 16 else 0
def soN : Nat := if l.length ≤ nx then nx else if rs ≤ nx then nx else nx + 1
def reV : Int := if n < 1 then 0 else if (l.length : Int) - rs < n then 0 else (rs : Int) + n
def reE : Int := if n < 1 then 1 else if (l.length : Int) - rs < n then 14 else 0
def reR : Nat := if n < 1 then rs else if (l.length : Int) - rs < n then rs else rs + n.toNat
def skE : Int := if n < nx ∨ (l.length : Int) < n then 1 else 0
def skN : Nat := if n < nx ∨ (l.length : Int) < n then nx else n.toNat
def skR : Nat := if n < nx ∨ (l.length : Int) < n then rs else max rs n.toNat
end
theorem soN_le (l : List Nat) (nx rs : Nat) (h : nx ≤ l.length) : soN l nx rs ≤ l.length := by unfold soN; split <;> (try split) <;> omega
theorem reR_le (l : List Nat) (rs : Nat) (n : Int) (h : rs ≤ l.length) : reR l rs n ≤ l.length := by unfold reR; split <;> (try split) <;> omega
theorem skN_le (l : List Nat) (nx : Nat) (n : Int) (h : nx ≤ l.length) : skN l nx n ≤ l.length := by unfold skN; split <;> omega
theorem skR_le (l : List Nat) (nx rs : Nat) (n : Int) (h : rs ≤ l.length) : skR l nx rs n ≤ l.length := by unfold skR; split <;> omega
theorem soP_len (l : List Nat) (nx rs : Nat) (h : ∀ m, m < l.length → (pathN l m).length ≤ 8) : (soP l nx rs).length ≤ 8 := by
  unfold soP; split
  · simp
  · split
    · simp
    · exact h nx (by omega)
theorem rd_none (w : World) : Rd w w.heap.size none (u64L []) := fun k hk => absurd hk (by simp [u64L])
set_option maxRecDepth 100000 in
theorem ksign_any (b p : Nat) (who sd : Int) (l : List Nat) (nx rs : Nat) (hl : l.length ≤ 256) (hn : nx ≤ l.length) (hr : rs ≤ l.length) (d : Int) (hkk : leavesOk l.length = true) (hbb : ∀ n ∈ l, n < 18446744073709551616) (hsd : U64 sd) (hd : U64 d) (w : World) (h : KyAt w b p who sd l nx rs) :
    Calls Tryz.prog 99 #[.pointer (some ⟨b, 0, none⟩), .int .u64 d] w fun e w' => (∃ A c, e = .returned (.tuple #[.agg (sgC (soW l nx rs who) (soL l nx rs) (soS l nx rs sd d) (.slice A (soP l nx rs).length c)), .int .i64 (soE l nx rs)]) ∧ Rd w' w'.heap.size A (u64L (soP l nx rs)) ∧ (∀ ad, A = some ad → w.heap.size ≤ ad.block)) ∧ Tn b w w' ∧ KyAt w' b p who sd l (soN l nx rs) rs := by
  unfold soW soL soS soP soE soN
  by_cases h1 : l.length ≤ nx
  · simp only [if_pos h1]
    refine (sign_spent b p who sd l nx rs hl hn hr d (by omega) w h).mono ?_
    rintro e w' ⟨rfl, g⟩
    exact ⟨⟨none, 0, rfl, rd_none _, fun ad h => by cases h⟩, tn_grew g, h.grew g⟩
  · simp only [if_neg h1]
    by_cases h2 : rs ≤ nx
    · simp only [if_pos h2]
      refine (sign_state b p who sd l nx rs hl hn hr d (by omega) h2 w h).mono ?_
      rintro e w' ⟨rfl, g⟩
      exact ⟨⟨none, 0, rfl, rd_none _, fun ad h => by cases h⟩, tn_grew g, h.grew g⟩
    · simp only [if_neg h2]
      exact sign_ok b p who sd l nx rs hl hn hr d (by omega) (by omega) hkk hbb hsd hd w h
theorem kres_any (b p : Nat) (who sd : Int) (l : List Nat) (nx rs : Nat) (hl : l.length ≤ 256) (hn : nx ≤ l.length) (hr : rs ≤ l.length) (n : Int) (w : World) (h : KyAt w b p who sd l nx rs) :
    Calls Tryz.prog 97 #[.pointer (some ⟨b, 0, none⟩), .int .i64 n] w fun e w' => e = .returned (.tuple #[.int .i64 (reV l rs n), .int .i64 (reE l rs n)]) ∧ Tn b w w' ∧ KyAt w' b p who sd l nx (reR l rs n) := by
  unfold reV reE reR
  by_cases h1 : n < 1
  · simp only [if_pos h1]
    exact reserve_no b p who sd l nx rs hl hn hr n h1 w h
  · simp only [if_neg h1]
    by_cases h2 : (l.length : Int) - rs < n
    · simp only [if_pos h2]
      exact reserve_spent b p who sd l nx rs hl hn hr n (by omega) h2 w h
    · simp only [if_neg h2]
      obtain ⟨m, rfl⟩ := Int.eq_ofNat_of_zero_le (show 0 ≤ n by omega)
      rw [Int.toNat_natCast]
      have := reserve_ok b p who sd l nx rs hl hn hr m (by omega) (by omega) w h
      rwa [show ((rs + m : Nat) : Int) = (rs : Int) + (m : Int) by omega] at this
end Go.Proofs.YtaeopobofmpioaaGreatDoor

namespace Go.Proofs.YtaeopobofmpioaaGreatDoor
set_option linter.unusedSimpArgs false
set_option linter.unusedVariables false
open Go.RowKit
set_option linter.unusedVariables false
set_option linter.unusedSimpArgs false
/-- what a look at one mark comes to -/
noncomputable def ckE (R : List Nat) (h : Int) (n : Nat) (d : Nat) (sw lf : Int) (s : Nat → Nat) (l : List Nat) : Int :=
  if R.length ≤ n then 7 else if sw = (n : Int) then (if vrS (R.getD n 0) lf s l (d : Int) h = true then 0 else 7) else 7
set_option maxRecDepth 100000 in
set_option maxHeartbeats 4000000 in
theorem scheck_ok (R : List Nat) (RA : Option Addr) (Rc : Nat) (h : Int) (cm n : Nat) (at_ sw lf : Int) (s : Nat → Nat) (A : Option Addr) (c : Nat) (l : List Nat) (hc : cm < 18446744073709551616) (hw : in64 (n : Int)) (ha : in64 at_) (hsw : in64 sw) (hlf : in64 lf) (hl : l.length ≤ 1000) (hs : ∀ k, k < 18 → s k < 18446744073709551616) (hb : ∀ x ∈ l, x < 18446744073709551616)
    (hRl : R.length ≤ 1000) (hRb : ∀ x ∈ R, x < 18446744073709551616) (q : Nat) (w : World) (hS : Std w) (hrR : Rd w w.heap.size RA (u64L R)) (hrl : Rd w w.heap.size A (u64L l)) (hq : w.rangeAt q 0 (stC cm (n : Int) at_ sw lf s (.slice A l.length c)).toList) (hql : q < w.heap.size) :
    Calls Tryz.prog 81 #[.slice RA R.length Rc, .int .i64 h, .func (.func 82) #[] #[], .slice (some ⟨q, 0, none⟩) 1 1] w fun e w' => e = .returned (.int .i64 (ckE R h n (stD cm (n : Int) at_) sw lf s l)) ∧ Grew w w' := by
  have hus := Tryz.underlying42
  have hut := Tryz.underlying44
  have hum := Tryz.underlying216
  have HST : Hid ((Tryz.prog.info? 44).map (·.size) = some (stC cm (n : Int) at_ sw lf s (.slice A l.length c)).toList.length) := Lib.hid st_info
  have HSI : Hid ((Tryz.prog.info? 44).map (·.size) = some (stC cm (n : Int) at_ sw lf s (.slice A l.length c)).size) := Lib.hid st_info
  have HSM : Hid ((Tryz.prog.info? 216).map (·.size) = some (mkC (n : Int) (stD cm (n : Int) at_) sw lf s (.slice A l.length c)).size) := Lib.hid mk_info
  have HSG : Hid ((Tryz.prog.info? 42).map (·.size) = some (sgC sw lf s (.slice A l.length c)).toList.length) := Lib.hid sg_info
  have HOS := Lib.hid (stC_one cm (n : Int) at_ sw lf s A l.length c)
  have HOM := Lib.hid (mkC_one (n : Int) (stD cm (n : Int) at_) sw lf s A l.length c)
  have CM := Lib.hid (fun W hW => mark_ok cm (n : Int) at_ sw lf s A c l hc hw ha W hW)
  have hdl := stD_lt cm (n : Int) at_
  have CVV := Lib.hid (fun W h1 => kverify_ok (R.getD n 0) sw lf s A c l (stD cm (n : Int) at_ : Nat) h (by omega) hlf hs hb ⟨by omega, by omega⟩ W h1)
  obtain ⟨d, hd⟩ : ∃ d, stD cm (n : Int) at_ = d := ⟨_, rfl⟩
  rw [hd] at CM HSM HOM CVV ⊢
  have HS := Lib.hid hS
  have HRR := Lib.hid hrR
  have HRL := Lib.hid hrl
  have hn0 : (0 : Int) ≤ (n : Int) := by omega
  clear hd hdl hS hrR hrl hc hw ha hl hs hb hRb
  go_enter Tryz.func81, Tryz.ntmps81
  go_wp2_with fail
  go_loopw [14] (fun iv wr => (iv = .int .i64 0 ∧ wr.rangeAt q 0 (stC cm (n : Int) at_ sw lf s (.slice A l.length c)).toList ∧ Grew w wr) ∨ (iv = .int .i64 1 ∧ ckE R h n d sw lf s l = 0 ∧ Grew w wr)) (fun iv _ => 1 - (intOf iv).toNat)
  case atStart => exact .inl ⟨rfl, hq, grew_refl _⟩
  case round =>
    clear hq
    rcases hrel with ⟨rfl, hq, G⟩ | ⟨rfl, hE, G⟩
    · have zt := Ag.new wr 44 (#[.int .u64 0, .int .i64 0, .int .i64 0, .int .i64 0, .int .i64 0, .int .u64 0, .int .u64 0, .int .u64 0, .int .u64 0, .int .u64 0, .int .u64 0, .int .u64 0, .int .u64 0, .int .u64 0, .int .u64 0, .int .u64 0, .int .u64 0, .int .u64 0, .int .u64 0, .int .u64 0, .int .u64 0, .int .u64 0, .int .u64 0, .slice none 0 0])
      have HTH : Hid ((wr.alloc (.cells (#[.int .u64 0, .int .i64 0, .int .i64 0, .int .i64 0, .int .i64 0, .int .u64 0, .int .u64 0, .int .u64 0, .int .u64 0, .int .u64 0, .int .u64 0, .int .u64 0, .int .u64 0, .int .u64 0, .int .u64 0, .int .u64 0, .int .u64 0, .int .u64 0, .int .u64 0, .int .u64 0, .int .u64 0, .int .u64 0, .int .u64 0, .slice none 0 0]) 44)).there wr.heap.size 0 (stC cm (n : Int) at_ sw lf s (.slice A l.length c)).size) := Lib.hid (zt.thereN 24 rfl)
      have z1 := Ag.set (vs := (stC cm (n : Int) at_ sw lf s (.slice A l.length c)).toList) zt rfl
      have g1 : Grew wr ((wr.alloc (.cells (#[.int .u64 0, .int .i64 0, .int .i64 0, .int .i64 0, .int .i64 0, .int .u64 0, .int .u64 0, .int .u64 0, .int .u64 0, .int .u64 0, .int .u64 0, .int .u64 0, .int .u64 0, .int .u64 0, .int .u64 0, .int .u64 0, .int .u64 0, .int .u64 0, .int .u64 0, .int .u64 0, .int .u64 0, .int .u64 0, .int .u64 0, .slice none 0 0]) 44)).setCells wr.heap.size 0 (stC cm (n : Int) at_ sw lf s (.slice A l.length c)).toList) := setCells_grew (o := 0) (b := wr.heap.size) (stC cm (n : Int) at_ sw lf s (.slice A l.length c)).toList (grew_alloc (grew_refl wr) _) (Nat.le_refl _)
      obtain ⟨w2, hw2⟩ : ∃ v, (wr.alloc (.cells (#[.int .u64 0, .int .i64 0, .int .i64 0, .int .i64 0, .int .i64 0, .int .u64 0, .int .u64 0, .int .u64 0, .int .u64 0, .int .u64 0, .int .u64 0, .int .u64 0, .int .u64 0, .int .u64 0, .int .u64 0, .int .u64 0, .int .u64 0, .int .u64 0, .int .u64 0, .int .u64 0, .int .u64 0, .int .u64 0, .int .u64 0, .slice none 0 0]) 44)).setCells wr.heap.size 0 (stC cm (n : Int) at_ sw lf s (.slice A l.length c)).toList = v := ⟨_, rfl⟩
      rw [hw2] at z1 g1
      have HW2 := Lib.hid hw2
      have G2 := grew_trans G g1
      have hm1 := z1.cell
      clear hw2 zt g1
      go_wp2_with (first
        | (with_reducible refine wpList_load_mid rfl 44 (.tmp 16) rfl q 0 rfl (stC cm (n : Int) at_ sw lf s (.slice A l.length c)).toList _ hq hut rfl HST.out ?_)
        | (with_reducible refine wpList_store_mid rfl 44 (.tmp 10) (.tmp 17) rfl wr.heap.size 0 (stC cm (n : Int) at_ sw lf s (.slice A l.length c)) rfl rfl HTH.out HSI.out HOS.out ?_; rw [HW2.out]; clear HW2 HTH; generalize wr.heap.size = q1 at *)
        | (with_reducible refine wpList_load_mid rfl 44 (.tmp 10) rfl q1 0 rfl (stC cm (n : Int) at_ sw lf s (.slice A l.length c)).toList _ hm1 hut rfl HST.out ?_))
      refine (CM.out w2 (HS.out.grew G2)).mono ?_
      rintro e w3 ⟨rfl, gg⟩
      have G3 := grew_trans G2 gg
      clear hq G G2 gg z1 hm1
      have zt := Ag.new w3 216 (#[.int .i64 0, .int .u64 0, .int .i64 0, .int .i64 0, .int .u64 0, .int .u64 0, .int .u64 0, .int .u64 0, .int .u64 0, .int .u64 0, .int .u64 0, .int .u64 0, .int .u64 0, .int .u64 0, .int .u64 0, .int .u64 0, .int .u64 0, .int .u64 0, .int .u64 0, .int .u64 0, .int .u64 0, .int .u64 0, .slice none 0 0])
      have HTH : Hid ((w3.alloc (.cells (#[.int .i64 0, .int .u64 0, .int .i64 0, .int .i64 0, .int .u64 0, .int .u64 0, .int .u64 0, .int .u64 0, .int .u64 0, .int .u64 0, .int .u64 0, .int .u64 0, .int .u64 0, .int .u64 0, .int .u64 0, .int .u64 0, .int .u64 0, .int .u64 0, .int .u64 0, .int .u64 0, .int .u64 0, .int .u64 0, .slice none 0 0]) 216)).there w3.heap.size 0 (mkC (n : Int) d sw lf s (.slice A l.length c)).size) := Lib.hid (zt.thereN 23 rfl)
      have z4 := Ag.set (vs := (mkC (n : Int) d sw lf s (.slice A l.length c)).toList) zt rfl
      have g4 : Grew w3 ((w3.alloc (.cells (#[.int .i64 0, .int .u64 0, .int .i64 0, .int .i64 0, .int .u64 0, .int .u64 0, .int .u64 0, .int .u64 0, .int .u64 0, .int .u64 0, .int .u64 0, .int .u64 0, .int .u64 0, .int .u64 0, .int .u64 0, .int .u64 0, .int .u64 0, .int .u64 0, .int .u64 0, .int .u64 0, .int .u64 0, .int .u64 0, .slice none 0 0]) 216)).setCells w3.heap.size 0 (mkC (n : Int) d sw lf s (.slice A l.length c)).toList) := setCells_grew (o := 0) (b := w3.heap.size) (mkC (n : Int) d sw lf s (.slice A l.length c)).toList (grew_alloc (grew_refl w3) _) (Nat.le_refl _)
      obtain ⟨w5, hw5⟩ : ∃ v, (w3.alloc (.cells (#[.int .i64 0, .int .u64 0, .int .i64 0, .int .i64 0, .int .u64 0, .int .u64 0, .int .u64 0, .int .u64 0, .int .u64 0, .int .u64 0, .int .u64 0, .int .u64 0, .int .u64 0, .int .u64 0, .int .u64 0, .int .u64 0, .int .u64 0, .int .u64 0, .int .u64 0, .int .u64 0, .int .u64 0, .int .u64 0, .slice none 0 0]) 216)).setCells w3.heap.size 0 (mkC (n : Int) d sw lf s (.slice A l.length c)).toList = v := ⟨_, rfl⟩
      rw [hw5] at z4 g4
      have HW5 := Lib.hid hw5
      have G5 := grew_trans G3 g4
      clear hw5 zt g4 G3
      go_wp2_with (with_reducible refine wpList_store_mid rfl 216 (.tmp 11) (.tmp 20) rfl w3.heap.size 0 (mkC (n : Int) d sw lf s (.slice A l.length c)) rfl rfl HTH.out HSM.out HOM.out ?_; rw [HW5.out]; clear HW5 HTH; generalize w3.heap.size = q2 at *)
      simp only [Act.put]
      have m0 : ∀ y : Gr w5, y.val.cell? ⟨q2, 0, none⟩ = some (.int .i64 (n : Int)) := fun y => by simpa using (z4.gr y).cell 0 _ rfl
      have m1 : ∀ y : Gr w5, y.val.cell? ⟨q2, 1, none⟩ = some (.int .u64 (d : Nat)) := fun y => by simpa using (z4.gr y).cell 1 _ rfl
      have m2 : ∀ y : Gr w5, y.val.cell? ⟨q2, 2, none⟩ = some (.int .i64 sw) := fun y => by simpa using (z4.gr y).cell 2 _ rfl
      have qm : Hid (∀ y : Gr w5, y.val.rangeAt q2 2 (sgC sw lf s (.slice A l.length c)).toList) := Lib.hid (fun y => mk_sig (z4.gr y).cell)
      have CV := Lib.hid (fun (y : Gr w5) => CVV.out y.val ((HRL.out.gr G5).gr y.ok))
      have h00 : ¬ (n : Int) < 0 := by omega
      clear z4
      by_cases hA : R.length ≤ n
      · have HE : Hid (ckE R h n d sw lf s l = 7) := Lib.hid (by unfold ckE; rw [if_pos hA])
        have e1 : (R.length : Int) ≤ (n : Int) := by omega
        refine wp_region_grew (grew_refl w5) (by kernel_rfl) (by kernel_rfl) ?_
        repeat (first
          | (go_big_quiet_want; refine quiet_load_mid 42 (.tmp 45) rfl q2 2 rfl (sgC sw lf s (.slice A l.length c)).toList _ qm.out hus rfl HSG.out ?_; simp only [Act.put, List.setIfInBounds_toArray, List.set_cons_succ, List.set_cons_zero, Array.toArray_toList]; go_big_quiet_on)
          | (go_big_quiet_step ((go_at_call 137; exact callG (CV.out _)))))
        refine wpQuiet_nil ?_
        rintro w8 ⟨⟨w8', g8⟩, rfl⟩
        have G8 := grew_trans G5 g8
        go_wp2_with fail
        go_ret
        exact ⟨by rw [HE.out]; rfl, G8⟩
      · have hA1 : ¬ (R.length : Int) ≤ (n : Int) := by omega
        have hnR : n < R.length := by omega
        have hgd : R.getD n 0 = R[n] := by simp [List.getD, hnR]
        obtain ⟨ad, hRA, -, hc0⟩ := rd_u64 (HRR.out.gr G5) n hnR
        subst hRA
        have mr : ∀ y : Gr w5, y.val.cell? (ad.add n) = some (.int .u64 ((R.getD n 0 : Nat) : Int)) := fun y => by
          obtain ⟨ad', e, -, hc1⟩ := rd_u64 ((HRR.out.gr G5).gr y.ok) n hnR
          cases e
          rw [hgd]; exact hc1
        clear hgd hc0
        have hnRi : (n : Int) < (R.length : Int) := by omega
        by_cases hB : sw = (n : Int)
        · have HE0 : Hid (ckE R h n d sw lf s l = if vrS (R.getD n 0) lf s l (d : Int) h = true then 0 else 7) := Lib.hid (by unfold ckE; rw [if_neg hA, if_pos hB])
          generalize R.getD n 0 = r at *
          have e2 : (sw != (n : Int)) = false := by simp [hB]
          obtain ⟨vb, hvb⟩ : ∃ v, vrS r lf s l (d : Int) h = v := ⟨_, rfl⟩
          rw [hvb] at CV CVV HE0
          clear hvb CVV hB
          cases vb
          · have HE : Hid (ckE R h n d sw lf s l = 7) := Lib.hid (by rw [HE0.out, if_neg (by simp)])
            clear HE0
            refine wp_region_grew (grew_refl w5) (by kernel_rfl) (by kernel_rfl) ?_
            repeat (first
              | (go_big_quiet_want; refine quiet_load_mid 42 (.tmp 45) rfl q2 2 rfl (sgC sw lf s (.slice A l.length c)).toList _ qm.out hus rfl HSG.out ?_; simp only [Act.put, List.setIfInBounds_toArray, List.set_cons_succ, List.set_cons_zero, Array.toArray_toList]; go_big_quiet_on)
              | (go_big_quiet_step ((go_at_call 137; exact callG (CV.out _)))))
            refine wpQuiet_nil ?_
            rintro w8 ⟨⟨w8', g8⟩, rfl⟩
            have G8 := grew_trans G5 g8
            go_wp2_with fail
            go_ret
            exact ⟨by rw [HE.out]; rfl, G8⟩
          · have HE : Hid (ckE R h n d sw lf s l = 0) := Lib.hid (by rw [HE0.out, if_pos rfl])
            clear HE0
            refine wp_region_grew (grew_refl w5) (by kernel_rfl) (by kernel_rfl) ?_
            repeat (first
              | (go_big_quiet_want; refine quiet_load_mid 42 (.tmp 45) rfl q2 2 rfl (sgC sw lf s (.slice A l.length c)).toList _ qm.out hus rfl HSG.out ?_; simp only [Act.put, List.setIfInBounds_toArray, List.set_cons_succ, List.set_cons_zero, Array.toArray_toList]; go_big_quiet_on)
              | (go_big_quiet_step ((go_at_call 137; exact callG (CV.out _)))))
            refine wpQuiet_nil ?_
            rintro w8 ⟨⟨w8', g8⟩, rfl⟩
            have G8 := grew_trans G5 g8
            go_wp2_with fail
            go_roundw
            case rel => exact .inr ⟨by go_num, HE.out, G8⟩
            case measure => simp [intOf]
        · have HE : Hid (ckE R h n d sw lf s l = 7) := Lib.hid (by unfold ckE; rw [if_neg hA, if_neg hB])
          generalize R.getD n 0 = r at *
          have e2 : (sw != (n : Int)) = true := by simp [hB]
          clear hB
          refine wp_region_grew (grew_refl w5) (by kernel_rfl) (by kernel_rfl) ?_
          repeat (first
            | (go_big_quiet_want; refine quiet_load_mid 42 (.tmp 45) rfl q2 2 rfl (sgC sw lf s (.slice A l.length c)).toList _ qm.out hus rfl HSG.out ?_; simp only [Act.put, List.setIfInBounds_toArray, List.set_cons_succ, List.set_cons_zero, Array.toArray_toList]; go_big_quiet_on)
            | (go_big_quiet_step ((go_at_call 137; exact callG (CV.out _)))))
          refine wpQuiet_nil ?_
          rintro w8 ⟨⟨w8', g8⟩, rfl⟩
          have G8 := grew_trans G5 g8
          go_wp2_with fail
          go_ret
          exact ⟨by rw [HE.out]; rfl, G8⟩
    · go_wp2_with fail
      go_ret
      exact ⟨by rw [hE]; rfl, G⟩
end Go.Proofs.YtaeopobofmpioaaGreatDoor

namespace Go.Proofs.YtaeopobofmpioaaGreatDoor
set_option linter.unusedSimpArgs false
set_option linter.unusedVariables false
open Go.RowKit
set_option linter.unusedVariables false
set_option linter.unusedSimpArgs false
set_option maxRecDepth 100000 in
theorem st_fold (cm : Nat) (who at_ sw lf : Int) (s : Nat → Nat) (A : Option Addr) (n c : Nat) : Array.foldl (fun (cs : Array Value) (x : Value × Nat) => cs.setIfInBounds x.snd x.fst) (#[.int .u64 0, .int .i64 0, .int .i64 0, .int .i64 0, .int .i64 0, .int .u64 0, .int .u64 0, .int .u64 0, .int .u64 0, .int .u64 0, .int .u64 0, .int .u64 0, .int .u64 0, .int .u64 0, .int .u64 0, .int .u64 0, .int .u64 0, .int .u64 0, .int .u64 0, .int .u64 0, .int .u64 0, .int .u64 0, .int .u64 0, .slice none 0 0]) (stC cm who at_ sw lf s (.slice A n c)).zipIdx 0 24 = stC cm who at_ sw lf s (.slice A n c) := by kernel_rfl
def kyS (f : Int) (RA : Option Addr) (n c : Nat) (h : Int) : Array Value := #[.int .i64 f, .slice RA n c, .int .i64 h]
noncomputable def vaE (f : Int) (R : List Nat) (h : Int) (cm : Nat) (who at_ sw lf : Int) (s : Nat → Nat) (l : List Nat) : Int :=
  if who < 0 then 1 else if 3 * f + 1 ≤ who then 1 else if tmB at_ = true then ckE R h who.toNat (stD cm who at_) sw lf s l else 1
def cyE (f : Int) (n : Nat) (h : Int) : Int := if f < 1 ∨ 3 < f then 1 else if (n : Int) = 3 * f + 1 ∧ 0 ≤ h ∧ h ≤ 8 then 0 else 1
set_option maxRecDepth 100000 in
set_option maxHeartbeats 2000000 in
theorem stvalid_ok (f : Int) (hf : 1 ≤ f ∧ f ≤ 3) (R : List Nat) (RA : Option Addr) (Rc : Nat) (h : Int) (cm : Nat) (who at_ sw lf : Int) (s : Nat → Nat) (A : Option Addr) (c : Nat) (l : List Nat) (hc : cm < 18446744073709551616) (hw : in64 who) (ha : in64 at_) (hsw : in64 sw) (hlf : in64 lf) (hl : l.length ≤ 1000) (hs : ∀ k, k < 18 → s k < 18446744073709551616) (hb : ∀ x ∈ l, x < 18446744073709551616)
    (hRl : R.length ≤ 1000) (hRb : ∀ x ∈ R, x < 18446744073709551616) (w : World) (hS : Std w) (hrR : Rd w w.heap.size RA (u64L R)) (hrl : Rd w w.heap.size A (u64L l)) :
    Calls Tryz.prog 26 #[.agg (kyS f RA R.length Rc h), .agg (stC cm who at_ sw lf s (.slice A l.length c))] w fun e w' => e = .returned (.int .i64 (vaE f R h cm who at_ sw lf s l)) ∧ Grew w w' := by
  have hut := Tryz.underlying44
  have huf := Tryz.underlying33
  have HST : Hid ((Tryz.prog.info? 44).map (·.size) = some (stC cm who at_ sw lf s (.slice A l.length c)).toList.length) := Lib.hid st_info
  have HCF : Hid ((Tryz.prog.info? 33).map (·.size) = some [Value.int .i64 f].length) := Lib.hid (by kernel_rfl)
  have CN := Lib.hid (fun W => qn_ok f hf W)
  have CT := Lib.hid (fun W => isTime_ok at_ W)
  have zk := (Ag.new w 36 (kyS f RA R.length Rc h)).grew (grew_alloc (grew_refl _) (.cells (stC cm who at_ sw lf s (.slice A l.length c)) 44))
  have zs : Ag ((w.alloc (.cells (kyS f RA R.length Rc h) 36)).alloc (.cells (stC cm who at_ sw lf s (.slice A l.length c)) 44)) (w.heap.size + 1) (stC cm who at_ sw lf s (.slice A l.length c)).toList := by
    have := Ag.new (w.alloc (.cells (kyS f RA R.length Rc h) 36)) 44 (stC cm who at_ sw lf s (.slice A l.length c))
    simpa using this
  have G1 := grew_alloc (grew_alloc (grew_refl w) (.cells (kyS f RA R.length Rc h) 36)) (.cells (stC cm who at_ sw lf s (.slice A l.length c)) 44)
  have HS := Lib.hid hS
  have HR := Lib.hid hrR
  have HL := Lib.hid hrl
  have HRb := Lib.hid hRb
  have HB := Lib.hid hb
  have HSS := Lib.hid hs
  have h3f : (4 : Int) ≤ 3 * f + 1 ∧ 3 * f + 1 ≤ 10 := by omega
  have HF := Lib.hid hf
  clear hS hrR hrl hRb hb hs hf
  go_enter Tryz.func26, Tryz.ntmps26
  go_wp2_with fail
  generalize (w.alloc (.cells (kyS f RA R.length Rc h) 36)).alloc (.cells (stC cm who at_ sw lf s (.slice A l.length c)) 44) = w1 at *
  have m1 : ∀ y : Gr w1, y.val.cell? ⟨w.heap.size + 1, 1, none⟩ = some (.int .i64 who) := fun y => by simpa using (zs.gr y).cell 1 _ rfl
  have m2 : ∀ y : Gr w1, y.val.cell? ⟨w.heap.size + 1, 2, none⟩ = some (.int .i64 at_) := fun y => by simpa using (zs.gr y).cell 2 _ rfl
  have qf : Hid (∀ y : Gr w1, y.val.rangeAt w.heap.size 0 [.int .i64 f]) := Lib.hid (fun y j v hj => by
    have hj0 : j = 0 := by have := (List.getElem?_eq_some_iff.1 hj).1; simpa using this
    subst hj0
    have h0 : v = .int .i64 f := by simpa using hj.symm
    rw [h0]
    exact (zk.gr y).cell 0 _ rfl)
  obtain ⟨nn, hnn⟩ : ∃ nn, 3 * f + 1 = nn := ⟨_, rfl⟩
  rw [hnn] at CN h3f
  have HNN := Lib.hid hnn
  clear hnn
  by_cases hA : who < 0
  · have HE : Hid (vaE f R h cm who at_ sw lf s l = 1) := Lib.hid (by unfold vaE; rw [if_pos hA])
    refine wp_region_grew (grew_refl w1) (by kernel_rfl) (by kernel_rfl) ?_
    repeat (first
      | (go_big_quiet_want; refine quiet_load_mid 33 (.tmp 11) rfl w.heap.size 0 rfl [.int .i64 f] _ qf.out huf rfl HCF.out ?_; simp only [Act.put, List.setIfInBounds_toArray, List.set_cons_succ, List.set_cons_zero, Array.toArray_toList]; go_big_quiet_on)
      | (go_big_quiet_step (first
        | (go_at_call 72; exact callG (CN.out _))
        | (go_at_call 80; exact callS (CT.out _)))))
    refine wpQuiet_nil ?_
    rintro w8 ⟨⟨w8', g8⟩, rfl⟩
    have G8 := grew_trans G1 g8
    go_wp2_with fail
    go_ret
    exact ⟨by rw [HE.out]; rfl, G8⟩
  by_cases hB : nn ≤ who
  · have HE : Hid (vaE f R h cm who at_ sw lf s l = 1) := Lib.hid (by unfold vaE; rw [if_neg hA, HNN.out, if_pos hB])
    refine wp_region_grew (grew_refl w1) (by kernel_rfl) (by kernel_rfl) ?_
    repeat (first
      | (go_big_quiet_want; refine quiet_load_mid 33 (.tmp 11) rfl w.heap.size 0 rfl [.int .i64 f] _ qf.out huf rfl HCF.out ?_; simp only [Act.put, List.setIfInBounds_toArray, List.set_cons_succ, List.set_cons_zero, Array.toArray_toList]; go_big_quiet_on)
      | (go_big_quiet_step (first
        | (go_at_call 72; exact callG (CN.out _))
        | (go_at_call 80; exact callS (CT.out _)))))
    refine wpQuiet_nil ?_
    rintro w8 ⟨⟨w8', g8⟩, rfl⟩
    have G8 := grew_trans G1 g8
    go_wp2_with fail
    go_ret
    exact ⟨by rw [HE.out]; rfl, G8⟩
  have HE0 : Hid (vaE f R h cm who at_ sw lf s l = if tmB at_ = true then ckE R h who.toNat (stD cm who at_) sw lf s l else 1) := Lib.hid (by unfold vaE; rw [if_neg hA, HNN.out, if_neg hB])
  generalize tmB at_ = tb at *
  cases tb
  · have HE : Hid (vaE f R h cm who at_ sw lf s l = 1) := Lib.hid (by rw [HE0.out, if_neg (by simp)])
    clear HE0
    refine wp_region_grew (grew_refl w1) (by kernel_rfl) (by kernel_rfl) ?_
    repeat (first
      | (go_big_quiet_want; refine quiet_load_mid 33 (.tmp 11) rfl w.heap.size 0 rfl [.int .i64 f] _ qf.out huf rfl HCF.out ?_; simp only [Act.put, List.setIfInBounds_toArray, List.set_cons_succ, List.set_cons_zero, Array.toArray_toList]; go_big_quiet_on)
      | (go_big_quiet_step (first
        | (go_at_call 72; exact callG (CN.out _))
        | (go_at_call 80; exact callS (CT.out _)))))
    refine wpQuiet_nil ?_
    rintro w8 ⟨⟨w8', g8⟩, rfl⟩
    have G8 := grew_trans G1 g8
    go_wp2_with fail
    go_ret
    exact ⟨by rw [HE.out]; rfl, G8⟩
  have HE : Hid (vaE f R h cm who at_ sw lf s l = ckE R h who.toNat (stD cm who at_) sw lf s l) := Lib.hid (by rw [HE0.out, if_pos rfl])
  clear HE0
  obtain ⟨n, rfl⟩ := Int.eq_ofNat_of_zero_le (show 0 ≤ who by omega)
  rw [Int.toNat_natCast] at HE
  refine wp_region_grew (grew_refl w1) (by kernel_rfl) (by kernel_rfl) ?_
  repeat (first
    | (go_big_quiet_want; refine quiet_load_mid 33 (.tmp 11) rfl w.heap.size 0 rfl [.int .i64 f] _ qf.out huf rfl HCF.out ?_; simp only [Act.put, List.setIfInBounds_toArray, List.set_cons_succ, List.set_cons_zero, Array.toArray_toList]; go_big_quiet_on)
    | (go_big_quiet_step (first
      | (go_at_call 72; exact callG (CN.out _))
      | (go_at_call 80; exact callS (CT.out _)))))
  refine wpQuiet_nil ?_
  rintro w8 ⟨⟨w8', g8⟩, rfl⟩
  have G8 := grew_trans G1 g8
  have zk8 := zk.grew g8
  have zs8 := zs.grew g8
  have hk1 : w8.cell? ⟨w.heap.size, 1, none⟩ = some (.slice RA R.length Rc) := by simpa using zk8.cell 1 _ rfl
  have hk2 : w8.cell? ⟨w.heap.size, 2, none⟩ = some (.int .i64 h) := by simpa using zk8.cell 2 _ rfl
  have hm := zs8.cell
  have hsz : (stC cm (n : Int) at_ sw lf s (.slice A l.length c)).size = 24 := rfl
  clear m1 m2 qf
  go_wp2_with (with_reducible refine wpList_load_mid rfl 44 (.tmp 3) rfl (w.heap.size + 1) 0 rfl (stC cm (n : Int) at_ sw lf s (.slice A l.length c)).toList _ hm hut rfl HST.out ?_; simp only [Array.toArray_toList])
  rw [st_fold]
  have GA := grew_alloc (grew_refl w8) (.cells (stC cm (n : Int) at_ sw lf s (.slice A l.length c)) 44)
  have zq := Ag.new w8 44 (stC cm (n : Int) at_ sw lf s (.slice A l.length c))
  have G9 := grew_trans G8 GA
  refine (scheck_ok R RA Rc h cm n at_ sw lf s A c l hc hw ha hsw hlf hl HSS.out HB.out hRl HRb.out w8.heap.size _ (HS.out.grew G9) (HR.out.gr G9) (HL.out.gr G9) zq.cell zq.lt).mono ?_
  rintro e w9 ⟨rfl, gg⟩
  go_wp2_with fail
  go_ret
  exact ⟨by rw [HE.out]; rfl, grew_trans G9 gg⟩
set_option maxRecDepth 100000 in
set_option maxHeartbeats 2000000 in
theorem stkeys_ok (f : Int) (R : List Nat) (RA : Option Addr) (Rc : Nat) (h : Int) (hRl : R.length ≤ 1000) (w : World) :
    Calls Tryz.prog 19 #[.agg (kyS f RA R.length Rc h)] w fun e w' => e = .returned (.int .i64 (cyE f R.length h)) ∧ Grew w w' := by
  have huf := Tryz.underlying33
  have HCF : Hid ((Tryz.prog.info? 33).map (·.size) = some [Value.int .i64 f].length) := Lib.hid (by kernel_rfl)
  have CC := Lib.hid (fun W => qcheck_ok f W)
  have zk := Ag.new w 36 (kyS f RA R.length Rc h)
  have G1 := grew_alloc (grew_refl w) (.cells (kyS f RA R.length Rc h) 36)
  have hm0 : (w.alloc (.cells (kyS f RA R.length Rc h) 36)).rangeAt w.heap.size 0 [.int .i64 f] := fun j v hj => by
    have hj0 : j = 0 := by have := (List.getElem?_eq_some_iff.1 hj).1; simpa using this
    subst hj0
    have h0 : v = .int .i64 f := by simpa using hj.symm
    rw [h0]
    exact zk.cell 0 _ rfl
  by_cases hbad : f < 1 ∨ 3 < f
  · have HE : Hid (cyE f R.length h = 1) := Lib.hid (by unfold cyE; rw [if_pos hbad])
    rw [if_pos hbad] at CC
    clear hbad zk
    go_enter Tryz.func19, Tryz.ntmps19
    go_wp2_with (with_reducible refine wpList_load_mid rfl 33 (.tmp 4) rfl w.heap.size 0 rfl [.int .i64 f] _ hm0 huf rfl HCF.out ?_)
    refine (CC.out _).mono ?_
    rintro e w2 ⟨rfl, gg⟩
    go_wp2_with fail
    go_ret
    exact ⟨by rw [HE.out]; rfl, grew_trans G1 gg⟩
  rw [if_neg hbad] at CC
  have CN := Lib.hid (fun W => qn_ok f (by omega) W)
  have hf : 1 ≤ f ∧ f ≤ 3 := by omega
  go_enter Tryz.func19, Tryz.ntmps19
  go_wp2_with (with_reducible refine wpList_load_mid rfl 33 (.tmp 4) rfl w.heap.size 0 rfl [.int .i64 f] _ hm0 huf rfl HCF.out ?_)
  refine (CC.out _).mono ?_
  rintro e w1 ⟨rfl, gg⟩
  have zk1 := zk.grew gg
  have G0 := grew_trans G1 gg
  clear G1 zk gg hm0 CC
  have G1 := G0
  clear G0
  go_wp2_with fail
  have HD : Hid (cyE f R.length h = if (R.length : Int) = 3 * f + 1 ∧ 0 ≤ h ∧ h ≤ 8 then 0 else 1) := Lib.hid (by unfold cyE; rw [if_neg hbad])
  have m1 : ∀ y : Gr w1, y.val.cell? ⟨w.heap.size, 1, none⟩ = some (.slice RA R.length Rc) := fun y => by simpa using (zk1.gr y).cell 1 _ rfl
  have m2 : ∀ y : Gr w1, y.val.cell? ⟨w.heap.size, 2, none⟩ = some (.int .i64 h) := fun y => by simpa using (zk1.gr y).cell 2 _ rfl
  have qf : Hid (∀ y : Gr w1, y.val.rangeAt w.heap.size 0 [.int .i64 f]) := Lib.hid (fun y j v hj => by
    have hj0 : j = 0 := by have := (List.getElem?_eq_some_iff.1 hj).1; simpa using this
    subst hj0
    have h0 : v = .int .i64 f := by simpa using hj.symm
    rw [h0]
    exact (zk1.gr y).cell 0 _ rfl)
  have CT : Hid (∀ W : World, Calls Tryz.prog 80 #[.int .i64 1] W fun e w' => e = .returned (.bool (tmB 1)) ∧ W = w') := Lib.hid (fun W => isTime_ok 1 W)
  obtain ⟨nn, hnn⟩ : ∃ nn, 3 * f + 1 = nn := ⟨_, rfl⟩
  rw [hnn] at CN HD
  clear hnn hbad hf zk1
  by_cases hA : (R.length : Int) = nn
  · have e1 : ((R.length : Int) != nn) = false := by simp [hA]
    by_cases hB : h < 0
    · have HE : Hid (cyE f R.length h = 1) := Lib.hid (by rw [HD.out, if_neg (by omega)])
      clear hA HD
      refine wp_region_grew (grew_refl w1) (by kernel_rfl) (by kernel_rfl) ?_
      repeat (first
        | (go_big_quiet_want; refine quiet_load_mid 33 (.tmp 13) rfl w.heap.size 0 rfl [.int .i64 f] _ qf.out huf rfl HCF.out ?_; simp only [Act.put, List.setIfInBounds_toArray, List.set_cons_succ, List.set_cons_zero, Array.toArray_toList]; go_big_quiet_on)
        | (go_big_quiet_step (first
          | (go_at_call 72; exact callG (CN.out _))
          | (go_at_call 80; exact callS (CT.out _)))))
      refine wpQuiet_nil ?_
      rintro w8 ⟨⟨w8', g8⟩, rfl⟩
      have G8 := grew_trans G1 g8
      go_wp2_with fail
      go_ret
      exact ⟨by rw [HE.out]; rfl, G8⟩
    by_cases hC : 8 < h
    · have HE : Hid (cyE f R.length h = 1) := Lib.hid (by rw [HD.out, if_neg (by omega)])
      clear hA HD
      refine wp_region_grew (grew_refl w1) (by kernel_rfl) (by kernel_rfl) ?_
      repeat (first
        | (go_big_quiet_want; refine quiet_load_mid 33 (.tmp 13) rfl w.heap.size 0 rfl [.int .i64 f] _ qf.out huf rfl HCF.out ?_; simp only [Act.put, List.setIfInBounds_toArray, List.set_cons_succ, List.set_cons_zero, Array.toArray_toList]; go_big_quiet_on)
        | (go_big_quiet_step (first
          | (go_at_call 72; exact callG (CN.out _))
          | (go_at_call 80; exact callS (CT.out _)))))
      refine wpQuiet_nil ?_
      rintro w8 ⟨⟨w8', g8⟩, rfl⟩
      have G8 := grew_trans G1 g8
      go_wp2_with fail
      go_ret
      exact ⟨by rw [HE.out]; rfl, G8⟩
    have HE : Hid (cyE f R.length h = 0) := Lib.hid (by rw [HD.out, if_pos ⟨hA, by omega, by omega⟩])
    clear hA HD
    refine wp_region_grew (grew_refl w1) (by kernel_rfl) (by kernel_rfl) ?_
    repeat (first
      | (go_big_quiet_want; refine quiet_load_mid 33 (.tmp 13) rfl w.heap.size 0 rfl [.int .i64 f] _ qf.out huf rfl HCF.out ?_; simp only [Act.put, List.setIfInBounds_toArray, List.set_cons_succ, List.set_cons_zero, Array.toArray_toList]; go_big_quiet_on)
      | (go_big_quiet_step (first
        | (go_at_call 72; exact callG (CN.out _))
        | (go_at_call 80; exact callS (CT.out _)))))
    refine wpQuiet_nil ?_
    rintro w8 ⟨⟨w8', g8⟩, rfl⟩
    have G8 := grew_trans G1 g8
    go_wp2_with fail
    go_ret
    exact ⟨by rw [HE.out]; rfl, G8⟩
  · have e1 : ((R.length : Int) != nn) = true := by simp [hA]
    have HE : Hid (cyE f R.length h = 1) := Lib.hid (by rw [HD.out, if_neg (fun h => hA h.1)])
    clear hA HD
    refine wp_region_grew (grew_refl w1) (by kernel_rfl) (by kernel_rfl) ?_
    repeat (first
      | (go_big_quiet_want; refine quiet_load_mid 33 (.tmp 13) rfl w.heap.size 0 rfl [.int .i64 f] _ qf.out huf rfl HCF.out ?_; simp only [Act.put, List.setIfInBounds_toArray, List.set_cons_succ, List.set_cons_zero, Array.toArray_toList]; go_big_quiet_on)
      | (go_big_quiet_step (first
        | (go_at_call 72; exact callG (CN.out _))
        | (go_at_call 80; exact callS (CT.out _)))))
    refine wpQuiet_nil ?_
    rintro w8 ⟨⟨w8', g8⟩, rfl⟩
    have G8 := grew_trans G1 g8
    go_wp2_with fail
    go_ret
    exact ⟨by rw [HE.out]; rfl, G8⟩

end Go.Proofs.YtaeopobofmpioaaGreatDoor

namespace Go.Proofs.YtaeopobofmpioaaGreatDoor
set_option linter.unusedSimpArgs false
set_option linter.unusedVariables false
open Go.RowKit
set_option linter.unusedVariables false
set_option linter.unusedSimpArgs false
set_option maxRecDepth 100000 in
theorem st_zero : Tryz.prog.built 44 [] = some (#[.int .u64 0, .int .i64 0, .int .i64 0, .int .i64 0, .int .i64 0, .int .u64 0, .int .u64 0, .int .u64 0, .int .u64 0, .int .u64 0, .int .u64 0, .int .u64 0, .int .u64 0, .int .u64 0, .int .u64 0, .int .u64 0, .int .u64 0, .int .u64 0, .int .u64 0, .int .u64 0, .int .u64 0, .int .u64 0, .int .u64 0, .slice none 0 0]) := by kernel_rfl
set_option maxRecDepth 100000 in
set_option maxHeartbeats 600000 in
theorem stmake_no (v : Value) (cm : Nat) (who at_ : Int) (ht : tmB at_ = false) (w : World) :
    Calls Tryz.prog 34 #[v, .int .i64 who, .int .u64 (cm : Nat), .int .i64 at_] w fun e w' => e = .returned (.tuple #[.agg (#[.int .u64 0, .int .i64 0, .int .i64 0, .int .i64 0, .int .i64 0, .int .u64 0, .int .u64 0, .int .u64 0, .int .u64 0, .int .u64 0, .int .u64 0, .int .u64 0, .int .u64 0, .int .u64 0, .int .u64 0, .int .u64 0, .int .u64 0, .int .u64 0, .int .u64 0, .int .u64 0, .int .u64 0, .int .u64 0, .int .u64 0, .slice none 0 0]), .int .i64 1]) ∧ Grew w w' := by
  have z0 := Ag.new w 44 (#[.int .u64 0, .int .i64 0, .int .i64 0, .int .i64 0, .int .i64 0, .int .u64 0, .int .u64 0, .int .u64 0, .int .u64 0, .int .u64 0, .int .u64 0, .int .u64 0, .int .u64 0, .int .u64 0, .int .u64 0, .int .u64 0, .int .u64 0, .int .u64 0, .int .u64 0, .int .u64 0, .int .u64 0, .int .u64 0, .int .u64 0, .slice none 0 0])
  have g0 := grew_alloc (grew_refl w) (.cells (#[.int .u64 0, .int .i64 0, .int .i64 0, .int .i64 0, .int .i64 0, .int .u64 0, .int .u64 0, .int .u64 0, .int .u64 0, .int .u64 0, .int .u64 0, .int .u64 0, .int .u64 0, .int .u64 0, .int .u64 0, .int .u64 0, .int .u64 0, .int .u64 0, .int .u64 0, .int .u64 0, .int .u64 0, .int .u64 0, .int .u64 0, .slice none 0 0]) 44)
  have hut := Tryz.underlying44
  have bz : ∀ W, (Instr.build 44 #[]).run Tryz.prog W = .ok (.agg (#[.int .u64 0, .int .i64 0, .int .i64 0, .int .i64 0, .int .i64 0, .int .u64 0, .int .u64 0, .int .u64 0, .int .u64 0, .int .u64 0, .int .u64 0, .int .u64 0, .int .u64 0, .int .u64 0, .int .u64 0, .int .u64 0, .int .u64 0, .int .u64 0, .int .u64 0, .int .u64 0, .int .u64 0, .int .u64 0, .int .u64 0, .slice none 0 0])) W := fun W => run_build W 44 #[] _ st_zero
  have CT := Lib.hid (fun W => isTime_ok at_ W)
  rw [ht] at CT
  clear ht
  have HTH : Hid ((w.alloc (.cells (#[.int .u64 0, .int .i64 0, .int .i64 0, .int .i64 0, .int .i64 0, .int .u64 0, .int .u64 0, .int .u64 0, .int .u64 0, .int .u64 0, .int .u64 0, .int .u64 0, .int .u64 0, .int .u64 0, .int .u64 0, .int .u64 0, .int .u64 0, .int .u64 0, .int .u64 0, .int .u64 0, .int .u64 0, .int .u64 0, .int .u64 0, .slice none 0 0]) 44)).there w.heap.size 0 (#[.int .u64 0, .int .i64 0, .int .i64 0, .int .i64 0, .int .i64 0, .int .u64 0, .int .u64 0, .int .u64 0, .int .u64 0, .int .u64 0, .int .u64 0, .int .u64 0, .int .u64 0, .int .u64 0, .int .u64 0, .int .u64 0, .int .u64 0, .int .u64 0, .int .u64 0, .int .u64 0, .int .u64 0, .int .u64 0, .int .u64 0, .slice none 0 0] : Array Value).size) := Lib.hid (z0.thereN 24 rfl)
  have HSZ : Hid ((Tryz.prog.info? 44).map (·.size) = some (#[.int .u64 0, .int .i64 0, .int .i64 0, .int .i64 0, .int .i64 0, .int .u64 0, .int .u64 0, .int .u64 0, .int .u64 0, .int .u64 0, .int .u64 0, .int .u64 0, .int .u64 0, .int .u64 0, .int .u64 0, .int .u64 0, .int .u64 0, .int .u64 0, .int .u64 0, .int .u64 0, .int .u64 0, .int .u64 0, .int .u64 0, .slice none 0 0] : Array Value).size) := Lib.hid st_info
  have HOZ : Hid ((#[.int .u64 0, .int .i64 0, .int .i64 0, .int .i64 0, .int .i64 0, .int .u64 0, .int .u64 0, .int .u64 0, .int .u64 0, .int .u64 0, .int .u64 0, .int .u64 0, .int .u64 0, .int .u64 0, .int .u64 0, .int .u64 0, .int .u64 0, .int .u64 0, .int .u64 0, .int .u64 0, .int .u64 0, .int .u64 0, .int .u64 0, .slice none 0 0] : Array Value).all (·.oneCell') = true) := Lib.hid (by simp [Value.oneCell'])
  have z1 := Ag.set (vs := (#[.int .u64 0, .int .i64 0, .int .i64 0, .int .i64 0, .int .i64 0, .int .u64 0, .int .u64 0, .int .u64 0, .int .u64 0, .int .u64 0, .int .u64 0, .int .u64 0, .int .u64 0, .int .u64 0, .int .u64 0, .int .u64 0, .int .u64 0, .int .u64 0, .int .u64 0, .int .u64 0, .int .u64 0, .int .u64 0, .int .u64 0, .slice none 0 0] : Array Value).toList) z0 rfl
  have g1 := setCells_grew (o := 0) (b := w.heap.size) (#[.int .u64 0, .int .i64 0, .int .i64 0, .int .i64 0, .int .i64 0, .int .u64 0, .int .u64 0, .int .u64 0, .int .u64 0, .int .u64 0, .int .u64 0, .int .u64 0, .int .u64 0, .int .u64 0, .int .u64 0, .int .u64 0, .int .u64 0, .int .u64 0, .int .u64 0, .int .u64 0, .int .u64 0, .int .u64 0, .int .u64 0, .slice none 0 0] : Array Value).toList g0 (Nat.le_refl _)
  go_enter Tryz.func34, Tryz.ntmps34
  go_wp2_with (first
    | (go_at_call 80; refine (CT.out _).mono ?_; rintro e w1 ⟨rfl, rfl⟩)
    | (with_reducible refine wpList_store_mid rfl 44 (.tmp 8) (.tmp 15) rfl w.heap.size 0 (#[.int .u64 0, .int .i64 0, .int .i64 0, .int .i64 0, .int .i64 0, .int .u64 0, .int .u64 0, .int .u64 0, .int .u64 0, .int .u64 0, .int .u64 0, .int .u64 0, .int .u64 0, .int .u64 0, .int .u64 0, .int .u64 0, .int .u64 0, .int .u64 0, .int .u64 0, .int .u64 0, .int .u64 0, .int .u64 0, .int .u64 0, .slice none 0 0]) rfl rfl HTH.out HSZ.out HOZ.out ?_))
  exact bodyPost_ret (results_ag2 Tryz.results34 _ _ w.heap.size _ _ _ rfl rfl z1 hut rfl st_info) rfl ⟨rfl, g1⟩
set_option maxRecDepth 100000 in
set_option maxHeartbeats 600000 in
theorem stmake_err (b p : Nat) (kw sd : Int) (l : List Nat) (nx rs : Nat) (hl : l.length ≤ 256) (hn : nx ≤ l.length) (hr : rs ≤ l.length) (hkk : leavesOk l.length = true) (hbb : ∀ n ∈ l, n < 18446744073709551616) (hsd : U64 sd) (hpp : ∀ m, m < l.length → (pathN l m).length ≤ 8) (cm : Nat) (hc : cm < 18446744073709551616) (who at_ : Int) (hw : in64 who) (ha : in64 at_) (ht : tmB at_ = true) (he : nx = l.length ∨ rs ≤ nx) (w : World) (hS : Std w) (h : KyAt w b p kw sd l nx rs) :
    Calls Tryz.prog 34 #[.pointer (some ⟨b, 0, none⟩), .int .i64 who, .int .u64 (cm : Nat), .int .i64 at_] w fun e w' => e = .returned (.tuple #[.agg (#[.int .u64 0, .int .i64 0, .int .i64 0, .int .i64 0, .int .i64 0, .int .u64 0, .int .u64 0, .int .u64 0, .int .u64 0, .int .u64 0, .int .u64 0, .int .u64 0, .int .u64 0, .int .u64 0, .int .u64 0, .int .u64 0, .int .u64 0, .int .u64 0, .int .u64 0, .int .u64 0, .int .u64 0, .int .u64 0, .int .u64 0, .slice none 0 0]), .int .i64 (soE l nx rs)]) ∧ Tn b w w' ∧ KyAt w' b p kw sd l nx rs := by
  have z0 := Ag.new w 44 (#[.int .u64 0, .int .i64 0, .int .i64 0, .int .i64 0, .int .i64 0, .int .u64 0, .int .u64 0, .int .u64 0, .int .u64 0, .int .u64 0, .int .u64 0, .int .u64 0, .int .u64 0, .int .u64 0, .int .u64 0, .int .u64 0, .int .u64 0, .int .u64 0, .int .u64 0, .int .u64 0, .int .u64 0, .int .u64 0, .int .u64 0, .slice none 0 0])
  have g0 := grew_alloc (grew_refl w) (.cells (#[.int .u64 0, .int .i64 0, .int .i64 0, .int .i64 0, .int .i64 0, .int .u64 0, .int .u64 0, .int .u64 0, .int .u64 0, .int .u64 0, .int .u64 0, .int .u64 0, .int .u64 0, .int .u64 0, .int .u64 0, .int .u64 0, .int .u64 0, .int .u64 0, .int .u64 0, .int .u64 0, .int .u64 0, .int .u64 0, .int .u64 0, .slice none 0 0]) 44)
  have hut := Tryz.underlying44
  have hus := Tryz.underlying42
  have bz : ∀ W, (Instr.build 44 #[]).run Tryz.prog W = .ok (.agg (#[.int .u64 0, .int .i64 0, .int .i64 0, .int .i64 0, .int .i64 0, .int .u64 0, .int .u64 0, .int .u64 0, .int .u64 0, .int .u64 0, .int .u64 0, .int .u64 0, .int .u64 0, .int .u64 0, .int .u64 0, .int .u64 0, .int .u64 0, .int .u64 0, .int .u64 0, .int .u64 0, .int .u64 0, .int .u64 0, .int .u64 0, .slice none 0 0])) W := fun W => run_build W 44 #[] _ st_zero
  have CT := Lib.hid (fun W => isTime_ok at_ W)
  rw [ht] at CT
  have CD := Lib.hid (fun W hW => stdigest_ok cm who at_ hc hw ha W hW)
  have hdl := stD_lt cm who at_
  have CS := Lib.hid (fun W hW => ksign_any b p kw sd l nx rs hl hn hr (stD cm who at_ : Nat) hkk hbb hsd ⟨by omega, by omega⟩ W hW)
  have hpl8 := soP_len l nx rs hpp
  obtain ⟨d, hd⟩ : ∃ d, stD cm who at_ = d := ⟨_, rfl⟩
  rw [hd] at CD
  simp only [hd] at CS
  obtain ⟨a1, ha1⟩ : ∃ v, soW l nx rs kw = v := ⟨_, rfl⟩
  obtain ⟨a2, ha2⟩ : ∃ v, soL l nx rs = v := ⟨_, rfl⟩
  obtain ⟨s, hs⟩ : ∃ v, soS l nx rs sd (d : Int) = v := ⟨_, rfl⟩
  obtain ⟨pl, hp1⟩ : ∃ v, soP l nx rs = v := ⟨_, rfl⟩
  obtain ⟨er, he1⟩ : ∃ v, soE l nx rs = v := ⟨_, rfl⟩
  obtain ⟨n2, hn2⟩ : ∃ v, soN l nx rs = v := ⟨_, rfl⟩
  simp only [ha1, ha2, hs, hp1, he1, hn2] at CS
  rw [hp1] at hpl8
  have hne : (er != 0) = true := by rw [← he1]; unfold soE; rcases he with he | he <;> (split <;> (try split) <;> (first | rfl | (exfalso; omega)))
  have HN2 : Hid (n2 = nx) := Lib.hid (by rw [← hn2]; unfold soN; rcases he with he | he <;> (split <;> (try split) <;> (first | rfl | (exfalso; omega))))
  have HER := Lib.hid he1
  have HPW : Hid (p < w.heap.size) := Lib.hid h.pub.lt
  clear ha1 ha2 hs hp1 he1 hn2 he
  have hbw : b < w.heap.size := h.key.lt
  have HS := Lib.hid hS
  have K1 := h.grew g0
  clear hS h ht hkk hbb hsd hpp hd hdl hc hw ha
  obtain ⟨w1, hw1⟩ : ∃ v, w.alloc (.cells (#[.int .u64 0, .int .i64 0, .int .i64 0, .int .i64 0, .int .i64 0, .int .u64 0, .int .u64 0, .int .u64 0, .int .u64 0, .int .u64 0, .int .u64 0, .int .u64 0, .int .u64 0, .int .u64 0, .int .u64 0, .int .u64 0, .int .u64 0, .int .u64 0, .int .u64 0, .int .u64 0, .int .u64 0, .int .u64 0, .int .u64 0, .slice none 0 0]) 44) = v := ⟨_, rfl⟩
  rw [hw1] at z0 g0 K1
  have HW1 := Lib.hid hw1
  clear hw1
  go_enter Tryz.func34, Tryz.ntmps34
  go_wp2_with (go_at_call 80; rw [HW1.out]; refine (CT.out _).mono ?_; rintro e v1 ⟨rfl, rfl⟩)
  refine (CD.out w1 (HS.out.grew g0)).mono ?_
  rintro e w2 ⟨rfl, gg⟩
  have z2 := z0.grew gg
  have K2 := K1.grew gg
  have G2 := grew_trans g0 gg
  clear z0 K1 g0 gg
  go_wp2_with fail
  refine (CS.out w2 K2).mono ?_
  rintro e w3 ⟨⟨A, c, rfl, r3, hA⟩, t3, K3⟩
  have z3 := z2.kp (kp_tn t3) (show ¬ w.heap.size = b by omega)
  have T3 : Tn b w w3 := tn_kp (tn_grew G2) (kp_tn t3) (fun i e => .inl e)
  have hz3 := z2.lt
  have hfr : ∀ ad, A = some ad → w.heap.size < ad.block := fun ad e => by have := hA ad e; omega
  have HFR := Lib.hid hfr
  have HG2 := Lib.hid G2.size
  clear K2 G2 t3 hA z2 hfr
  have HSI1 : Hid ((Tryz.prog.info? 42).map (·.size) = some (sgC a1 a2 s (.slice A pl.length c)).size) := Lib.hid sg_info
  have HSL1 : Hid ((Tryz.prog.info? 42).map (·.size) = some (sgC a1 a2 s (.slice A pl.length c)).toList.length) := Lib.hid sg_info
  have HON1 := Lib.hid (sgC_one a1 a2 s A pl.length c)
  have HBU := Lib.hid (st_built cm who at_ a1 a2 s A pl.length c)
  have zt := Ag.new w3 42 (#[.int .i64 0, .int .i64 0, .int .u64 0, .int .u64 0, .int .u64 0, .int .u64 0, .int .u64 0, .int .u64 0, .int .u64 0, .int .u64 0, .int .u64 0, .int .u64 0, .int .u64 0, .int .u64 0, .int .u64 0, .int .u64 0, .int .u64 0, .int .u64 0, .int .u64 0, .int .u64 0, .slice none 0 0])
  have HTH : Hid ((w3.alloc (.cells (#[.int .i64 0, .int .i64 0, .int .u64 0, .int .u64 0, .int .u64 0, .int .u64 0, .int .u64 0, .int .u64 0, .int .u64 0, .int .u64 0, .int .u64 0, .int .u64 0, .int .u64 0, .int .u64 0, .int .u64 0, .int .u64 0, .int .u64 0, .int .u64 0, .int .u64 0, .int .u64 0, .slice none 0 0]) 42)).there w3.heap.size 0 (sgC a1 a2 s (.slice A pl.length c)).size) := Lib.hid (zt.thereN 21 rfl)
  have z4 := Ag.set (vs := (sgC a1 a2 s (.slice A pl.length c)).toList) zt rfl
  have g5 : Grew w3 ((w3.alloc (.cells (#[.int .i64 0, .int .i64 0, .int .u64 0, .int .u64 0, .int .u64 0, .int .u64 0, .int .u64 0, .int .u64 0, .int .u64 0, .int .u64 0, .int .u64 0, .int .u64 0, .int .u64 0, .int .u64 0, .int .u64 0, .int .u64 0, .int .u64 0, .int .u64 0, .int .u64 0, .int .u64 0, .slice none 0 0]) 42)).setCells w3.heap.size 0 (sgC a1 a2 s (.slice A pl.length c)).toList) := setCells_grew (o := 0) (b := w3.heap.size) (sgC a1 a2 s (.slice A pl.length c)).toList (grew_alloc (grew_refl w3) _) (Nat.le_refl _)
  have K5 := K3.grew g5
  have r5 := r3.gr g5
  have z5 := z3.grew g5
  have T5 : Tn b w ((w3.alloc (.cells (#[.int .i64 0, .int .i64 0, .int .u64 0, .int .u64 0, .int .u64 0, .int .u64 0, .int .u64 0, .int .u64 0, .int .u64 0, .int .u64 0, .int .u64 0, .int .u64 0, .int .u64 0, .int .u64 0, .int .u64 0, .int .u64 0, .int .u64 0, .int .u64 0, .int .u64 0, .int .u64 0, .slice none 0 0]) 42)).setCells w3.heap.size 0 (sgC a1 a2 s (.slice A pl.length c)).toList) := tn_kp T3 (kp_grew (S := fun _ => False) g5) (fun i e => e.elim)
  have hz5 := z5.lt
  have hz3' := z3.lt
  obtain ⟨g1, hg1⟩ : ∃ g, sgC a1 a2 s (.slice A pl.length c) = g := ⟨_, rfl⟩
  rw [hg1] at HSI1 HSL1 HON1 HTH HBU z4 K5 r5 z5 T5 hz5 ⊢
  obtain ⟨w5, hw5⟩ : ∃ v, (w3.alloc (.cells (#[.int .i64 0, .int .i64 0, .int .u64 0, .int .u64 0, .int .u64 0, .int .u64 0, .int .u64 0, .int .u64 0, .int .u64 0, .int .u64 0, .int .u64 0, .int .u64 0, .int .u64 0, .int .u64 0, .int .u64 0, .int .u64 0, .int .u64 0, .int .u64 0, .int .u64 0, .int .u64 0, .slice none 0 0]) 42)).setCells w3.heap.size 0 g1.toList = v := ⟨_, rfl⟩
  rw [hw5] at z4 K5 r5 z5 T5 hz5
  have HW5 := Lib.hid hw5
  clear hw5 hg1 zt g5 K3 r3 z3 T3
  have HTZ : Hid (w5.there w.heap.size 0 (#[.int .u64 0, .int .i64 0, .int .i64 0, .int .i64 0, .int .i64 0, .int .u64 0, .int .u64 0, .int .u64 0, .int .u64 0, .int .u64 0, .int .u64 0, .int .u64 0, .int .u64 0, .int .u64 0, .int .u64 0, .int .u64 0, .int .u64 0, .int .u64 0, .int .u64 0, .int .u64 0, .int .u64 0, .int .u64 0, .int .u64 0, .slice none 0 0] : Array Value).size) := Lib.hid (z5.thereN 24 rfl)
  have HSZ : Hid ((Tryz.prog.info? 44).map (·.size) = some (#[.int .u64 0, .int .i64 0, .int .i64 0, .int .i64 0, .int .i64 0, .int .u64 0, .int .u64 0, .int .u64 0, .int .u64 0, .int .u64 0, .int .u64 0, .int .u64 0, .int .u64 0, .int .u64 0, .int .u64 0, .int .u64 0, .int .u64 0, .int .u64 0, .int .u64 0, .int .u64 0, .int .u64 0, .int .u64 0, .int .u64 0, .slice none 0 0] : Array Value).size) := Lib.hid st_info
  have HOZ : Hid ((#[.int .u64 0, .int .i64 0, .int .i64 0, .int .i64 0, .int .i64 0, .int .u64 0, .int .u64 0, .int .u64 0, .int .u64 0, .int .u64 0, .int .u64 0, .int .u64 0, .int .u64 0, .int .u64 0, .int .u64 0, .int .u64 0, .int .u64 0, .int .u64 0, .int .u64 0, .int .u64 0, .int .u64 0, .int .u64 0, .int .u64 0, .slice none 0 0] : Array Value).all (·.oneCell') = true) := Lib.hid (by simp [Value.oneCell'])
  have z6 := Ag.set (vs := (#[.int .u64 0, .int .i64 0, .int .i64 0, .int .i64 0, .int .i64 0, .int .u64 0, .int .u64 0, .int .u64 0, .int .u64 0, .int .u64 0, .int .u64 0, .int .u64 0, .int .u64 0, .int .u64 0, .int .u64 0, .int .u64 0, .int .u64 0, .int .u64 0, .int .u64 0, .int .u64 0, .int .u64 0, .int .u64 0, .int .u64 0, .slice none 0 0] : Array Value).toList) z5 rfl
  have K6 := setCells_kp (#[.int .u64 0, .int .i64 0, .int .i64 0, .int .i64 0, .int .i64 0, .int .u64 0, .int .u64 0, .int .u64 0, .int .u64 0, .int .u64 0, .int .u64 0, .int .u64 0, .int .u64 0, .int .u64 0, .int .u64 0, .int .u64 0, .int .u64 0, .int .u64 0, .int .u64 0, .int .u64 0, .int .u64 0, .int .u64 0, .int .u64 0, .slice none 0 0] : Array Value).toList w.heap.size 0 w5
  have KK := K5.kp K6 (by show ¬ b = w.heap.size; omega) (by show ¬ p = w.heap.size; have := HPW.out; omega)
  have TT : Tn b w (w5.setCells w.heap.size 0 (#[.int .u64 0, .int .i64 0, .int .i64 0, .int .i64 0, .int .i64 0, .int .u64 0, .int .u64 0, .int .u64 0, .int .u64 0, .int .u64 0, .int .u64 0, .int .u64 0, .int .u64 0, .int .u64 0, .int .u64 0, .int .u64 0, .int .u64 0, .int .u64 0, .int .u64 0, .int .u64 0, .int .u64 0, .int .u64 0, .int .u64 0, .slice none 0 0] : Array Value).toList) := tn_kp T5 K6 (fun i (e : i = w.heap.size) => .inr (by omega))
  clear z5 K5 r5 T5 K6
  go_wp2_with (first
    | (with_reducible refine wpList_store_mid rfl 42 (.tmp 10) (.tmp 23) rfl w3.heap.size 0 g1 rfl rfl HTH.out HSI1.out HON1.out ?_; rw [HW5.out]; clear HW5 HTH)
    | (with_reducible refine wpList_store_mid rfl 44 (.tmp 8) (.tmp 27) rfl w.heap.size 0 (#[.int .u64 0, .int .i64 0, .int .i64 0, .int .i64 0, .int .i64 0, .int .u64 0, .int .u64 0, .int .u64 0, .int .u64 0, .int .u64 0, .int .u64 0, .int .u64 0, .int .u64 0, .int .u64 0, .int .u64 0, .int .u64 0, .int .u64 0, .int .u64 0, .int .u64 0, .int .u64 0, .int .u64 0, .int .u64 0, .int .u64 0, .slice none 0 0]) rfl rfl HTZ.out HSZ.out HOZ.out ?_))
  exact bodyPost_ret (results_ag2 Tryz.results34 _ _ w.heap.size _ _ _ rfl rfl z6 hut rfl st_info) rfl ⟨by rw [HER.out]; rfl, TT, by rw [← HN2.out]; exact KK⟩
set_option maxRecDepth 100000 in
set_option maxHeartbeats 600000 in
theorem stmake_ok (b p : Nat) (kw sd : Int) (l : List Nat) (nx rs : Nat) (hl : l.length ≤ 256) (hn : nx ≤ l.length) (hr : rs ≤ l.length) (hkk : leavesOk l.length = true) (hbb : ∀ n ∈ l, n < 18446744073709551616) (hsd : U64 sd) (hpp : ∀ m, m < l.length → (pathN l m).length ≤ 8) (cm : Nat) (hc : cm < 18446744073709551616) (who at_ : Int) (hw : in64 who) (ha : in64 at_) (ht : tmB at_ = true) (he1 : nx < l.length) (he2 : nx < rs) (w : World) (hS : Std w) (h : KyAt w b p kw sd l nx rs) :
    Calls Tryz.prog 34 #[.pointer (some ⟨b, 0, none⟩), .int .i64 who, .int .u64 (cm : Nat), .int .i64 at_] w fun e w' => (∃ A c, e = .returned (.tuple #[.agg (stC cm who at_ kw (nx : Int) (signF (secN sd (nx : Int)) (stD cm who at_)) (.slice A (pathN l nx).length c)), .int .i64 0]) ∧ Rd w' w'.heap.size A (u64L (pathN l nx)) ∧ (∀ ad, A = some ad → w.heap.size ≤ ad.block)) ∧ Tn b w w' ∧ KyAt w' b p kw sd l (nx + 1) rs := by
  have z0 := Ag.new w 44 (#[.int .u64 0, .int .i64 0, .int .i64 0, .int .i64 0, .int .i64 0, .int .u64 0, .int .u64 0, .int .u64 0, .int .u64 0, .int .u64 0, .int .u64 0, .int .u64 0, .int .u64 0, .int .u64 0, .int .u64 0, .int .u64 0, .int .u64 0, .int .u64 0, .int .u64 0, .int .u64 0, .int .u64 0, .int .u64 0, .int .u64 0, .slice none 0 0])
  have g0 := grew_alloc (grew_refl w) (.cells (#[.int .u64 0, .int .i64 0, .int .i64 0, .int .i64 0, .int .i64 0, .int .u64 0, .int .u64 0, .int .u64 0, .int .u64 0, .int .u64 0, .int .u64 0, .int .u64 0, .int .u64 0, .int .u64 0, .int .u64 0, .int .u64 0, .int .u64 0, .int .u64 0, .int .u64 0, .int .u64 0, .int .u64 0, .int .u64 0, .int .u64 0, .slice none 0 0]) 44)
  have hut := Tryz.underlying44
  have hus := Tryz.underlying42
  have bz : ∀ W, (Instr.build 44 #[]).run Tryz.prog W = .ok (.agg (#[.int .u64 0, .int .i64 0, .int .i64 0, .int .i64 0, .int .i64 0, .int .u64 0, .int .u64 0, .int .u64 0, .int .u64 0, .int .u64 0, .int .u64 0, .int .u64 0, .int .u64 0, .int .u64 0, .int .u64 0, .int .u64 0, .int .u64 0, .int .u64 0, .int .u64 0, .int .u64 0, .int .u64 0, .int .u64 0, .int .u64 0, .slice none 0 0])) W := fun W => run_build W 44 #[] _ st_zero
  have CT := Lib.hid (fun W => isTime_ok at_ W)
  rw [ht] at CT
  have CD := Lib.hid (fun W hW => stdigest_ok cm who at_ hc hw ha W hW)
  have hdl := stD_lt cm who at_
  have CS := Lib.hid (fun W hW => ksign_any b p kw sd l nx rs hl hn hr (stD cm who at_ : Nat) hkk hbb hsd ⟨by omega, by omega⟩ W hW)
  have hpl8 := soP_len l nx rs hpp
  obtain ⟨d, hd⟩ : ∃ d, stD cm who at_ = d := ⟨_, rfl⟩
  rw [hd] at CD
  simp only [hd] at CS
  obtain ⟨a1, ha1⟩ : ∃ v, soW l nx rs kw = v := ⟨_, rfl⟩
  obtain ⟨a2, ha2⟩ : ∃ v, soL l nx rs = v := ⟨_, rfl⟩
  obtain ⟨s, hs⟩ : ∃ v, soS l nx rs sd (d : Int) = v := ⟨_, rfl⟩
  obtain ⟨pl, hp1⟩ : ∃ v, soP l nx rs = v := ⟨_, rfl⟩
  obtain ⟨er, he1⟩ : ∃ v, soE l nx rs = v := ⟨_, rfl⟩
  obtain ⟨n2, hn2⟩ : ∃ v, soN l nx rs = v := ⟨_, rfl⟩
  simp only [ha1, ha2, hs, hp1, he1, hn2] at CS
  rw [hp1] at hpl8
  have hkey : soW l nx rs kw = kw ∧ soL l nx rs = (nx : Int) ∧ soS l nx rs sd (d : Int) = signF (secN sd (nx : Int)) d ∧ soP l nx rs = pathN l nx ∧ soE l nx rs = 0 ∧ soN l nx rs = nx + 1 := by
    have q1 : ¬ l.length ≤ nx := by omega
    have q2 : ¬ rs ≤ nx := by omega
    unfold soW soL soS soP soE soN
    simp only [if_neg q1, if_neg q2, Int.toNat_natCast, and_self]
  have HA1 : Hid (kw = a1) := Lib.hid (hkey.1.symm.trans ha1)
  have HA2 : Hid ((nx : Int) = a2) := Lib.hid (hkey.2.1.symm.trans ha2)
  have HSS : Hid (signF (secN sd (nx : Int)) d = s) := Lib.hid (hkey.2.2.1.symm.trans hs)
  have HP1 : Hid (pathN l nx = pl) := Lib.hid (hkey.2.2.2.1.symm.trans hp1)
  have hne : (er != 0) = false := by rw [← he1, hkey.2.2.2.2.1]; rfl
  have HER : Hid (er = 0) := Lib.hid (he1.symm.trans hkey.2.2.2.2.1)
  have HN2 : Hid (nx + 1 = n2) := Lib.hid (hkey.2.2.2.2.2.symm.trans hn2)
  have HDD := Lib.hid hd
  have HPW : Hid (p < w.heap.size) := Lib.hid h.pub.lt
  clear ha1 ha2 hs hp1 he1 hn2 hkey
  have hbw : b < w.heap.size := h.key.lt
  have HS := Lib.hid hS
  have K1 := h.grew g0
  clear hS h ht hkk hbb hsd hpp hd hdl hc hw ha
  obtain ⟨w1, hw1⟩ : ∃ v, w.alloc (.cells (#[.int .u64 0, .int .i64 0, .int .i64 0, .int .i64 0, .int .i64 0, .int .u64 0, .int .u64 0, .int .u64 0, .int .u64 0, .int .u64 0, .int .u64 0, .int .u64 0, .int .u64 0, .int .u64 0, .int .u64 0, .int .u64 0, .int .u64 0, .int .u64 0, .int .u64 0, .int .u64 0, .int .u64 0, .int .u64 0, .int .u64 0, .slice none 0 0]) 44) = v := ⟨_, rfl⟩
  rw [hw1] at z0 g0 K1
  have HW1 := Lib.hid hw1
  clear hw1
  go_enter Tryz.func34, Tryz.ntmps34
  go_wp2_with (go_at_call 80; rw [HW1.out]; refine (CT.out _).mono ?_; rintro e v1 ⟨rfl, rfl⟩)
  refine (CD.out w1 (HS.out.grew g0)).mono ?_
  rintro e w2 ⟨rfl, gg⟩
  have z2 := z0.grew gg
  have K2 := K1.grew gg
  have G2 := grew_trans g0 gg
  clear z0 K1 g0 gg
  go_wp2_with fail
  refine (CS.out w2 K2).mono ?_
  rintro e w3 ⟨⟨A, c, rfl, r3, hA⟩, t3, K3⟩
  have z3 := z2.kp (kp_tn t3) (show ¬ w.heap.size = b by omega)
  have T3 : Tn b w w3 := tn_kp (tn_grew G2) (kp_tn t3) (fun i e => .inl e)
  have hz3 := z2.lt
  have hfr : ∀ ad, A = some ad → w.heap.size < ad.block := fun ad e => by have := hA ad e; omega
  have HFR := Lib.hid hfr
  have HG2 := Lib.hid G2.size
  clear K2 G2 t3 hA z2 hfr
  have HSI1 : Hid ((Tryz.prog.info? 42).map (·.size) = some (sgC a1 a2 s (.slice A pl.length c)).size) := Lib.hid sg_info
  have HSL1 : Hid ((Tryz.prog.info? 42).map (·.size) = some (sgC a1 a2 s (.slice A pl.length c)).toList.length) := Lib.hid sg_info
  have HON1 := Lib.hid (sgC_one a1 a2 s A pl.length c)
  have HBU := Lib.hid (st_built cm who at_ a1 a2 s A pl.length c)
  have zt := Ag.new w3 42 (#[.int .i64 0, .int .i64 0, .int .u64 0, .int .u64 0, .int .u64 0, .int .u64 0, .int .u64 0, .int .u64 0, .int .u64 0, .int .u64 0, .int .u64 0, .int .u64 0, .int .u64 0, .int .u64 0, .int .u64 0, .int .u64 0, .int .u64 0, .int .u64 0, .int .u64 0, .int .u64 0, .slice none 0 0])
  have HTH : Hid ((w3.alloc (.cells (#[.int .i64 0, .int .i64 0, .int .u64 0, .int .u64 0, .int .u64 0, .int .u64 0, .int .u64 0, .int .u64 0, .int .u64 0, .int .u64 0, .int .u64 0, .int .u64 0, .int .u64 0, .int .u64 0, .int .u64 0, .int .u64 0, .int .u64 0, .int .u64 0, .int .u64 0, .int .u64 0, .slice none 0 0]) 42)).there w3.heap.size 0 (sgC a1 a2 s (.slice A pl.length c)).size) := Lib.hid (zt.thereN 21 rfl)
  have z4 := Ag.set (vs := (sgC a1 a2 s (.slice A pl.length c)).toList) zt rfl
  have g5 : Grew w3 ((w3.alloc (.cells (#[.int .i64 0, .int .i64 0, .int .u64 0, .int .u64 0, .int .u64 0, .int .u64 0, .int .u64 0, .int .u64 0, .int .u64 0, .int .u64 0, .int .u64 0, .int .u64 0, .int .u64 0, .int .u64 0, .int .u64 0, .int .u64 0, .int .u64 0, .int .u64 0, .int .u64 0, .int .u64 0, .slice none 0 0]) 42)).setCells w3.heap.size 0 (sgC a1 a2 s (.slice A pl.length c)).toList) := setCells_grew (o := 0) (b := w3.heap.size) (sgC a1 a2 s (.slice A pl.length c)).toList (grew_alloc (grew_refl w3) _) (Nat.le_refl _)
  have K5 := K3.grew g5
  have r5 := r3.gr g5
  have z5 := z3.grew g5
  have T5 : Tn b w ((w3.alloc (.cells (#[.int .i64 0, .int .i64 0, .int .u64 0, .int .u64 0, .int .u64 0, .int .u64 0, .int .u64 0, .int .u64 0, .int .u64 0, .int .u64 0, .int .u64 0, .int .u64 0, .int .u64 0, .int .u64 0, .int .u64 0, .int .u64 0, .int .u64 0, .int .u64 0, .int .u64 0, .int .u64 0, .slice none 0 0]) 42)).setCells w3.heap.size 0 (sgC a1 a2 s (.slice A pl.length c)).toList) := tn_kp T3 (kp_grew (S := fun _ => False) g5) (fun i e => e.elim)
  have hz5 := z5.lt
  have hz3' := z3.lt
  obtain ⟨g1, hg1⟩ : ∃ g, sgC a1 a2 s (.slice A pl.length c) = g := ⟨_, rfl⟩
  rw [hg1] at HSI1 HSL1 HON1 HTH HBU z4 K5 r5 z5 T5 hz5 ⊢
  obtain ⟨w5, hw5⟩ : ∃ v, (w3.alloc (.cells (#[.int .i64 0, .int .i64 0, .int .u64 0, .int .u64 0, .int .u64 0, .int .u64 0, .int .u64 0, .int .u64 0, .int .u64 0, .int .u64 0, .int .u64 0, .int .u64 0, .int .u64 0, .int .u64 0, .int .u64 0, .int .u64 0, .int .u64 0, .int .u64 0, .int .u64 0, .int .u64 0, .slice none 0 0]) 42)).setCells w3.heap.size 0 g1.toList = v := ⟨_, rfl⟩
  rw [hw5] at z4 K5 r5 z5 T5 hz5
  have HW5 := Lib.hid hw5
  clear hw5 hg1 zt g5 K3 r3 z3 T3
  have HTZ : Hid (w5.there w.heap.size 0 (stC cm who at_ a1 a2 s (.slice A pl.length c)).size) := Lib.hid (z5.thereN 24 rfl)
  have HOZ := Lib.hid (stC_one cm who at_ a1 a2 s A pl.length c)
  have HSZ : Hid ((Tryz.prog.info? 44).map (·.size) = some (stC cm who at_ a1 a2 s (.slice A pl.length c)).size) := Lib.hid st_info
  have HSZL : Hid ((Tryz.prog.info? 44).map (·.size) = some (stC cm who at_ a1 a2 s (.slice A pl.length c)).toList.length) := Lib.hid st_info
  have z6 := Ag.set (vs := (stC cm who at_ a1 a2 s (.slice A pl.length c)).toList) z5 rfl
  have K6 := setCells_kp (stC cm who at_ a1 a2 s (.slice A pl.length c)).toList w.heap.size 0 w5
  have KK := K5.kp K6 (by show ¬ b = w.heap.size; omega) (by show ¬ p = w.heap.size; have := HPW.out; omega)
  have TT : Tn b w (w5.setCells w.heap.size 0 (stC cm who at_ a1 a2 s (.slice A pl.length c)).toList) := tn_kp T5 K6 (fun i (e : i = w.heap.size) => .inr (by omega))
  have RR := (r5.kp K6 (Nat.le_refl _) (fun ad e1 _ (e3 : ad.block = w.heap.size) => by have := HFR.out ad e1; omega)).more K6.size
  have hm4 := z4.cell
  obtain ⟨g2, hg2⟩ : ∃ g, stC cm who at_ a1 a2 s (.slice A pl.length c) = g := ⟨_, rfl⟩
  have HG2' := Lib.hid hg2
  rw [hg2] at HTZ HOZ HSZ HSZL HBU z6 KK TT RR
  have bz2 : ∀ W, (Instr.build 44 #[(0, .int .u64 (cm : Nat)), (1, .int .i64 who), (2, .int .i64 at_), (3, .agg g1)]).run Tryz.prog W = .ok (.agg g2) W := fun W => run_build W 44 _ _ HBU.out
  clear z5 K5 r5 T5 K6 hg2
  go_wp2_with (first
    | (with_reducible refine wpList_store_mid rfl 42 (.tmp 10) (.tmp 23) rfl w3.heap.size 0 g1 rfl rfl HTH.out HSI1.out HON1.out ?_; rw [HW5.out]; clear HW5 HTH)
    | (with_reducible refine wpList_load_mid rfl 42 (.tmp 10) rfl w3.heap.size 0 rfl g1.toList _ hm4 hus rfl HSL1.out ?_; simp only [Array.toArray_toList])
    | (with_reducible refine wpList_build_is rfl 44 #[(0, .tmp 29), (1, .tmp 30), (2, .tmp 31), (3, .tmp 32)] rfl g2 ?_ ?_; · simpa [Act.eval, Act.put] using HBU.out)
    | (with_reducible refine wpList_store_mid rfl 44 (.tmp 8) (.tmp 33) rfl w.heap.size 0 g2 rfl rfl HTZ.out HSZ.out HOZ.out ?_))
  exact bodyPost_ret (results_ag2 Tryz.results34 _ _ w.heap.size _ _ _ rfl rfl z6 hut rfl HSZL.out) rfl ⟨⟨A, c, by show Ending.returned (.tuple #[.agg g2.toList.toArray, .int .i64 0]) = _; rw [Array.toArray_toList, ← HG2'.out, HDD.out, HSS.out, HP1.out, HA2.out, HA1.out], by rw [HP1.out]; exact RR, fun ad e => by have := HFR.out ad e; omega⟩, TT, by rw [HN2.out]; exact KK⟩
set_option maxRecDepth 100000 in
set_option maxHeartbeats 600000 in
theorem stsame_eq (cm : Nat) (who at_ sw lf : Int) (s : Nat → Nat) (A A' : Option Addr) (c c' : Nat) (l : List Nat) (hl : l.length ≤ 1048576) (w : World) (hr : Rd w w.heap.size A (u64L l)) (hr' : Rd w w.heap.size A' (u64L l)) :
    Calls Tryz.prog 32 #[.agg (stC cm who at_ sw lf s (.slice A l.length c)), .agg (stC cm who at_ sw lf s (.slice A' l.length c'))] w fun e w' => e = .returned (.bool true) ∧ Grew w w' := by
  have z1 := (Ag.new w 44 (stC cm who at_ sw lf s (.slice A l.length c))).grew (grew_alloc (grew_refl _) (.cells (stC cm who at_ sw lf s (.slice A' l.length c')) 44))
  have z2 := Ag.new (w.alloc (.cells (stC cm who at_ sw lf s (.slice A l.length c)) 44)) 44 (stC cm who at_ sw lf s (.slice A' l.length c'))
  rw [alloc_size] at z2
  have G0 := grew_alloc (grew_alloc (grew_refl w) (.cells (stC cm who at_ sw lf s (.slice A l.length c)) 44)) (.cells (stC cm who at_ sw lf s (.slice A' l.length c')) 44)
  have r1 := hr.gr G0
  have r2 := hr'.gr G0
  have hus := Tryz.underlying42
  have HSL1 : Hid ((Tryz.prog.info? 42).map (·.size) = some (sgC sw lf s (.slice A l.length c)).toList.length) := Lib.hid sg_info
  have HSL2 : Hid ((Tryz.prog.info? 42).map (·.size) = some (sgC sw lf s (.slice A' l.length c')).toList.length) := Lib.hid sg_info
  have b0 : ∀ j v, (stC cm who at_ sw lf s (.slice A l.length c)).toList[j]? = some v → ((w.alloc (.cells (stC cm who at_ sw lf s (.slice A l.length c)) 44)).alloc (.cells (stC cm who at_ sw lf s (.slice A' l.length c')) 44)).cell? ⟨w.heap.size, j, none⟩ = some v := fun j v h => by simpa using z1.cell j v h
  have b1 : ∀ j v, (stC cm who at_ sw lf s (.slice A' l.length c')).toList[j]? = some v → ((w.alloc (.cells (stC cm who at_ sw lf s (.slice A l.length c)) 44)).alloc (.cells (stC cm who at_ sw lf s (.slice A' l.length c')) 44)).cell? ⟨w.heap.size + 1, j, none⟩ = some v := fun j v h => by simpa using z2.cell j v h
  have x0 := b0 0 (.int .u64 (cm : Nat)) rfl
  have x1 := b0 1 (.int .i64 who) rfl
  have x2 := b0 2 (.int .i64 at_) rfl
  have y0 := b1 0 (.int .u64 (cm : Nat)) rfl
  have y1 := b1 1 (.int .i64 who) rfl
  have y2 := b1 2 (.int .i64 at_) rfl
  have m1 := st_sig z1.cell
  have m2 := st_sig z2.cell
  have M1 := Lib.hid m1
  have M2 := Lib.hid m2
  have CS := Lib.hid (fun W h1 h2 => ksame_ok sw lf s A A' c c' l hl W h1 h2)
  have e0 : ((cm : Int) == (cm : Int)) = true := by simp
  have e1 : (who == who) = true := by simp
  have e2 : (at_ == at_) = true := by simp
  clear b0 b1 z1 z2 m1 m2
  go_enter Tryz.func32, Tryz.ntmps32
  go_wp2_with (first
    | (refine wpList_load_mid_want (by rfl) 42 (.tmp 25) rfl w.heap.size 3 rfl (sgC sw lf s (.slice A l.length c)).toList _ M1.out hus rfl HSL1.out ?_; simp only [Array.toArray_toList])
    | (refine wpList_load_mid_want (by rfl) 42 (.tmp 27) rfl (w.heap.size + 1) 3 rfl (sgC sw lf s (.slice A' l.length c')).toList _ M2.out hus rfl HSL2.out ?_; simp only [Array.toArray_toList]))
  refine (CS.out _ r1 r2).mono ?_
  rintro e w2 ⟨rfl, gg⟩
  go_wp2_with fail
  go_ret
  exact ⟨rfl, grew_trans G0 gg⟩
set_option maxRecDepth 100000 in
set_option maxHeartbeats 600000 in
theorem stsame_at (cm : Nat) (who at_ at2 sw lf : Int) (s : Nat → Nat) (A A' : Option Addr) (c c' : Nat) (l : List Nat) (hl : l.length ≤ 1048576) (hne : at_ ≠ at2) (w : World) (hr : Rd w w.heap.size A (u64L l)) (hr' : Rd w w.heap.size A' (u64L l)) :
    Calls Tryz.prog 32 #[.agg (stC cm who at_ sw lf s (.slice A l.length c)), .agg (stC cm who at2 sw lf s (.slice A' l.length c'))] w fun e w' => e = .returned (.bool false) ∧ Grew w w' := by
  have z1 := (Ag.new w 44 (stC cm who at_ sw lf s (.slice A l.length c))).grew (grew_alloc (grew_refl _) (.cells (stC cm who at2 sw lf s (.slice A' l.length c')) 44))
  have z2 := Ag.new (w.alloc (.cells (stC cm who at_ sw lf s (.slice A l.length c)) 44)) 44 (stC cm who at2 sw lf s (.slice A' l.length c'))
  rw [alloc_size] at z2
  have G0 := grew_alloc (grew_alloc (grew_refl w) (.cells (stC cm who at_ sw lf s (.slice A l.length c)) 44)) (.cells (stC cm who at2 sw lf s (.slice A' l.length c')) 44)
  have r1 := hr.gr G0
  have r2 := hr'.gr G0
  have hus := Tryz.underlying42
  have HSL1 : Hid ((Tryz.prog.info? 42).map (·.size) = some (sgC sw lf s (.slice A l.length c)).toList.length) := Lib.hid sg_info
  have HSL2 : Hid ((Tryz.prog.info? 42).map (·.size) = some (sgC sw lf s (.slice A' l.length c')).toList.length) := Lib.hid sg_info
  have b0 : ∀ j v, (stC cm who at_ sw lf s (.slice A l.length c)).toList[j]? = some v → ((w.alloc (.cells (stC cm who at_ sw lf s (.slice A l.length c)) 44)).alloc (.cells (stC cm who at2 sw lf s (.slice A' l.length c')) 44)).cell? ⟨w.heap.size, j, none⟩ = some v := fun j v h => by simpa using z1.cell j v h
  have b1 : ∀ j v, (stC cm who at2 sw lf s (.slice A' l.length c')).toList[j]? = some v → ((w.alloc (.cells (stC cm who at_ sw lf s (.slice A l.length c)) 44)).alloc (.cells (stC cm who at2 sw lf s (.slice A' l.length c')) 44)).cell? ⟨w.heap.size + 1, j, none⟩ = some v := fun j v h => by simpa using z2.cell j v h
  have x0 := b0 0 (.int .u64 (cm : Nat)) rfl
  have x1 := b0 1 (.int .i64 who) rfl
  have x2 := b0 2 (.int .i64 at_) rfl
  have y0 := b1 0 (.int .u64 (cm : Nat)) rfl
  have y1 := b1 1 (.int .i64 who) rfl
  have y2 := b1 2 (.int .i64 at2) rfl
  have m1 := st_sig z1.cell
  have m2 := st_sig z2.cell
  have M1 := Lib.hid m1
  have M2 := Lib.hid m2
  have CS := Lib.hid (fun W h1 h2 => ksame_ok sw lf s A A' c c' l hl W h1 h2)
  have e0 : ((cm : Int) == (cm : Int)) = true := by simp
  have e1 : (who == who) = true := by simp
  have e2 : (at_ == at2) = false := by simpa using hne
  clear b0 b1 z1 z2 m1 m2
  go_enter Tryz.func32, Tryz.ntmps32
  go_wp2_with (first
    | (refine wpList_load_mid_want (by rfl) 42 (.tmp 25) rfl w.heap.size 3 rfl (sgC sw lf s (.slice A l.length c)).toList _ M1.out hus rfl HSL1.out ?_; simp only [Array.toArray_toList])
    | (refine wpList_load_mid_want (by rfl) 42 (.tmp 27) rfl (w.heap.size + 1) 3 rfl (sgC sw lf s (.slice A' l.length c')).toList _ M2.out hus rfl HSL2.out ?_; simp only [Array.toArray_toList]))
  go_ret
  exact ⟨rfl, G0⟩
end Go.Proofs.YtaeopobofmpioaaGreatDoor

namespace Go.Proofs.YtaeopobofmpioaaGreatDoor
set_option linter.unusedSimpArgs false
set_option linter.unusedVariables false
open Go.RowKit
set_option linter.unusedVariables false
set_option linter.unusedSimpArgs false
set_option maxRecDepth 100000 in
set_option maxHeartbeats 900000 in
theorem stparse_ok (cm : Nat) (who at_ sw lf : Int) (s : Nat → Nat) (l : List Nat) (hc : cm < 18446744073709551616) (hw : -2147483648 ≤ who ∧ who ≤ 2147483647) (ha : in64 at_) (hsw : 0 ≤ sw ∧ sw ≤ 15) (hlf : 0 ≤ lf ∧ lf ≤ 9223372036854775807) (hl : l.length ≤ 8) (hs : ∀ k, k < 18 → s k < 18446744073709551616) (hb : ∀ n ∈ l, n < 18446744073709551616) (w : World) (hS : Std w) :
    Calls Tryz.prog 28 #[.string ⟨(stT cm who at_ sw lf s l).toArray⟩] w fun e w' => (∃ A c, e = .returned (.tuple #[.agg (stC cm who at_ sw lf s (.slice A l.length c)), .int .i64 0]) ∧ Rd w' w'.heap.size A (u64L l)) ∧ Grew w w' := by
  have HS := Lib.hid hS
  have iw : in64 who := ⟨by omega, by omega⟩
  have isw : in64 sw := ⟨by omega, by omega⟩
  have ilf : in64 lf := ⟨by omega, by omega⟩
  have l0 := hexL_length cm
  have l1 := itoa_len iw.1 iw.2
  have l2 := itoa_len ha.1 ha.2
  have l3 := sgT_len sw lf s l isw ilf (by omega)
  have lT := stT_len cm who at_ sw lf s l iw ha isw ilf (by omega)
  have CS := Lib.hid (fun W => split_some (s := ⟨(stT cm who at_ sw lf s l).toArray⟩) (l := [hexL cm, Lib.itoa who, Lib.itoa at_, sgT sw lf s l]) (split_join _) (by simp) (by show (stT cm who at_ sw lf s l).toArray.size ≤ _; simp; omega) W)
  rw [show txt [hexL cm, Lib.itoa who, Lib.itoa at_, sgT sw lf s l] = [⟨(hexL cm).toArray⟩, ⟨(Lib.itoa who).toArray⟩, ⟨(Lib.itoa at_).toArray⟩, ⟨(sgT sw lf s l).toArray⟩] from rfl] at CS
  have N1 := Lib.hid (fun W hW => parseNum_ok ⟨(Lib.itoa who).toArray⟩ (by show (Lib.itoa who).toArray.size ≤ _; simp; omega) W hW)
  have N2 := Lib.hid (fun W hW => parseNum_ok ⟨(Lib.itoa at_).toArray⟩ (by show (Lib.itoa at_).toArray.size ≤ _; simp; omega) W hW)
  have HP := Lib.hid (fun W => parse_any ⟨(hexL cm).toArray⟩ W)
  have KP := Lib.hid (fun W hW => kparse_fr sw lf s l hsw hlf hl hs hb W hW)
  have p1 := pnum_itoa iw.1 iw.2
  have p2 := pnum_itoa ha.1 ha.2
  have p0 := parseO_hexL cm hc
  simp only [p1] at N1
  simp only [p2] at N2
  have HP2 : Hid (∀ W : World, Calls Tryz.prog 86 #[.string ⟨(hexL cm).toArray⟩] W fun e w' => e = .returned (.tuple #[.int .u64 (cm : Nat), .int .i64 0]) ∧ W = w') := Lib.hid (fun W => by
    have := HP.out W
    simp only [p0] at this
    exact this)
  clear p0 p1 p2 l0 l1 l2 l3 lT iw isw ilf hsw hlf hl hs hb hc ha hS HP
  generalize (⟨(stT cm who at_ sw lf s l).toArray⟩ : ByteArray) = tj at *
  generalize (⟨(hexL cm).toArray⟩ : ByteArray) = t0 at *
  generalize (⟨(Lib.itoa who).toArray⟩ : ByteArray) = t1 at *
  generalize (⟨(Lib.itoa at_).toArray⟩ : ByteArray) = t2 at *
  generalize (⟨(sgT sw lf s l).toArray⟩ : ByteArray) = t3 at *
  have z0 := Ag.new w 44 (#[.int .u64 0, .int .i64 0, .int .i64 0, .int .i64 0, .int .i64 0, .int .u64 0, .int .u64 0, .int .u64 0, .int .u64 0, .int .u64 0, .int .u64 0, .int .u64 0, .int .u64 0, .int .u64 0, .int .u64 0, .int .u64 0, .int .u64 0, .int .u64 0, .int .u64 0, .int .u64 0, .int .u64 0, .int .u64 0, .int .u64 0, .slice none 0 0])
  have g0 := grew_alloc (grew_refl w) (.cells (#[.int .u64 0, .int .i64 0, .int .i64 0, .int .i64 0, .int .i64 0, .int .u64 0, .int .u64 0, .int .u64 0, .int .u64 0, .int .u64 0, .int .u64 0, .int .u64 0, .int .u64 0, .int .u64 0, .int .u64 0, .int .u64 0, .int .u64 0, .int .u64 0, .int .u64 0, .int .u64 0, .int .u64 0, .int .u64 0, .int .u64 0, .slice none 0 0]) 44)
  have hus := Tryz.underlying42
  have hut := Tryz.underlying44
  have hw1 : ¬ who < -2147483648 := by omega
  have hw2 : ¬ 2147483647 < who := by omega
  go_enter Tryz.func28, Tryz.ntmps28
  go_wp2_with fail
  refine (CS.out _).mono ?_
  rintro e w1 ⟨⟨v1, rfl, o1⟩, gg⟩
  have z1 := z0.grew gg
  have g1 := grew_trans g0 gg
  obtain ⟨g, k1, rfl, hk1, hgl, hcs⟩ := own_cells o1 (by simp)
  have x0 : w1.cell? ⟨g, 0, none⟩ = some (.string t0) := by simpa using hcs 0 (.string t0) rfl
  have x1 : w1.cell? ⟨g, 1, none⟩ = some (.string t1) := by simpa using hcs 1 (.string t1) rfl
  have x2 : w1.cell? ⟨g, 2, none⟩ = some (.string t2) := by simpa using hcs 2 (.string t2) rfl
  have x3 : w1.cell? ⟨g, 3, none⟩ = some (.string t3) := by simpa using hcs 3 (.string t3) rfl
  clear CS z0 g0 gg o1 hcs
  have hk1' : (4 : Int) ≤ (k1 : Int) := by
    have : 4 ≤ k1 := hk1
    omega
  go_wp2_with fail
  refine (N1.out _ (HS.out.grew g1)).mono ?_
  rintro e w2 ⟨rfl, gg⟩
  have y0 := (gg.cell (p := ⟨g, 0, none⟩) hgl).trans x0
  have y2 := (gg.cell (p := ⟨g, 2, none⟩) hgl).trans x2
  have y3 := (gg.cell (p := ⟨g, 3, none⟩) hgl).trans x3
  have hgl2 := Nat.lt_of_lt_of_le hgl gg.size
  have z2 := z1.grew gg
  have g2 := grew_trans g1 gg
  clear N1 x0 x1 x2 x3 z1 g1 gg hgl
  go_wp2_with fail
  refine (N2.out _ (HS.out.grew g2)).mono ?_
  rintro e w3 ⟨rfl, gg⟩
  have x0 := (gg.cell (p := ⟨g, 0, none⟩) hgl2).trans y0
  have x3 := (gg.cell (p := ⟨g, 3, none⟩) hgl2).trans y3
  have hgl3 := Nat.lt_of_lt_of_le hgl2 gg.size
  have z3 := z2.grew gg
  have g3 := grew_trans g2 gg
  clear N2 y0 y2 y3 z2 g2 gg hgl2
  go_wp2_with fail
  refine (HP2.out _).mono ?_
  rintro e v3 ⟨rfl, rfl⟩
  go_wp2_with fail
  refine (KP.out _ (HS.out.grew g3)).mono ?_
  rintro e w4 ⟨⟨A, c, rfl, r4, hA4⟩, gg⟩
  have z4 := z3.grew gg
  have g4 := grew_trans g3 gg
  have HSI1 : Hid ((Tryz.prog.info? 42).map (·.size) = some (sgC sw lf s (.slice A l.length c)).size) := Lib.hid sg_info
  have HSL1 : Hid ((Tryz.prog.info? 42).map (·.size) = some (sgC sw lf s (.slice A l.length c)).toList.length) := Lib.hid sg_info
  have HON1 := Lib.hid (sgC_one sw lf s A l.length c)
  have HBU := Lib.hid (st_built cm who at_ sw lf s A l.length c)
  have zt := Ag.new w4 42 (#[.int .i64 0, .int .i64 0, .int .u64 0, .int .u64 0, .int .u64 0, .int .u64 0, .int .u64 0, .int .u64 0, .int .u64 0, .int .u64 0, .int .u64 0, .int .u64 0, .int .u64 0, .int .u64 0, .int .u64 0, .int .u64 0, .int .u64 0, .int .u64 0, .int .u64 0, .int .u64 0, .slice none 0 0])
  have HTH : Hid ((w4.alloc (.cells (#[.int .i64 0, .int .i64 0, .int .u64 0, .int .u64 0, .int .u64 0, .int .u64 0, .int .u64 0, .int .u64 0, .int .u64 0, .int .u64 0, .int .u64 0, .int .u64 0, .int .u64 0, .int .u64 0, .int .u64 0, .int .u64 0, .int .u64 0, .int .u64 0, .int .u64 0, .int .u64 0, .slice none 0 0]) 42)).there w4.heap.size 0 (sgC sw lf s (.slice A l.length c)).size) := Lib.hid (zt.thereN 21 rfl)
  have z5 := Ag.set (vs := (sgC sw lf s (.slice A l.length c)).toList) zt rfl
  have g5 : Grew w4 ((w4.alloc (.cells (#[.int .i64 0, .int .i64 0, .int .u64 0, .int .u64 0, .int .u64 0, .int .u64 0, .int .u64 0, .int .u64 0, .int .u64 0, .int .u64 0, .int .u64 0, .int .u64 0, .int .u64 0, .int .u64 0, .int .u64 0, .int .u64 0, .int .u64 0, .int .u64 0, .int .u64 0, .int .u64 0, .slice none 0 0]) 42)).setCells w4.heap.size 0 (sgC sw lf s (.slice A l.length c)).toList) := setCells_grew (o := 0) (b := w4.heap.size) (sgC sw lf s (.slice A l.length c)).toList (grew_alloc (grew_refl w4) _) (Nat.le_refl _)
  have z6 := z4.grew g5
  have r6 := r4.gr g5
  have g6 := grew_trans g4 g5
  obtain ⟨g1, hg1⟩ : ∃ g, sgC sw lf s (.slice A l.length c) = g := ⟨_, rfl⟩
  rw [hg1] at HSI1 HSL1 HON1 HTH HBU z5 z6 r6 g6 ⊢
  obtain ⟨w6, hw6⟩ : ∃ v, (w4.alloc (.cells (#[.int .i64 0, .int .i64 0, .int .u64 0, .int .u64 0, .int .u64 0, .int .u64 0, .int .u64 0, .int .u64 0, .int .u64 0, .int .u64 0, .int .u64 0, .int .u64 0, .int .u64 0, .int .u64 0, .int .u64 0, .int .u64 0, .int .u64 0, .int .u64 0, .int .u64 0, .int .u64 0, .slice none 0 0]) 42)).setCells w4.heap.size 0 g1.toList = v := ⟨_, rfl⟩
  rw [hw6] at z5 z6 r6 g6
  have HW6 := Lib.hid hw6
  have hm5 := z5.cell
  have hz3 := z3.lt
  have HFR : Hid (l.length = 0 ∨ ∀ ad, A = some ad → ad.block ≠ w.heap.size) := Lib.hid (.inr (fun ad e => by have := hA4 ad e; omega))
  clear hz3 hA4 hw6 hg1 zt g5 x0 x3 z3 g3 z4 g4 gg r4 hgl3
  have HTZ : Hid (w6.there w.heap.size 0 (stC cm who at_ sw lf s (.slice A l.length c)).size) := Lib.hid (z6.thereN 24 rfl)
  have HOZ := Lib.hid (stC_one cm who at_ sw lf s A l.length c)
  have HSZ : Hid ((Tryz.prog.info? 44).map (·.size) = some (stC cm who at_ sw lf s (.slice A l.length c)).size) := Lib.hid st_info
  have HSZL : Hid ((Tryz.prog.info? 44).map (·.size) = some (stC cm who at_ sw lf s (.slice A l.length c)).toList.length) := Lib.hid st_info
  have z7 := Ag.set (vs := (stC cm who at_ sw lf s (.slice A l.length c)).toList) z6 rfl
  have K7 := setCells_kp (stC cm who at_ sw lf s (.slice A l.length c)).toList w.heap.size 0 w6
  have G7 := setCells_grew (o := 0) (b := w.heap.size) (stC cm who at_ sw lf s (.slice A l.length c)).toList g6 (Nat.le_refl _)
  have R7 : Rd (w6.setCells w.heap.size 0 (stC cm who at_ sw lf s (.slice A l.length c)).toList) (w6.setCells w.heap.size 0 (stC cm who at_ sw lf s (.slice A l.length c)).toList).heap.size A (u64L l) := by
    rcases HFR.out with h0 | hf
    · exact fun j hj => absurd hj (by simp [u64L]; omega)
    · exact (r6.kp K7 (Nat.le_refl _) (fun ad e1 _ (e3 : ad.block = w.heap.size) => hf ad e1 e3)).more K7.size
  obtain ⟨g2, hg2⟩ : ∃ g, stC cm who at_ sw lf s (.slice A l.length c) = g := ⟨_, rfl⟩
  have HG2' := Lib.hid hg2
  rw [hg2] at HTZ HOZ HSZ HSZL HBU z7 G7 R7
  clear z6 K7 r6 g6 hg2
  go_wp2_with (first
    | (with_reducible refine wpList_store_mid rfl 42 (.tmp 11) (.tmp 70) rfl w4.heap.size 0 g1 rfl rfl HTH.out HSI1.out HON1.out ?_; rw [HW6.out]; clear HW6 HTH)
    | (with_reducible refine wpList_load_mid rfl 42 (.tmp 11) rfl w4.heap.size 0 rfl g1.toList _ hm5 hus rfl HSL1.out ?_; simp only [Array.toArray_toList])
    | (with_reducible refine wpList_build_is rfl 44 #[(0, .tmp 76), (1, .tmp 77), (2, .tmp 78), (3, .tmp 79)] rfl g2 ?_ ?_; · simpa [Act.eval, Act.put] using HBU.out)
    | (with_reducible refine wpList_store_mid rfl 44 (.tmp 2) (.tmp 80) rfl w.heap.size 0 g2 rfl rfl HTZ.out HSZ.out HOZ.out ?_))
  exact bodyPost_ret (results_ag2 Tryz.results28 _ _ w.heap.size _ _ _ rfl rfl z7 hut rfl HSZL.out) rfl ⟨⟨A, c, by show Ending.returned (.tuple #[.agg g2.toList.toArray, .int .i64 0]) = _; rw [Array.toArray_toList, ← HG2'.out], R7⟩, G7⟩
end Go.Proofs.YtaeopobofmpioaaGreatDoor
