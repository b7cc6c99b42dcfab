/- key.Parse of a signature's words. -/
import Derived.Laws.Cover3
import Derived.Deep.Cut
import Derived.Test.YtaeopobofmpioaaGreatDoorZbh
import Derived.Test.YtaeopobofmpioaaGreatDoorZat
import Derived.Laws.MakeOwn
import Derived.Test.YtaeopobofmpioaaGreatDoorZas
import Derived.Test.YtaeopobofmpioaaGreatDoorZak
import Derived.Test.YtaeopobofmpioaaGreatDoorZaj
import Derived.Test.YtaeopobofmpioaaGreatDoorZbg
import Derived.Test.YtaeopobofmpioaaGreatDoorZai
import Derived.Test.YtaeopobofmpioaaGreatDoorZax
import Derived.Test.YtaeopobofmpioaaGreatDoorZbf
namespace Go.Proofs.YtaeopobofmpioaaGreatDoor
set_option linter.unusedSimpArgs false
set_option linter.unusedVariables false
open Go.RowKit
set_option linter.unusedVariables false
theorem rd_range {w : World} {B g : Nat} {xs : List Value} (h : Rd w B (some ⟨g, 0, none⟩) xs) : w.rangeAt g 0 xs := by
  intro j v hj
  have hj' := (List.getElem?_eq_some_iff.1 hj).1
  obtain ⟨ad, e, _, hc⟩ := h j hj'
  injection e with e
  subst e
  rw [Addr.add_mid] at hc
  rw [hc, ← hj, List.getElem?_eq_getElem hj']
theorem one_arr (s : Nat → Nat) : (u64L (oneL s)).toArray = arrU s := by
  simp [u64L, oneL, arrU]
  intro a _
  rfl
set_option maxRecDepth 100000 in
set_option maxHeartbeats 1000000 in
theorem kparse_fr (who leaf : Int) (s : Nat → Nat) (l : List Nat) (hw : 0 ≤ who ∧ who ≤ 15) (hlf : 0 ≤ leaf ∧ leaf ≤ 9223372036854775807) (hl : l.length ≤ 8) (hs : ∀ k, k < 18 → s k < 18446744073709551616) (hb : ∀ n ∈ l, n < 18446744073709551616) (w : World) (hS : Std w) :
    Calls Tryz.prog 87 #[.string ⟨(sgT who leaf s l).toArray⟩] w fun e w' => (∃ A c, e = .returned (.tuple #[.agg (sgC who leaf s (.slice A l.length c)), .int .i64 0]) ∧ Rd w' w'.heap.size A (u64L l) ∧ (∀ ad, A = some ad → w.heap.size < ad.block)) ∧ Grew w w' := by
  have HS := Lib.hid hS
  have iw : in64 who := ⟨by omega, by omega⟩
  have il : in64 leaf := ⟨by omega, by omega⟩
  have l0 := itoa_len iw.1 iw.2
  have l1 := itoa_len il.1 il.2
  have l2 := digs_len (oneL s)
  rw [oneL_length] at l2
  have l3 := digs_len l
  have lT : (sgT who leaf s l).length ≤ 100000000 := by
    have f1 := fld_len (Lib.itoa who)
    have f2 := fld_len (Lib.itoa leaf)
    have f3 := fld_len (digs (oneL s))
    have f4 := fld_len (digs l)
    unfold sgT
    simp only [joinF, List.flatMap_cons, List.flatMap_nil, List.length_append, List.length_cons, List.length_nil]
    omega
  have CS := Lib.hid (fun W => split_some (s := ⟨(sgT who leaf s l).toArray⟩) (l := [Lib.itoa who, Lib.itoa leaf, digs (oneL s), digs l]) (split_join _) (by simp) (by show (sgT who leaf s l).toArray.size ≤ _; simpa using lT) W)
  rw [show txt [Lib.itoa who, Lib.itoa leaf, digs (oneL s), digs l] = [⟨(Lib.itoa who).toArray⟩, ⟨(Lib.itoa leaf).toArray⟩, ⟨(digs (oneL s)).toArray⟩, ⟨(digs l).toArray⟩] from rfl] at CS
  have U0 := Lib.hid (fun W hW => upto_ok ⟨(Lib.itoa who).toArray⟩ (by show (Lib.itoa who).toArray.size ≤ _; simp; omega) 15 W hW)
  have U1 := Lib.hid (fun W hW => upto_ok ⟨(Lib.itoa leaf).toArray⟩ (by show (Lib.itoa leaf).toArray.size ≤ _; simp; omega) 9223372036854775807 W hW)
  have D2 := Lib.hid (fun W hW => pdigs_ok ⟨(digs (oneL s)).toArray⟩ (by show (digs (oneL s)).toArray.size ≤ _; simp; omega) W hW)
  have D3 := Lib.hid (fun W hW => pdigs_ok ⟨(digs l).toArray⟩ (by show (digs l).toArray.size ≤ _; simp; omega) W hW)
  have p0 := pnum_itoa iw.1 iw.2
  have p1 := pnum_itoa il.1 il.2
  have b0 : uptoB (Lib.itoa who) 15 = true := decide_eq_true (by rw [p0]; exact ⟨rfl, hw⟩)
  have b1 : uptoB (Lib.itoa leaf) 9223372036854775807 = true := decide_eq_true (by rw [p1]; exact ⟨rfl, hlf⟩)
  have d2 := pdigs_digs (oneL s) (fun x hx => by
    obtain ⟨k, hk, rfl⟩ := List.mem_map.1 hx
    exact hs k (List.mem_range.1 hk))
  have d3 := pdigs_digs l hb
  simp only [p0, b0] at U0
  simp only [p1, b1] at U1
  simp only [d2, Option.isSome_some, Option.getD_some, oneL_length] at D2
  simp only [d3, Option.isSome_some, Option.getD_some] at D3
  clear p0 p1 b0 b1 d2 d3 l0 l1 l2 l3 lT iw il hw hlf hs hb hS
  generalize (⟨(sgT who leaf s l).toArray⟩ : ByteArray) = tj at *
  generalize (⟨(Lib.itoa who).toArray⟩ : ByteArray) = t0 at *
  generalize (⟨(Lib.itoa leaf).toArray⟩ : ByteArray) = t1 at *
  generalize (⟨(digs (oneL s)).toArray⟩ : ByteArray) = t2 at *
  generalize (⟨(digs l).toArray⟩ : ByteArray) = t3 at *
  have z0 := alloc_sig w
  have g0 := grew_alloc (grew_refl w) (.cells (#[.int .i64 0, .int .i64 0, .int .u64 0, .int .u64 0, .int .u64 0, .int .u64 0, .int .u64 0, .int .u64 0, .int .u64 0, .int .u64 0, .int .u64 0, .int .u64 0, .int .u64 0, .int .u64 0, .int .u64 0, .int .u64 0, .int .u64 0, .int .u64 0, .int .u64 0, .int .u64 0, .slice none 0 0]) 42)
  have hus := Tryz.underlying42
  have hl8 : ¬ (8 : Int) < (l.length : Int) := by omega
  go_enter Tryz.func87, Tryz.ntmps87
  go_wp2_with fail
  refine (CS.out _).mono ?_
  rintro e w1 ⟨⟨v1, rfl, o1⟩, gg⟩
  have z1 := z0.grew gg
  have g1 := grew_trans g0 gg
  obtain ⟨g, k1, rfl, hk1, hgl, hcs⟩ := own_cells o1 (by simp)
  have x0 : w1.cell? ⟨g, 0, none⟩ = some (.string t0) := by simpa using hcs 0 (.string t0) rfl
  have x1 : w1.cell? ⟨g, 1, none⟩ = some (.string t1) := by simpa using hcs 1 (.string t1) rfl
  have x2 : w1.cell? ⟨g, 2, none⟩ = some (.string t2) := by simpa using hcs 2 (.string t2) rfl
  have x3 : w1.cell? ⟨g, 3, none⟩ = some (.string t3) := by simpa using hcs 3 (.string t3) rfl
  clear CS z0 g0 gg o1 hcs
  have hk1' : (4 : Int) ≤ (k1 : Int) := by
    have : 4 ≤ k1 := hk1
    omega
  go_wp2_with fail
  refine (U0.out _ (HS.out.grew g1)).mono ?_
  rintro e w2 ⟨rfl, gg⟩
  have y1 := (gg.cell (p := ⟨g, 1, none⟩) hgl).trans x1
  have y2 := (gg.cell (p := ⟨g, 2, none⟩) hgl).trans x2
  have y3 := (gg.cell (p := ⟨g, 3, none⟩) hgl).trans x3
  have hgl2 := Nat.lt_of_lt_of_le hgl gg.size
  have z2 := z1.grew gg
  have g2 := grew_trans g1 gg
  clear U0 x0 x1 x2 x3 z1 g1 gg hgl
  go_wp2_with fail
  refine (U1.out _ (HS.out.grew g2)).mono ?_
  rintro e w3 ⟨rfl, gg⟩
  have x2 := (gg.cell (p := ⟨g, 2, none⟩) hgl2).trans y2
  have x3 := (gg.cell (p := ⟨g, 3, none⟩) hgl2).trans y3
  have hgl3 := Nat.lt_of_lt_of_le hgl2 gg.size
  have z3 := z2.grew gg
  have g3 := grew_trans g2 gg
  clear U1 y1 y2 y3 z2 g2 gg hgl2
  go_wp2_with fail
  refine (D2.out _ (HS.out.grew g3)).mono ?_
  rintro e w4 ⟨⟨v4, rfl, o4⟩, gg⟩
  obtain ⟨A4, c4, rfl, hk4, -, r4⟩ := own_rd o4
  obtain ⟨h4, k4, e4, -, -, -⟩ := own_cells o4 (by decide)
  injection e4 with e4 e5 e6
  subst e4
  clear e5 e6
  have y3 := (gg.cell (p := ⟨g, 3, none⟩) hgl3).trans x3
  have z4 := z3.grew gg
  have g4 := grew_trans g3 gg
  clear D2 x2 x3 z3 g3 gg hgl3 o4
  go_wp2_with fail
  refine (D3.out _ (HS.out.grew g4)).mono ?_
  rintro e w5 ⟨⟨v5, rfl, o5⟩, gg⟩
  obtain ⟨A5, c5, rfl, -, -, r5⟩ := own_rd o5
  have HNE : Hid (∀ ad, A5 = some ad → w.heap.size < ad.block) := Lib.hid (fun ad h => by
    have h1 := own_base o5 ad.block (by rw [h]; rfl)
    have h2 := z4.lt
    omega)
  have r45 := r4.gr gg
  have z5 := z4.grew gg
  have g5 := grew_trans g4 gg
  have m5 := Lib.hid (rd_range r45)
  clear D3 y3 z4 g4 gg o5 r4 r45
  go_upto_region 10 with fail
  have hua := Tryz.underlying40
  have hia : (Tryz.prog.info? 40).map (·.size) = some (u64L (oneL s)).length := by rw [show (u64L (oneL s)).length = 18 by rw [u64L_length, oneL_length]]; kernel_rfl
  have hbu := sg_built who leaf s A5 l.length c5
  have hra := fun W => run_arrayAt (P := Tryz.prog) (w := W) 40 38 18 (some ⟨h4, 0, none⟩) 18 c4 hua (Nat.le_refl _)
  have HBU := Lib.hid (show Tryz.prog.built 42 [(0, .int .i64 who), (1, .int .i64 leaf), (2, .agg (u64L (oneL s)).toArray), (3, .slice A5 l.length c5)] = some (sgC who leaf s (.slice A5 l.length c5)) from by rw [one_arr]; exact hbu)
  clear hbu
  clear hk4
  generalize u64L (oneL s) = xs at *
  have hxa := Lib.hid hia
  clear hia
  have hth : w5.there w.heap.size 0 (sgC who leaf s (.slice A5 l.length c5)).size := z5.thereN 21 rfl
  have hsi : (Tryz.prog.info? 42).map (·.size) = some (sgC who leaf s (.slice A5 l.length c5)).size := sg_info
  have hone := sgC_one who leaf s A5 l.length c5
  have HTH := Lib.hid hth
  have HSI := Lib.hid hsi
  have HON := Lib.hid hone
  clear hth hsi hone
  go_wp2_with (first
    | (with_reducible refine wpList_load_mid rfl 40 (.tmp 83) rfl h4 0 rfl xs _ m5.out hua rfl hxa.out ?_)
    | (with_reducible refine wpList_build_is rfl 42 #[(0, .tmp 80), (1, .tmp 81), (2, .tmp 84), (3, .tmp 85)] rfl (sgC who leaf s (.slice A5 l.length c5)) ?_ ?_; · simpa [Act.eval, Act.put] using HBU.out)
    | (with_reducible refine wpList_store_mid rfl 42 (.tmp 2) (.tmp 86) rfl w.heap.size 0 (sgC who leaf s (.slice A5 l.length c5)) rfl rfl HTH.out HSI.out HON.out ?_; have z6 := Ag.set (vs := (sgC who leaf s (.slice A5 l.length c5)).toList) z5 rfl; have g6 := setCells_grew (o := 0) (b := w.heap.size) (sgC who leaf s (.slice A5 l.length c5)).toList g5 (Nat.le_refl _)))
  exact bodyPost_ret (results_ag2 Tryz.results87 _ _ w.heap.size _ _ _ rfl rfl z6 hus rfl sg_info) rfl ⟨⟨A5, c5, rfl, (r5.kp (setCells_kp (sgC who leaf s (.slice A5 l.length c5)).toList w.heap.size 0 w5) (Nat.le_refl _) (fun ad h1 h2 (h3 : ad.block = w.heap.size) => by have := HNE.out ad h1; omega)).more (setCells_size w5 w.heap.size 0 _), HNE.out⟩, g6⟩
end Go.Proofs.YtaeopobofmpioaaGreatDoor

namespace Go.Proofs.YtaeopobofmpioaaGreatDoor
set_option linter.unusedSimpArgs false
set_option linter.unusedVariables false
open Go.RowKit
set_option linter.unusedVariables false
theorem kp_tn {g : Nat} {w w' : World} (h : Tn g w w') : Kp (fun j => j = g) w w' := ⟨h.os, h.tape, h.output, h.size, fun i hi hn => h.block i hi (fun e => hn (by injection e))⟩
theorem grew_tn {g : Nat} {a w w' : World} (h : Grew a w) (k : Tn g w w') (hg : a.heap.size ≤ g) : Grew a w' := below_tn h k h.size hg
theorem pubsL_lt (sd : Int) (n : Nat) : ∀ x ∈ pubsL sd n, x < 18446744073709551616 := fun x hx => by
  obtain ⟨i, _, rfl⟩ := List.mem_map.1 hx
  exact pubN_lt _
end Go.Proofs.YtaeopobofmpioaaGreatDoor

namespace Go.Proofs.YtaeopobofmpioaaGreatDoor
set_option linter.unusedSimpArgs false
set_option linter.unusedVariables false
open Go.RowKit
set_option linter.unusedVariables false
theorem leaves_pow : ∀ h : Fin 9, leavesOk (2 ^ h.val) = true := by decide
end Go.Proofs.YtaeopobofmpioaaGreatDoor

namespace Go.Proofs.YtaeopobofmpioaaGreatDoor
set_option linter.unusedSimpArgs false
set_option linter.unusedVariables false
open Go.RowKit
set_option linter.unusedVariables false
end Go.Proofs.YtaeopobofmpioaaGreatDoor

namespace Go.Proofs.YtaeopobofmpioaaGreatDoor
set_option linter.unusedSimpArgs false
set_option linter.unusedVariables false
open Go.RowKit
set_option linter.unusedVariables false
set_option linter.unusedSimpArgs false
theorem Ag.set1 {w : World} {b : Nat} {cs : List Value} (h : Ag w b cs) (j : Nat) (v : Value) (hj : j < cs.length) : Ag (w.setCell ⟨b, j, none⟩ v) b (cs.set j v) := by
  have ht : w.there b j [v].length := fun i hi => by
    have : i = 0 := by simpa using hi
    subst this
    simpa using h.there j hj
  have hs := World.rangeAt_setCells_same w b j [v] ht
  have e : w.setCells b j [v] = w.setCell ⟨b, j, none⟩ v := rfl
  refine ⟨fun i x hx => ?_, fun i hi => ⟨?_, ?_⟩, Nat.lt_of_lt_of_le h.lt (by rw [← e]; exact (setCells_kp [v] b j w).size)⟩
  · by_cases hij : i = j
    · subst hij
      rw [List.getElem?_set_self hj] at hx
      cases hx
      rw [← e]
      simpa using hs 0 v rfl
    · rw [List.getElem?_set_ne (Ne.symm hij)] at hx
      rw [show (w.setCell ⟨b, j, none⟩ v).cell? ⟨b, 0 + i, none⟩ = w.cell? ⟨b, 0 + i, none⟩ from World.cell?_setCell_other w _ _ v (fun e => by injection e; omega)]
      exact h.cell i x hx
  · rw [← e]
    exact World.isSome_setCells b [v] j w _ (h.there i (by simpa using hi)).1
  · rw [← e, World.frozen?_setCells]
    exact (h.there i (by simpa using hi)).2
theorem ver_pow (sd : Int) (h : Nat) (hh : h ≤ 8) (m : Nat) (d : Int) (hd : 0 ≤ d) (hm : m < 2 ^ h) : vrS (rootN (pubsL sd (2 ^ h))) (m : Int) (signF (secN sd (m : Int)) d.toNat) (pathN (pubsL sd (2 ^ h)) m) d (h : Int) = true := by
  have hl : (pubsL sd (2 ^ h)).length = 2 ^ h := pubsL_length sd _
  obtain ⟨h1, h2⟩ := path_pow h hh (pubsL sd (2 ^ h)) m hl (by rw [hl]; omega)
  have h3 : (pubsL sd (2 ^ h)).getD m 0 = pubN (secN sd (m : Int)) := by simp [pubsL, List.getD, hm]
  rw [h3] at h2
  have hp : ((2 ^ h : Nat) : Int) = (2 : Int) ^ h := by simp
  unfold vrS
  rw [rec_sign, verN_yes (by rw [h1]; exact ⟨hh, by omega, by rw [← hp]; omega⟩), Int.toNat_natCast, h2, h1]
  simp
theorem path_len (sd : Int) (h : Nat) (hh : h ≤ 8) (m : Nat) (hm : m < 2 ^ h) : (pathN (pubsL sd (2 ^ h)) m).length = h := by
  have hl : (pubsL sd (2 ^ h)).length = 2 ^ h := pubsL_length sd _
  exact (path_pow h hh (pubsL sd (2 ^ h)) m hl (by rw [hl]; omega)).1
end Go.Proofs.YtaeopobofmpioaaGreatDoor

namespace Go.Proofs.YtaeopobofmpioaaGreatDoor
set_option linter.unusedSimpArgs false
set_option linter.unusedVariables false
open Go.RowKit
set_option linter.unusedVariables false
set_option linter.unusedSimpArgs false
structure OwnU (w : World) (B : Nat) (l : List Nat) (v : Value) : Prop where
  out : w.ownsRow B 25 1 v l.length (u64L l)
theorem OwnU.gr {w w' : World} {B : Nat} {l : List Nat} {v : Value} (h : OwnU w B l v) (g : Grew w w') : OwnU w' B l v := ⟨ownsRow_gr h.out g⟩
theorem PV.kp {S : Nat → Prop} {w w' : World} {B : Nat} {l : List Nat} {v : Value} (h : PV w B l v) (k : Kp S w w') (hs : ∀ i, S i → i < B) : PV w' B l v := by
  obtain ⟨A, c, h1, h2, h3⟩ := h.out
  exact ⟨A, c, h1, (h2.kp k (Nat.le_refl _) (fun ad e _ hS => by have h4 := h3 ad e; have h5 := hs _ hS; omega)).more k.size, h3⟩
theorem pv_one (y : World) (t : TypeId) (q : Nat) {B : Nat} (h : B ≤ y.heap.size) : PV (y.alloc (.cells #[.int .u64 (q : Nat)] t)) B [q] (.slice (some ⟨y.heap.size, 0, none⟩) 1 1) :=
  ⟨some ⟨y.heap.size, 0, none⟩, 1, rfl, rd_made y t #[.int .u64 (q : Nat)], fun ad e => by cases e; exact h⟩
def rkC (who sd h : Int) (v : Value) (nx rs : Nat) : List Value := [.int .i64 who, .int .u64 sd, .int .i64 h, v, .int .i64 (nx : Int), .int .i64 (rs : Int)]
/-- the reference's key in block b; its leaves in no block of N -/
structure RkAt (w : World) (b : Nat) (N : Nat → Prop) (who sd h : Int) (l : List Nat) (nx rs : Nat) : Prop where
  out : ∃ A c, Ag w b (rkC who sd h (.slice A l.length c) nx rs) ∧ RdN w N A (u64L l)
theorem RkAt.lt {w : World} {b : Nat} {N : Nat → Prop} {who sd h : Int} {l : List Nat} {nx rs : Nat} (k : RkAt w b N who sd h l nx rs) : b < w.heap.size := by
  obtain ⟨A, c, z, _⟩ := k.out
  exact z.lt
theorem RkAt.kp {S : Nat → Prop} {w w' : World} {b : Nat} {N : Nat → Prop} {who sd h : Int} {l : List Nat} {nx rs : Nat} (k : RkAt w b N who sd h l nx rs) (t : Kp S w w') (hb : ¬ S b) (hs : ∀ i, S i → N i) : RkAt w' b N who sd h l nx rs := by
  obtain ⟨A, c, z, r⟩ := k.out
  exact ⟨A, c, z.kp t hb, r.kp t hs⟩
theorem RkAt.grew {w w' : World} {b : Nat} {N : Nat → Prop} {who sd h : Int} {l : List Nat} {nx rs : Nat} (k : RkAt w b N who sd h l nx rs) (t : Grew w w') : RkAt w' b N who sd h l nx rs := k.kp (S := fun _ => False) (kp_grew t) (fun h => h) (fun _ h => h.elim)
end Go.Proofs.YtaeopobofmpioaaGreatDoor

namespace Go.Proofs.YtaeopobofmpioaaGreatDoor
set_option linter.unusedSimpArgs false
set_option linter.unusedVariables false
open Go.RowKit
set_option linter.unusedVariables false
set_option linter.unusedSimpArgs false
theorem RkAt.set4 {w : World} {b : Nat} {N : Nat → Prop} {who sd h : Int} {l : List Nat} {nx rs : Nat} (k : RkAt w b N who sd h l nx rs) (hN : N b) (m : Nat) : RkAt (w.setCell ⟨b, 4, none⟩ (.int .i64 (m : Int))) b N who sd h l m rs := by
  obtain ⟨A, c, z, r⟩ := k.out
  exact ⟨A, c, Ag.set1 z 4 (.int .i64 (m : Int)) (by simp [rkC]), r.kp (kp_tn (tn_set (g := b) (tn_refl _ w) (p := ⟨b, 4, none⟩) (.inl rfl) _)) (fun i e => e ▸ hN)⟩
theorem RkAt.drewN {w : World} {b : Nat} {N : Nat → Prop} {who sd h : Int} {l : List Nat} {nx rs : Nat} (k : RkAt w b N who sd h l nx rs) (n : Nat) : RkAt (w.drewN n) b N who sd h l nx rs := k.grew (grew_drewN (grew_refl w) n)
end Go.Proofs.YtaeopobofmpioaaGreatDoor

namespace Go.Proofs.YtaeopobofmpioaaGreatDoor
set_option linter.unusedSimpArgs false
set_option linter.unusedVariables false
open Go.RowKit
set_option linter.unusedVariables false
set_option linter.unusedSimpArgs false
end Go.Proofs.YtaeopobofmpioaaGreatDoor

namespace Go.Proofs.YtaeopobofmpioaaGreatDoor
set_option linter.unusedSimpArgs false
set_option linter.unusedVariables false
open Go.RowKit
set_option linter.unusedVariables false
set_option linter.unusedSimpArgs false
section
variable (l : List Nat) (nx rs : Nat) (who sd d n : Int)
def soW : Int := if l.length ≤ nx then 0 else if rs ≤ nx then 0 else who
def soL : Int := if l.length ≤ nx then 0 else if rs ≤ nx then 0 else (nx : Int)
noncomputable def soS : Nat → Nat := if l.length ≤ nx then fun _ => 0 else if rs ≤ nx then fun _ => 0 else signF (secN sd nx) d.toNat
noncomputable def soP : List Nat := if l.length ≤ nx then [] else if rs ≤ nx then [] else pathN l nx
def soE : Int := if l.length ≤ nx then 14 else if rs ≤ nx then 16 else 0
def soN : Nat := if l.length ≤ nx then nx else if rs ≤ nx then nx else nx + 1
end
theorem soP_len (l : List Nat) (nx rs : Nat) (h : ∀ m, m < l.length → (pathN l m).length ≤ 8) : (soP l nx rs).length ≤ 8 := by
  unfold soP; split
  · simp
  · split
    · simp
    · exact h nx (by omega)
theorem rd_none (w : World) : Rd w w.heap.size none (u64L []) := fun k hk => absurd hk (by simp [u64L])
set_option maxRecDepth 100000 in
theorem ksign_any (b p : Nat) (who sd : Int) (l : List Nat) (nx rs : Nat) (hl : l.length ≤ 256) (hn : nx ≤ l.length) (hr : rs ≤ l.length) (d : Int) (hkk : leavesOk l.length = true) (hbb : ∀ n ∈ l, n < 18446744073709551616) (hsd : U64 sd) (hd : U64 d) (w : World) (h : KyAt w b p who sd l nx rs) :
    Calls Tryz.prog 99 #[.pointer (some ⟨b, 0, none⟩), .int .u64 d] w fun e w' => (∃ A c, e = .returned (.tuple #[.agg (sgC (soW l nx rs who) (soL l nx rs) (soS l nx rs sd d) (.slice A (soP l nx rs).length c)), .int .i64 (soE l nx rs)]) ∧ Rd w' w'.heap.size A (u64L (soP l nx rs)) ∧ (∀ ad, A = some ad → w.heap.size ≤ ad.block)) ∧ Tn b w w' ∧ KyAt w' b p who sd l (soN l nx rs) rs := by
  unfold soW soL soS soP soE soN
  by_cases h1 : l.length ≤ nx
  · simp only [if_pos h1]
    refine (sign_spent b p who sd l nx rs hl hn hr d (by omega) w h).mono ?_
    rintro e w' ⟨rfl, g⟩
    exact ⟨⟨none, 0, rfl, rd_none _, fun ad h => by cases h⟩, tn_grew g, h.grew g⟩
  · simp only [if_neg h1]
    by_cases h2 : rs ≤ nx
    · simp only [if_pos h2]
      refine (sign_state b p who sd l nx rs hl hn hr d (by omega) h2 w h).mono ?_
      rintro e w' ⟨rfl, g⟩
      exact ⟨⟨none, 0, rfl, rd_none _, fun ad h => by cases h⟩, tn_grew g, h.grew g⟩
    · simp only [if_neg h2]
      exact sign_ok b p who sd l nx rs hl hn hr d (by omega) (by omega) hkk hbb hsd hd w h
end Go.Proofs.YtaeopobofmpioaaGreatDoor

namespace Go.Proofs.YtaeopobofmpioaaGreatDoor
set_option linter.unusedSimpArgs false
set_option linter.unusedVariables false
open Go.RowKit
set_option linter.unusedVariables false
set_option maxRecDepth 100000 in
set_option maxHeartbeats 1000000 in
theorem kparse_core (tj : ByteArray) (x0 x1 x2 x3 : List UInt8) (who leaf : Int) (s : Nat → Nat) (l : List Nat) (hsp : splitF tj.data.toList = some [x0, x1, x2, x3]) (hz : tj.size ≤ 1000000) (l0 : x0.length ≤ 1000000) (l1 : x1.length ≤ 1000000) (l2 : x2.length ≤ 1000000) (l3 : x3.length ≤ 1000000)
    (p0 : (pnum x0).1 = who) (b0 : uptoB x0 15 = true) (p1 : (pnum x1).1 = leaf) (b1 : uptoB x1 9223372036854775807 = true) (d2 : pdigs x2 = some (oneL s)) (d3 : pdigs x3 = some l) (hl : l.length ≤ 8) (w : World) (hS : Std w) :
    Calls Tryz.prog 87 #[.string tj] w fun e w' => (∃ A c, e = .returned (.tuple #[.agg (sgC who leaf s (.slice A l.length c)), .int .i64 0]) ∧ Rd w' w'.heap.size A (u64L l) ∧ (∀ ad, A = some ad → w.heap.size < ad.block)) ∧ Grew w w' := by
  have HS := Lib.hid hS
  have CS := Lib.hid (fun W => split_some (s := tj) (l := [x0, x1, x2, x3]) hsp (by simp) (by omega) W)
  rw [show txt [x0, x1, x2, x3] = [⟨x0.toArray⟩, ⟨x1.toArray⟩, ⟨x2.toArray⟩, ⟨x3.toArray⟩] from rfl] at CS
  have U0 := Lib.hid (fun W hW => upto_ok ⟨x0.toArray⟩ (by show x0.toArray.size ≤ _; simp; omega) 15 W hW)
  have U1 := Lib.hid (fun W hW => upto_ok ⟨x1.toArray⟩ (by show x1.toArray.size ≤ _; simp; omega) 9223372036854775807 W hW)
  have D2 := Lib.hid (fun W hW => pdigs_ok ⟨x2.toArray⟩ (by show x2.toArray.size ≤ _; simp; omega) W hW)
  have D3 := Lib.hid (fun W hW => pdigs_ok ⟨x3.toArray⟩ (by show x3.toArray.size ≤ _; simp; omega) W hW)
  simp only [p0, b0] at U0
  simp only [p1, b1] at U1
  simp only [d2, Option.isSome_some, Option.getD_some, oneL_length] at D2
  simp only [d3, Option.isSome_some, Option.getD_some] at D3
  clear p0 p1 b0 b1 d2 d3 l0 l1 l2 l3 hz hsp hS
  generalize (⟨x0.toArray⟩ : ByteArray) = t0 at *
  generalize (⟨x1.toArray⟩ : ByteArray) = t1 at *
  generalize (⟨x2.toArray⟩ : ByteArray) = t2 at *
  generalize (⟨x3.toArray⟩ : ByteArray) = t3 at *
  have z0 := alloc_sig w
  have g0 := grew_alloc (grew_refl w) (.cells (#[.int .i64 0, .int .i64 0, .int .u64 0, .int .u64 0, .int .u64 0, .int .u64 0, .int .u64 0, .int .u64 0, .int .u64 0, .int .u64 0, .int .u64 0, .int .u64 0, .int .u64 0, .int .u64 0, .int .u64 0, .int .u64 0, .int .u64 0, .int .u64 0, .int .u64 0, .int .u64 0, .slice none 0 0]) 42)
  have hus := Tryz.underlying42
  have hl8 : ¬ (8 : Int) < (l.length : Int) := by omega
  go_enter Tryz.func87, Tryz.ntmps87
  go_wp2_with fail
  refine (CS.out _).mono ?_
  rintro e w1 ⟨⟨v1, rfl, o1⟩, gg⟩
  have z1 := z0.grew gg
  have g1 := grew_trans g0 gg
  obtain ⟨g, k1, rfl, hk1, hgl, hcs⟩ := own_cells o1 (by simp)
  have x0 : w1.cell? ⟨g, 0, none⟩ = some (.string t0) := by simpa using hcs 0 (.string t0) rfl
  have x1 : w1.cell? ⟨g, 1, none⟩ = some (.string t1) := by simpa using hcs 1 (.string t1) rfl
  have x2 : w1.cell? ⟨g, 2, none⟩ = some (.string t2) := by simpa using hcs 2 (.string t2) rfl
  have x3 : w1.cell? ⟨g, 3, none⟩ = some (.string t3) := by simpa using hcs 3 (.string t3) rfl
  clear CS z0 g0 gg o1 hcs
  have hk1' : (4 : Int) ≤ (k1 : Int) := by
    have : 4 ≤ k1 := hk1
    omega
  go_wp2_with fail
  refine (U0.out _ (HS.out.grew g1)).mono ?_
  rintro e w2 ⟨rfl, gg⟩
  have y1 := (gg.cell (p := ⟨g, 1, none⟩) hgl).trans x1
  have y2 := (gg.cell (p := ⟨g, 2, none⟩) hgl).trans x2
  have y3 := (gg.cell (p := ⟨g, 3, none⟩) hgl).trans x3
  have hgl2 := Nat.lt_of_lt_of_le hgl gg.size
  have z2 := z1.grew gg
  have g2 := grew_trans g1 gg
  clear U0 x0 x1 x2 x3 z1 g1 gg hgl
  go_wp2_with fail
  refine (U1.out _ (HS.out.grew g2)).mono ?_
  rintro e w3 ⟨rfl, gg⟩
  have x2 := (gg.cell (p := ⟨g, 2, none⟩) hgl2).trans y2
  have x3 := (gg.cell (p := ⟨g, 3, none⟩) hgl2).trans y3
  have hgl3 := Nat.lt_of_lt_of_le hgl2 gg.size
  have z3 := z2.grew gg
  have g3 := grew_trans g2 gg
  clear U1 y1 y2 y3 z2 g2 gg hgl2
  go_wp2_with fail
  refine (D2.out _ (HS.out.grew g3)).mono ?_
  rintro e w4 ⟨⟨v4, rfl, o4⟩, gg⟩
  obtain ⟨A4, c4, rfl, hk4, -, r4⟩ := own_rd o4
  obtain ⟨h4, k4, e4, -, -, -⟩ := own_cells o4 (by decide)
  injection e4 with e4 e5 e6
  subst e4
  clear e5 e6
  have y3 := (gg.cell (p := ⟨g, 3, none⟩) hgl3).trans x3
  have z4 := z3.grew gg
  have g4 := grew_trans g3 gg
  clear D2 x2 x3 z3 g3 gg hgl3 o4
  go_wp2_with fail
  refine (D3.out _ (HS.out.grew g4)).mono ?_
  rintro e w5 ⟨⟨v5, rfl, o5⟩, gg⟩
  obtain ⟨A5, c5, rfl, -, -, r5⟩ := own_rd o5
  have HNE : Hid (∀ ad, A5 = some ad → w.heap.size < ad.block) := Lib.hid (fun ad h => by
    have h1 := own_base o5 ad.block (by rw [h]; rfl)
    have h2 := z4.lt
    omega)
  have r45 := r4.gr gg
  have z5 := z4.grew gg
  have g5 := grew_trans g4 gg
  have m5 := Lib.hid (rd_range r45)
  clear D3 y3 z4 g4 gg o5 r4 r45
  go_upto_region 10 with fail
  have hua := Tryz.underlying40
  have hia : (Tryz.prog.info? 40).map (·.size) = some (u64L (oneL s)).length := by rw [show (u64L (oneL s)).length = 18 by rw [u64L_length, oneL_length]]; kernel_rfl
  have hbu := sg_built who leaf s A5 l.length c5
  have hra := fun W => run_arrayAt (P := Tryz.prog) (w := W) 40 38 18 (some ⟨h4, 0, none⟩) 18 c4 hua (Nat.le_refl _)
  have HBU := Lib.hid (show Tryz.prog.built 42 [(0, .int .i64 who), (1, .int .i64 leaf), (2, .agg (u64L (oneL s)).toArray), (3, .slice A5 l.length c5)] = some (sgC who leaf s (.slice A5 l.length c5)) from by rw [one_arr]; exact hbu)
  clear hbu
  clear hk4
  generalize u64L (oneL s) = xs at *
  have hxa := Lib.hid hia
  clear hia
  have hth : w5.there w.heap.size 0 (sgC who leaf s (.slice A5 l.length c5)).size := z5.thereN 21 rfl
  have hsi : (Tryz.prog.info? 42).map (·.size) = some (sgC who leaf s (.slice A5 l.length c5)).size := sg_info
  have hone := sgC_one who leaf s A5 l.length c5
  have HTH := Lib.hid hth
  have HSI := Lib.hid hsi
  have HON := Lib.hid hone
  clear hth hsi hone
  go_wp2_with (first
    | (with_reducible refine wpList_load_mid rfl 40 (.tmp 83) rfl h4 0 rfl xs _ m5.out hua rfl hxa.out ?_)
    | (with_reducible refine wpList_build_is rfl 42 #[(0, .tmp 80), (1, .tmp 81), (2, .tmp 84), (3, .tmp 85)] rfl (sgC who leaf s (.slice A5 l.length c5)) ?_ ?_; · simpa [Act.eval, Act.put] using HBU.out)
    | (with_reducible refine wpList_store_mid rfl 42 (.tmp 2) (.tmp 86) rfl w.heap.size 0 (sgC who leaf s (.slice A5 l.length c5)) rfl rfl HTH.out HSI.out HON.out ?_; have z6 := Ag.set (vs := (sgC who leaf s (.slice A5 l.length c5)).toList) z5 rfl; have g6 := setCells_grew (o := 0) (b := w.heap.size) (sgC who leaf s (.slice A5 l.length c5)).toList g5 (Nat.le_refl _)))
  exact bodyPost_ret (results_ag2 Tryz.results87 _ _ w.heap.size _ _ _ rfl rfl z6 hus rfl sg_info) rfl ⟨⟨A5, c5, rfl, (r5.kp (setCells_kp (sgC who leaf s (.slice A5 l.length c5)).toList w.heap.size 0 w5) (Nat.le_refl _) (fun ad h1 h2 (h3 : ad.block = w.heap.size) => by have := HNE.out ad h1; omega)).more (setCells_size w5 w.heap.size 0 _), HNE.out⟩, g6⟩
end Go.Proofs.YtaeopobofmpioaaGreatDoor

namespace Go.Proofs.YtaeopobofmpioaaGreatDoor
set_option linter.unusedSimpArgs false
set_option linter.unusedVariables false
open Go.RowKit
set_option linter.unusedVariables false
set_option linter.unusedSimpArgs false
/-- four fields that are a signature's -/
def sig4 (x0 x1 x2 x3 : List UInt8) : Bool := uptoB x0 15 && uptoB x1 9223372036854775807 && (pdigs x2).isSome && (pdigs x3).isSome && decide (((pdigs x2).getD []).length = 18) && decide (((pdigs x3).getD []).length ≤ 8)
/-- who, leaf, the digests, the way of any text; or none -/
def sigP (S : List UInt8) : Option ((Int × Int) × List Nat × List Nat) :=
  match splitF S with
  | some [x0, x1, x2, x3] => if sig4 x0 x1 x2 x3 = true then some (((pnum x0).1, (pnum x1).1), (pdigs x2).getD [], (pdigs x3).getD []) else none
  | _ => none
set_option maxRecDepth 100000 in
set_option maxHeartbeats 1000000 in
theorem kparse_split (tj : ByteArray) (hz : tj.size ≤ 1000000) (hno : ∀ x0 x1 x2 x3, splitF tj.data.toList ≠ some [x0, x1, x2, x3]) (w : World) :
    Calls Tryz.prog 87 #[.string tj] w fun e w' => e = .returned (.tuple #[.agg (#[.int .i64 0, .int .i64 0, .int .u64 0, .int .u64 0, .int .u64 0, .int .u64 0, .int .u64 0, .int .u64 0, .int .u64 0, .int .u64 0, .int .u64 0, .int .u64 0, .int .u64 0, .int .u64 0, .int .u64 0, .int .u64 0, .int .u64 0, .int .u64 0, .int .u64 0, .int .u64 0, .slice none 0 0]), .int .i64 2]) ∧ Grew w w' := by
  have z0 := alloc_sig w
  have g0 := grew_alloc (grew_refl w) (.cells (#[.int .i64 0, .int .i64 0, .int .u64 0, .int .u64 0, .int .u64 0, .int .u64 0, .int .u64 0, .int .u64 0, .int .u64 0, .int .u64 0, .int .u64 0, .int .u64 0, .int .u64 0, .int .u64 0, .int .u64 0, .int .u64 0, .int .u64 0, .int .u64 0, .int .u64 0, .int .u64 0, .slice none 0 0]) 42)
  have hus := Tryz.underlying42
  have bz : ∀ W, (Instr.build 42 #[]).run Tryz.prog W = .ok (.agg (#[.int .i64 0, .int .i64 0, .int .u64 0, .int .u64 0, .int .u64 0, .int .u64 0, .int .u64 0, .int .u64 0, .int .u64 0, .int .u64 0, .int .u64 0, .int .u64 0, .int .u64 0, .int .u64 0, .int .u64 0, .int .u64 0, .int .u64 0, .int .u64 0, .int .u64 0, .int .u64 0, .slice none 0 0])) W := fun W => run_build W 42 #[] _ sg_zero
  have HSI : Hid ((Tryz.prog.info? 42).map (·.size) = some (#[.int .i64 0, .int .i64 0, .int .u64 0, .int .u64 0, .int .u64 0, .int .u64 0, .int .u64 0, .int .u64 0, .int .u64 0, .int .u64 0, .int .u64 0, .int .u64 0, .int .u64 0, .int .u64 0, .int .u64 0, .int .u64 0, .int .u64 0, .int .u64 0, .int .u64 0, .int .u64 0, .slice none 0 0] : Array Value).size) := Lib.hid sg_info
  have HON : Hid ((#[.int .i64 0, .int .i64 0, .int .u64 0, .int .u64 0, .int .u64 0, .int .u64 0, .int .u64 0, .int .u64 0, .int .u64 0, .int .u64 0, .int .u64 0, .int .u64 0, .int .u64 0, .int .u64 0, .int .u64 0, .int .u64 0, .int .u64 0, .int .u64 0, .int .u64 0, .int .u64 0, .slice none 0 0] : Array Value).all (·.oneCell') = true) := Lib.hid (by simp [Value.oneCell'])
  have CS := Lib.hid (fun W => split_ok tj (by omega) W)
  go_enter Tryz.func87, Tryz.ntmps87
  go_wp2_with fail
  refine (CS.out _).mono ?_
  rintro e w1 ⟨hs, gg⟩
  have z1 := z0.grew gg
  have g1 := grew_trans g0 gg
  have HTH : Hid (w1.there w.heap.size 0 (#[.int .i64 0, .int .i64 0, .int .u64 0, .int .u64 0, .int .u64 0, .int .u64 0, .int .u64 0, .int .u64 0, .int .u64 0, .int .u64 0, .int .u64 0, .int .u64 0, .int .u64 0, .int .u64 0, .int .u64 0, .int .u64 0, .int .u64 0, .int .u64 0, .int .u64 0, .int .u64 0, .slice none 0 0] : Array Value).size) := Lib.hid (z1.thereN 21 rfl)
  have z2 := Ag.set (vs := (#[.int .i64 0, .int .i64 0, .int .u64 0, .int .u64 0, .int .u64 0, .int .u64 0, .int .u64 0, .int .u64 0, .int .u64 0, .int .u64 0, .int .u64 0, .int .u64 0, .int .u64 0, .int .u64 0, .int .u64 0, .int .u64 0, .int .u64 0, .int .u64 0, .int .u64 0, .int .u64 0, .slice none 0 0] : Array Value).toList) z1 rfl
  have g2 := setCells_grew (o := 0) (b := w.heap.size) (#[.int .i64 0, .int .i64 0, .int .u64 0, .int .u64 0, .int .u64 0, .int .u64 0, .int .u64 0, .int .u64 0, .int .u64 0, .int .u64 0, .int .u64 0, .int .u64 0, .int .u64 0, .int .u64 0, .int .u64 0, .int .u64 0, .int .u64 0, .int .u64 0, .int .u64 0, .int .u64 0, .slice none 0 0] : Array Value).toList g1 (Nat.le_refl _)
  clear CS z0 g0 gg
  rcases hs with ⟨h1, rfl⟩ | ⟨l, h1, ⟨h2, rfl⟩ | ⟨h2, v, rfl, o1⟩⟩
  · clear h1
    go_wp2_with (with_reducible refine wpList_store_mid rfl 42 (.tmp 2) (.tmp 26) rfl w.heap.size 0 (#[.int .i64 0, .int .i64 0, .int .u64 0, .int .u64 0, .int .u64 0, .int .u64 0, .int .u64 0, .int .u64 0, .int .u64 0, .int .u64 0, .int .u64 0, .int .u64 0, .int .u64 0, .int .u64 0, .int .u64 0, .int .u64 0, .int .u64 0, .int .u64 0, .int .u64 0, .int .u64 0, .slice none 0 0]) rfl rfl HTH.out HSI.out HON.out ?_)
    exact bodyPost_ret (results_ag2 Tryz.results87 _ _ w.heap.size _ _ _ rfl rfl z2 hus rfl sg_info) rfl ⟨rfl, g2⟩
  · clear h1
    go_wp2_with (with_reducible refine wpList_store_mid rfl 42 (.tmp 2) (.tmp 26) rfl w.heap.size 0 (#[.int .i64 0, .int .i64 0, .int .u64 0, .int .u64 0, .int .u64 0, .int .u64 0, .int .u64 0, .int .u64 0, .int .u64 0, .int .u64 0, .int .u64 0, .int .u64 0, .int .u64 0, .int .u64 0, .int .u64 0, .int .u64 0, .int .u64 0, .int .u64 0, .int .u64 0, .int .u64 0, .slice none 0 0]) rfl rfl HTH.out HSI.out HON.out ?_)
    exact bodyPost_ret (results_ag2 Tryz.results87 _ _ w.heap.size _ _ _ rfl rfl z2 hus rfl sg_info) rfl ⟨rfl, g2⟩
  · have hl4 : l.length ≠ 4 := fun h4 => by
      match l, h4 with
      | [a, b, c, d], _ => exact hno a b c d h1
    obtain ⟨A4, c4, rfl, -, -, -⟩ := own_rd o1
    have e4 : ((l.length : Int) != 4) = true := by simp; omega
    clear o1 h1 h2 hl4
    go_wp2_with (with_reducible refine wpList_store_mid rfl 42 (.tmp 2) (.tmp 26) rfl w.heap.size 0 (#[.int .i64 0, .int .i64 0, .int .u64 0, .int .u64 0, .int .u64 0, .int .u64 0, .int .u64 0, .int .u64 0, .int .u64 0, .int .u64 0, .int .u64 0, .int .u64 0, .int .u64 0, .int .u64 0, .int .u64 0, .int .u64 0, .int .u64 0, .int .u64 0, .int .u64 0, .int .u64 0, .slice none 0 0]) rfl rfl HTH.out HSI.out HON.out ?_)
    exact bodyPost_ret (results_ag2 Tryz.results87 _ _ w.heap.size _ _ _ rfl rfl z2 hus rfl sg_info) rfl ⟨rfl, g2⟩
set_option maxRecDepth 100000 in
set_option maxHeartbeats 2000000 in
theorem kparse_four (tj : ByteArray) (x0 x1 x2 x3 : List UInt8) (hsp : splitF tj.data.toList = some [x0, x1, x2, x3]) (hz : tj.size ≤ 1000000) (l0 : x0.length ≤ 1000000) (l1 : x1.length ≤ 1000000) (l2 : x2.length ≤ 1000000) (l3 : x3.length ≤ 1000000) (hno : sig4 x0 x1 x2 x3 = false) (w : World) (hS : Std w) :
    Calls Tryz.prog 87 #[.string tj] w fun e w' => e = .returned (.tuple #[.agg (#[.int .i64 0, .int .i64 0, .int .u64 0, .int .u64 0, .int .u64 0, .int .u64 0, .int .u64 0, .int .u64 0, .int .u64 0, .int .u64 0, .int .u64 0, .int .u64 0, .int .u64 0, .int .u64 0, .int .u64 0, .int .u64 0, .int .u64 0, .int .u64 0, .int .u64 0, .int .u64 0, .slice none 0 0]), .int .i64 2]) ∧ Grew w w' := by
  have HS := Lib.hid hS
  have CS := Lib.hid (fun W => split_some (s := tj) (l := [x0, x1, x2, x3]) hsp (by simp) (by omega) W)
  rw [show txt [x0, x1, x2, x3] = [⟨x0.toArray⟩, ⟨x1.toArray⟩, ⟨x2.toArray⟩, ⟨x3.toArray⟩] from rfl] at CS
  have u0 := (fun W hW => upto_ok ⟨x0.toArray⟩ (by show x0.toArray.size ≤ _; simp; omega) 15 W hW)
  have u1 := (fun W hW => upto_ok ⟨x1.toArray⟩ (by show x1.toArray.size ≤ _; simp; omega) 9223372036854775807 W hW)
  have dd2 := (fun W hW => pdigs_ok ⟨x2.toArray⟩ (by show x2.toArray.size ≤ _; simp; omega) W hW)
  have dd3 := (fun W hW => pdigs_ok ⟨x3.toArray⟩ (by show x3.toArray.size ≤ _; simp; omega) W hW)
  unfold sig4 at hno
  dsimp only at u0 u1 dd2 dd3
  generalize uptoB x0 15 = b0 at *
  generalize uptoB x1 9223372036854775807 = b1 at *
  generalize (pnum x0).1 = who at *
  generalize (pnum x1).1 = leaf at *
  generalize (pdigs x2).isSome = b2 at *
  generalize (pdigs x3).isSome = b3 at *
  generalize (pdigs x2).getD [] = q2 at *
  generalize (pdigs x3).getD [] = q3 at *
  have U0 := Lib.hid u0
  have U1 := Lib.hid u1
  have D2 := Lib.hid dd2
  have D3 := Lib.hid dd3
  clear u0 u1 dd2 dd3 hsp hz l0 l1 l2 l3 hS
  generalize (⟨x0.toArray⟩ : ByteArray) = t0 at *
  generalize (⟨x1.toArray⟩ : ByteArray) = t1 at *
  generalize (⟨x2.toArray⟩ : ByteArray) = t2 at *
  generalize (⟨x3.toArray⟩ : ByteArray) = t3 at *
  have HNO := Lib.hid hno
  clear hno
  have z0 := alloc_sig w
  have g0 := grew_alloc (grew_refl w) (.cells (#[.int .i64 0, .int .i64 0, .int .u64 0, .int .u64 0, .int .u64 0, .int .u64 0, .int .u64 0, .int .u64 0, .int .u64 0, .int .u64 0, .int .u64 0, .int .u64 0, .int .u64 0, .int .u64 0, .int .u64 0, .int .u64 0, .int .u64 0, .int .u64 0, .int .u64 0, .int .u64 0, .slice none 0 0]) 42)
  have hus := Tryz.underlying42
  have bz : ∀ W, (Instr.build 42 #[]).run Tryz.prog W = .ok (.agg (#[.int .i64 0, .int .i64 0, .int .u64 0, .int .u64 0, .int .u64 0, .int .u64 0, .int .u64 0, .int .u64 0, .int .u64 0, .int .u64 0, .int .u64 0, .int .u64 0, .int .u64 0, .int .u64 0, .int .u64 0, .int .u64 0, .int .u64 0, .int .u64 0, .int .u64 0, .int .u64 0, .slice none 0 0])) W := fun W => run_build W 42 #[] _ sg_zero
  have HSI : Hid ((Tryz.prog.info? 42).map (·.size) = some (#[.int .i64 0, .int .i64 0, .int .u64 0, .int .u64 0, .int .u64 0, .int .u64 0, .int .u64 0, .int .u64 0, .int .u64 0, .int .u64 0, .int .u64 0, .int .u64 0, .int .u64 0, .int .u64 0, .int .u64 0, .int .u64 0, .int .u64 0, .int .u64 0, .int .u64 0, .int .u64 0, .slice none 0 0] : Array Value).size) := Lib.hid sg_info
  have HON : Hid ((#[.int .i64 0, .int .i64 0, .int .u64 0, .int .u64 0, .int .u64 0, .int .u64 0, .int .u64 0, .int .u64 0, .int .u64 0, .int .u64 0, .int .u64 0, .int .u64 0, .int .u64 0, .int .u64 0, .int .u64 0, .int .u64 0, .int .u64 0, .int .u64 0, .int .u64 0, .int .u64 0, .slice none 0 0] : Array Value).all (·.oneCell') = true) := Lib.hid (by simp [Value.oneCell'])
  go_enter Tryz.func87, Tryz.ntmps87
  go_wp2_with fail
  refine (CS.out _).mono ?_
  rintro e w1 ⟨⟨v1, rfl, o1⟩, gg⟩
  have z1 := z0.grew gg
  have g1 := grew_trans g0 gg
  obtain ⟨g, k1, rfl, hk1, hgl, hcs⟩ := own_cells o1 (by simp)
  have x0 : w1.cell? ⟨g, 0, none⟩ = some (.string t0) := by simpa using hcs 0 (.string t0) rfl
  have x1 : w1.cell? ⟨g, 1, none⟩ = some (.string t1) := by simpa using hcs 1 (.string t1) rfl
  have x2 : w1.cell? ⟨g, 2, none⟩ = some (.string t2) := by simpa using hcs 2 (.string t2) rfl
  have x3 : w1.cell? ⟨g, 3, none⟩ = some (.string t3) := by simpa using hcs 3 (.string t3) rfl
  clear CS z0 g0 gg o1 hcs
  have hk1' : (4 : Int) ≤ (k1 : Int) := by
    have : 4 ≤ k1 := hk1
    omega
  go_wp2_with fail
  refine (U0.out _ (HS.out.grew g1)).mono ?_
  rintro e w2 ⟨rfl, gg⟩
  have y1 := (gg.cell (p := ⟨g, 1, none⟩) hgl).trans x1
  have y2 := (gg.cell (p := ⟨g, 2, none⟩) hgl).trans x2
  have y3 := (gg.cell (p := ⟨g, 3, none⟩) hgl).trans x3
  have hgl2 := Nat.lt_of_lt_of_le hgl gg.size
  have z2 := z1.grew gg
  have g2 := grew_trans g1 gg
  clear U0 x0 x1 x2 x3 z1 g1 gg hgl
  go_wp2_with fail
  refine (U1.out _ (HS.out.grew g2)).mono ?_
  rintro e w3 ⟨rfl, gg⟩
  have x2 := (gg.cell (p := ⟨g, 2, none⟩) hgl2).trans y2
  have x3 := (gg.cell (p := ⟨g, 3, none⟩) hgl2).trans y3
  have hgl3 := Nat.lt_of_lt_of_le hgl2 gg.size
  have z3 := z2.grew gg
  have g3 := grew_trans g2 gg
  clear U1 y1 y2 y3 z2 g2 gg hgl2
  go_wp2_with fail
  refine (D2.out _ (HS.out.grew g3)).mono ?_
  rintro e w4 ⟨⟨v4, rfl, o4⟩, gg⟩
  obtain ⟨A4, c4, rfl, -, -, -⟩ := own_rd o4
  have y3 := (gg.cell (p := ⟨g, 3, none⟩) hgl3).trans x3
  have z4 := z3.grew gg
  have g4 := grew_trans g3 gg
  clear D2 x2 x3 z3 g3 gg hgl3 o4
  go_wp2_with fail
  refine (D3.out _ (HS.out.grew g4)).mono ?_
  rintro e w5 ⟨⟨v5, rfl, o5⟩, gg⟩
  obtain ⟨A5, c5, rfl, -, -, -⟩ := own_rd o5
  have z5 := z4.grew gg
  have g5 := grew_trans g4 gg
  clear D3 y3 z4 g4 gg o5
  have HTH : Hid (w5.there w.heap.size 0 (#[.int .i64 0, .int .i64 0, .int .u64 0, .int .u64 0, .int .u64 0, .int .u64 0, .int .u64 0, .int .u64 0, .int .u64 0, .int .u64 0, .int .u64 0, .int .u64 0, .int .u64 0, .int .u64 0, .int .u64 0, .int .u64 0, .int .u64 0, .int .u64 0, .int .u64 0, .int .u64 0, .slice none 0 0] : Array Value).size) := Lib.hid (z5.thereN 21 rfl)
  have z2 := Ag.set (vs := (#[.int .i64 0, .int .i64 0, .int .u64 0, .int .u64 0, .int .u64 0, .int .u64 0, .int .u64 0, .int .u64 0, .int .u64 0, .int .u64 0, .int .u64 0, .int .u64 0, .int .u64 0, .int .u64 0, .int .u64 0, .int .u64 0, .int .u64 0, .int .u64 0, .int .u64 0, .int .u64 0, .slice none 0 0] : Array Value).toList) z5 rfl
  have g2 := setCells_grew (o := 0) (b := w.heap.size) (#[.int .i64 0, .int .i64 0, .int .u64 0, .int .u64 0, .int .u64 0, .int .u64 0, .int .u64 0, .int .u64 0, .int .u64 0, .int .u64 0, .int .u64 0, .int .u64 0, .int .u64 0, .int .u64 0, .int .u64 0, .int .u64 0, .int .u64 0, .int .u64 0, .int .u64 0, .int .u64 0, .slice none 0 0] : Array Value).toList g5 (Nat.le_refl _)
  clear z5 g5
  generalize q2.length = n2 at *
  generalize q3.length = n3 at *
  cases b0
  · clear HNO
    go_wp2_with (with_reducible refine wpList_store_mid rfl 42 (.tmp 2) (.tmp 79) rfl w.heap.size 0 (#[.int .i64 0, .int .i64 0, .int .u64 0, .int .u64 0, .int .u64 0, .int .u64 0, .int .u64 0, .int .u64 0, .int .u64 0, .int .u64 0, .int .u64 0, .int .u64 0, .int .u64 0, .int .u64 0, .int .u64 0, .int .u64 0, .int .u64 0, .int .u64 0, .int .u64 0, .int .u64 0, .slice none 0 0]) rfl rfl HTH.out HSI.out HON.out ?_)
    exact bodyPost_ret (results_ag2 Tryz.results87 _ _ w.heap.size _ _ _ rfl rfl z2 hus rfl sg_info) rfl ⟨rfl, g2⟩
  cases b1
  · clear HNO
    go_wp2_with (with_reducible refine wpList_store_mid rfl 42 (.tmp 2) (.tmp 79) rfl w.heap.size 0 (#[.int .i64 0, .int .i64 0, .int .u64 0, .int .u64 0, .int .u64 0, .int .u64 0, .int .u64 0, .int .u64 0, .int .u64 0, .int .u64 0, .int .u64 0, .int .u64 0, .int .u64 0, .int .u64 0, .int .u64 0, .int .u64 0, .int .u64 0, .int .u64 0, .int .u64 0, .int .u64 0, .slice none 0 0]) rfl rfl HTH.out HSI.out HON.out ?_)
    exact bodyPost_ret (results_ag2 Tryz.results87 _ _ w.heap.size _ _ _ rfl rfl z2 hus rfl sg_info) rfl ⟨rfl, g2⟩
  cases b2
  · clear HNO
    go_wp2_with (with_reducible refine wpList_store_mid rfl 42 (.tmp 2) (.tmp 79) rfl w.heap.size 0 (#[.int .i64 0, .int .i64 0, .int .u64 0, .int .u64 0, .int .u64 0, .int .u64 0, .int .u64 0, .int .u64 0, .int .u64 0, .int .u64 0, .int .u64 0, .int .u64 0, .int .u64 0, .int .u64 0, .int .u64 0, .int .u64 0, .int .u64 0, .int .u64 0, .int .u64 0, .int .u64 0, .slice none 0 0]) rfl rfl HTH.out HSI.out HON.out ?_)
    exact bodyPost_ret (results_ag2 Tryz.results87 _ _ w.heap.size _ _ _ rfl rfl z2 hus rfl sg_info) rfl ⟨rfl, g2⟩
  cases b3
  · clear HNO
    go_wp2_with (with_reducible refine wpList_store_mid rfl 42 (.tmp 2) (.tmp 79) rfl w.heap.size 0 (#[.int .i64 0, .int .i64 0, .int .u64 0, .int .u64 0, .int .u64 0, .int .u64 0, .int .u64 0, .int .u64 0, .int .u64 0, .int .u64 0, .int .u64 0, .int .u64 0, .int .u64 0, .int .u64 0, .int .u64 0, .int .u64 0, .int .u64 0, .int .u64 0, .int .u64 0, .int .u64 0, .slice none 0 0]) rfl rfl HTH.out HSI.out HON.out ?_)
    exact bodyPost_ret (results_ag2 Tryz.results87 _ _ w.heap.size _ _ _ rfl rfl z2 hus rfl sg_info) rfl ⟨rfl, g2⟩
  by_cases h18 : n2 = 18
  · have h8 : (8 : Int) < (n3 : Int) := by
      have := HNO.out
      simp [h18] at this
      omega
    have e18 : ((n2 : Int) != 18) = false := by rw [h18]; rfl
    clear HNO h18
    go_wp2_with (with_reducible refine wpList_store_mid rfl 42 (.tmp 2) (.tmp 79) rfl w.heap.size 0 (#[.int .i64 0, .int .i64 0, .int .u64 0, .int .u64 0, .int .u64 0, .int .u64 0, .int .u64 0, .int .u64 0, .int .u64 0, .int .u64 0, .int .u64 0, .int .u64 0, .int .u64 0, .int .u64 0, .int .u64 0, .int .u64 0, .int .u64 0, .int .u64 0, .int .u64 0, .int .u64 0, .slice none 0 0]) rfl rfl HTH.out HSI.out HON.out ?_)
    exact bodyPost_ret (results_ag2 Tryz.results87 _ _ w.heap.size _ _ _ rfl rfl z2 hus rfl sg_info) rfl ⟨rfl, g2⟩
  · have e18 : ((n2 : Int) != 18) = true := by simp; omega
    clear HNO h18
    go_wp2_with (with_reducible refine wpList_store_mid rfl 42 (.tmp 2) (.tmp 79) rfl w.heap.size 0 (#[.int .i64 0, .int .i64 0, .int .u64 0, .int .u64 0, .int .u64 0, .int .u64 0, .int .u64 0, .int .u64 0, .int .u64 0, .int .u64 0, .int .u64 0, .int .u64 0, .int .u64 0, .int .u64 0, .int .u64 0, .int .u64 0, .int .u64 0, .int .u64 0, .int .u64 0, .int .u64 0, .slice none 0 0]) rfl rfl HTH.out HSI.out HON.out ?_)
    exact bodyPost_ret (results_ag2 Tryz.results87 _ _ w.heap.size _ _ _ rfl rfl z2 hus rfl sg_info) rfl ⟨rfl, g2⟩
end Go.Proofs.YtaeopobofmpioaaGreatDoor

namespace Go.Proofs.YtaeopobofmpioaaGreatDoor
set_option linter.unusedSimpArgs false
set_option linter.unusedVariables false
open Go.RowKit
set_option linter.unusedVariables false
set_option linter.unusedSimpArgs false
set_option maxRecDepth 100000 in
theorem rg_zeroG : Tryz.prog.built 28 [] = some (#[.int .i64 0, .int .i64 0, .int .u64 0, .int .u64 0, .int .u64 0, .int .u64 0, .int .u64 0, .int .u64 0, .int .u64 0, .int .u64 0, .int .u64 0, .int .u64 0, .int .u64 0, .int .u64 0, .int .u64 0, .int .u64 0, .int .u64 0, .int .u64 0, .int .u64 0, .int .u64 0, .slice none 0 0]) := by kernel_rfl
theorem alloc_rsigG (w : World) : Ag (w.alloc (.cells (#[.int .i64 0, .int .i64 0, .int .u64 0, .int .u64 0, .int .u64 0, .int .u64 0, .int .u64 0, .int .u64 0, .int .u64 0, .int .u64 0, .int .u64 0, .int .u64 0, .int .u64 0, .int .u64 0, .int .u64 0, .int .u64 0, .int .u64 0, .int .u64 0, .int .u64 0, .int .u64 0, .slice none 0 0]) 28)) w.heap.size (#[.int .i64 0, .int .i64 0, .int .u64 0, .int .u64 0, .int .u64 0, .int .u64 0, .int .u64 0, .int .u64 0, .int .u64 0, .int .u64 0, .int .u64 0, .int .u64 0, .int .u64 0, .int .u64 0, .int .u64 0, .int .u64 0, .int .u64 0, .int .u64 0, .int .u64 0, .int .u64 0, .slice none 0 0]).toList := Ag.new _ _ _
set_option maxRecDepth 100000 in
set_option maxHeartbeats 1000000 in
theorem rps_split (tj : ByteArray) (hz : tj.size ≤ 1000000) (hno : ∀ x0 x1 x2 x3, splitF tj.data.toList ≠ some [x0, x1, x2, x3]) (w : World) :
    Calls Tryz.prog 92 #[.string tj] w fun e w' => e = .returned (.tuple #[.agg (#[.int .i64 0, .int .i64 0, .int .u64 0, .int .u64 0, .int .u64 0, .int .u64 0, .int .u64 0, .int .u64 0, .int .u64 0, .int .u64 0, .int .u64 0, .int .u64 0, .int .u64 0, .int .u64 0, .int .u64 0, .int .u64 0, .int .u64 0, .int .u64 0, .int .u64 0, .int .u64 0, .slice none 0 0]), .int .i64 2]) ∧ Grew w w' := by
  have z0 := alloc_rsigG w
  have g0 := grew_alloc (grew_refl w) (.cells (#[.int .i64 0, .int .i64 0, .int .u64 0, .int .u64 0, .int .u64 0, .int .u64 0, .int .u64 0, .int .u64 0, .int .u64 0, .int .u64 0, .int .u64 0, .int .u64 0, .int .u64 0, .int .u64 0, .int .u64 0, .int .u64 0, .int .u64 0, .int .u64 0, .int .u64 0, .int .u64 0, .slice none 0 0]) 28)
  have hus := Tryz.underlying28
  have bz : ∀ W, (Instr.build 28 #[]).run Tryz.prog W = .ok (.agg (#[.int .i64 0, .int .i64 0, .int .u64 0, .int .u64 0, .int .u64 0, .int .u64 0, .int .u64 0, .int .u64 0, .int .u64 0, .int .u64 0, .int .u64 0, .int .u64 0, .int .u64 0, .int .u64 0, .int .u64 0, .int .u64 0, .int .u64 0, .int .u64 0, .int .u64 0, .int .u64 0, .slice none 0 0])) W := fun W => run_build W 28 #[] _ rg_zeroG
  have HSI : Hid ((Tryz.prog.info? 28).map (·.size) = some (#[.int .i64 0, .int .i64 0, .int .u64 0, .int .u64 0, .int .u64 0, .int .u64 0, .int .u64 0, .int .u64 0, .int .u64 0, .int .u64 0, .int .u64 0, .int .u64 0, .int .u64 0, .int .u64 0, .int .u64 0, .int .u64 0, .int .u64 0, .int .u64 0, .int .u64 0, .int .u64 0, .slice none 0 0] : Array Value).size) := Lib.hid rg_info
  have HON : Hid ((#[.int .i64 0, .int .i64 0, .int .u64 0, .int .u64 0, .int .u64 0, .int .u64 0, .int .u64 0, .int .u64 0, .int .u64 0, .int .u64 0, .int .u64 0, .int .u64 0, .int .u64 0, .int .u64 0, .int .u64 0, .int .u64 0, .int .u64 0, .int .u64 0, .int .u64 0, .int .u64 0, .slice none 0 0] : Array Value).all (·.oneCell') = true) := Lib.hid (by simp [Value.oneCell'])
  have CS := Lib.hid (fun W => rsplit_ok tj (by omega) W)
  go_enter Tryz.func92, Tryz.ntmps92
  go_wp2_with fail
  refine (CS.out _).mono ?_
  rintro e w1 ⟨hs, gg⟩
  have z1 := z0.grew gg
  have g1 := grew_trans g0 gg
  have HTH : Hid (w1.there w.heap.size 0 (#[.int .i64 0, .int .i64 0, .int .u64 0, .int .u64 0, .int .u64 0, .int .u64 0, .int .u64 0, .int .u64 0, .int .u64 0, .int .u64 0, .int .u64 0, .int .u64 0, .int .u64 0, .int .u64 0, .int .u64 0, .int .u64 0, .int .u64 0, .int .u64 0, .int .u64 0, .int .u64 0, .slice none 0 0] : Array Value).size) := Lib.hid (z1.thereN 21 rfl)
  have z2 := Ag.set (vs := (#[.int .i64 0, .int .i64 0, .int .u64 0, .int .u64 0, .int .u64 0, .int .u64 0, .int .u64 0, .int .u64 0, .int .u64 0, .int .u64 0, .int .u64 0, .int .u64 0, .int .u64 0, .int .u64 0, .int .u64 0, .int .u64 0, .int .u64 0, .int .u64 0, .int .u64 0, .int .u64 0, .slice none 0 0] : Array Value).toList) z1 rfl
  have g2 := setCells_grew (o := 0) (b := w.heap.size) (#[.int .i64 0, .int .i64 0, .int .u64 0, .int .u64 0, .int .u64 0, .int .u64 0, .int .u64 0, .int .u64 0, .int .u64 0, .int .u64 0, .int .u64 0, .int .u64 0, .int .u64 0, .int .u64 0, .int .u64 0, .int .u64 0, .int .u64 0, .int .u64 0, .int .u64 0, .int .u64 0, .slice none 0 0] : Array Value).toList g1 (Nat.le_refl _)
  clear CS z0 g0 gg
  rcases hs with ⟨h1, rfl⟩ | ⟨l, h1, ⟨h2, rfl⟩ | ⟨h2, v, rfl, o1⟩⟩
  · clear h1
    go_wp2_with (with_reducible refine wpList_store_mid rfl 28 (.tmp 2) (.tmp 28) rfl w.heap.size 0 (#[.int .i64 0, .int .i64 0, .int .u64 0, .int .u64 0, .int .u64 0, .int .u64 0, .int .u64 0, .int .u64 0, .int .u64 0, .int .u64 0, .int .u64 0, .int .u64 0, .int .u64 0, .int .u64 0, .int .u64 0, .int .u64 0, .int .u64 0, .int .u64 0, .int .u64 0, .int .u64 0, .slice none 0 0]) rfl rfl HTH.out HSI.out HON.out ?_)
    exact bodyPost_ret (results_ag2 Tryz.results92 _ _ w.heap.size _ _ _ rfl rfl z2 hus rfl rg_info) rfl ⟨rfl, g2⟩
  · clear h1
    go_wp2_with (with_reducible refine wpList_store_mid rfl 28 (.tmp 2) (.tmp 28) rfl w.heap.size 0 (#[.int .i64 0, .int .i64 0, .int .u64 0, .int .u64 0, .int .u64 0, .int .u64 0, .int .u64 0, .int .u64 0, .int .u64 0, .int .u64 0, .int .u64 0, .int .u64 0, .int .u64 0, .int .u64 0, .int .u64 0, .int .u64 0, .int .u64 0, .int .u64 0, .int .u64 0, .int .u64 0, .slice none 0 0]) rfl rfl HTH.out HSI.out HON.out ?_)
    exact bodyPost_ret (results_ag2 Tryz.results92 _ _ w.heap.size _ _ _ rfl rfl z2 hus rfl rg_info) rfl ⟨rfl, g2⟩
  · have hl4 : l.length ≠ 4 := fun h4 => by
      match l, h4 with
      | [a, b, c, d], _ => exact hno a b c d h1
    obtain ⟨A4, c4, rfl, -, -, -⟩ := own_rd o1
    have e4 : ((l.length : Int) != 4) = true := by simp; omega
    clear o1 h1 h2 hl4
    go_wp2_with (with_reducible refine wpList_store_mid rfl 28 (.tmp 2) (.tmp 28) rfl w.heap.size 0 (#[.int .i64 0, .int .i64 0, .int .u64 0, .int .u64 0, .int .u64 0, .int .u64 0, .int .u64 0, .int .u64 0, .int .u64 0, .int .u64 0, .int .u64 0, .int .u64 0, .int .u64 0, .int .u64 0, .int .u64 0, .int .u64 0, .int .u64 0, .int .u64 0, .int .u64 0, .int .u64 0, .slice none 0 0]) rfl rfl HTH.out HSI.out HON.out ?_)
    exact bodyPost_ret (results_ag2 Tryz.results92 _ _ w.heap.size _ _ _ rfl rfl z2 hus rfl rg_info) rfl ⟨rfl, g2⟩
end Go.Proofs.YtaeopobofmpioaaGreatDoor

namespace Go.Proofs.YtaeopobofmpioaaGreatDoor
set_option linter.unusedSimpArgs false
set_option linter.unusedVariables false
open Go.RowKit
set_option linter.unusedVariables false
set_option linter.unusedSimpArgs false
theorem pnum_max (x : List UInt8) : (pnum x).1 ≤ 9223372036854775807 := by
  by_cases h1 : isNumB x = true
  · by_cases h2 : inI64 (nval x) = true
    · rw [pnum_ok h1 h2]
      unfold inI64 at h2
      simp at h2
      exact h2.2
    · rw [pnum_long h1 (by simpa using h2)]; decide
  · rw [pnum_form (by simpa using h1)]; decide
theorem rsplit_some {s : ByteArray} {l : List (List UInt8)} (h : splitF s.data.toList = some l) (hl : l.length ≤ 4096) (hs : s.size ≤ 100000000) (w : World) :
    Calls Tryz.prog 88 #[.string s] w fun e w' => (∃ v, e = .returned (.tuple #[v, .int .i64 0]) ∧ w'.ownsRow w.heap.size 9 1 v l.length (strL (txt l))) ∧ Grew w w' :=
  (rsplit_ok s hs w).mono fun e w' ⟨hh, hg⟩ => by
    refine ⟨?_, hg⟩
    rcases hh with ⟨h1, _⟩ | ⟨l', h1, h2⟩
    · rw [h] at h1; cases h1
    · rw [h] at h1
      injection h1 with h1
      subst h1
      rcases h2 with ⟨h3, _⟩ | ⟨_, h4⟩
      · omega
      · exact h4
set_option maxRecDepth 100000 in
set_option maxHeartbeats 2000000 in
theorem rps_four (tj : ByteArray) (x0 x1 x2 x3 : List UInt8) (hsp : splitF tj.data.toList = some [x0, x1, x2, x3]) (hz : tj.size ≤ 1000000) (l0 : x0.length ≤ 1000000) (l1 : x1.length ≤ 1000000) (l2 : x2.length ≤ 1000000) (l3 : x3.length ≤ 1000000) (hno : sig4 x0 x1 x2 x3 = false) (w : World) :
    Calls Tryz.prog 92 #[.string tj] w fun e w' => e = .returned (.tuple #[.agg (#[.int .i64 0, .int .i64 0, .int .u64 0, .int .u64 0, .int .u64 0, .int .u64 0, .int .u64 0, .int .u64 0, .int .u64 0, .int .u64 0, .int .u64 0, .int .u64 0, .int .u64 0, .int .u64 0, .int .u64 0, .int .u64 0, .int .u64 0, .int .u64 0, .int .u64 0, .int .u64 0, .slice none 0 0]), .int .i64 2]) ∧ Grew w w' := by
  have CS := Lib.hid (fun W => rsplit_some (s := tj) (l := [x0, x1, x2, x3]) hsp (by simp) (by omega) W)
  rw [show txt [x0, x1, x2, x3] = [⟨x0.toArray⟩, ⟨x1.toArray⟩, ⟨x2.toArray⟩, ⟨x3.toArray⟩] from rfl] at CS
  have u0 := (fun W => rparse_ok ⟨x0.toArray⟩ (by show x0.toArray.size ≤ _; simp; omega) W)
  have u1 := (fun W => rparse_ok ⟨x1.toArray⟩ (by show x1.toArray.size ≤ _; simp; omega) W)
  have dd2 := (fun W => rpdigs_ok ⟨x2.toArray⟩ (by show x2.toArray.size ≤ _; simp; omega) W)
  have dd3 := (fun W => rpdigs_ok ⟨x3.toArray⟩ (by show x3.toArray.size ≤ _; simp; omega) W)
  have hmx := pnum_max x1
  unfold sig4 uptoB at hno
  unfold pnumRes at u0 u1
  dsimp only at u0 u1 dd2 dd3
  generalize (pnum x0).1 = who at *
  generalize (pnum x1).1 = leaf at *
  generalize (pnum x0).2 = a at *
  generalize (pnum x1).2 = b at *
  generalize (pdigs x2).isSome = b2 at *
  generalize (pdigs x3).isSome = b3 at *
  generalize (pdigs x2).getD [] = q2 at *
  generalize (pdigs x3).getD [] = q3 at *
  have U0 := Lib.hid u0
  have U1 := Lib.hid u1
  have D2 := Lib.hid dd2
  have D3 := Lib.hid dd3
  clear u0 u1 dd2 dd3 hsp hz l0 l1 l2 l3
  generalize (⟨x0.toArray⟩ : ByteArray) = t0 at *
  generalize (⟨x1.toArray⟩ : ByteArray) = t1 at *
  generalize (⟨x2.toArray⟩ : ByteArray) = t2 at *
  generalize (⟨x3.toArray⟩ : ByteArray) = t3 at *
  have HNO := Lib.hid hno
  have HMX := Lib.hid hmx
  clear hno hmx
  have z0 := alloc_rsigG w
  have g0 := grew_alloc (grew_refl w) (.cells (#[.int .i64 0, .int .i64 0, .int .u64 0, .int .u64 0, .int .u64 0, .int .u64 0, .int .u64 0, .int .u64 0, .int .u64 0, .int .u64 0, .int .u64 0, .int .u64 0, .int .u64 0, .int .u64 0, .int .u64 0, .int .u64 0, .int .u64 0, .int .u64 0, .int .u64 0, .int .u64 0, .slice none 0 0]) 28)
  have hus := Tryz.underlying28
  have bz : ∀ W, (Instr.build 28 #[]).run Tryz.prog W = .ok (.agg (#[.int .i64 0, .int .i64 0, .int .u64 0, .int .u64 0, .int .u64 0, .int .u64 0, .int .u64 0, .int .u64 0, .int .u64 0, .int .u64 0, .int .u64 0, .int .u64 0, .int .u64 0, .int .u64 0, .int .u64 0, .int .u64 0, .int .u64 0, .int .u64 0, .int .u64 0, .int .u64 0, .slice none 0 0])) W := fun W => run_build W 28 #[] _ rg_zeroG
  have HSI : Hid ((Tryz.prog.info? 28).map (·.size) = some (#[.int .i64 0, .int .i64 0, .int .u64 0, .int .u64 0, .int .u64 0, .int .u64 0, .int .u64 0, .int .u64 0, .int .u64 0, .int .u64 0, .int .u64 0, .int .u64 0, .int .u64 0, .int .u64 0, .int .u64 0, .int .u64 0, .int .u64 0, .int .u64 0, .int .u64 0, .int .u64 0, .slice none 0 0] : Array Value).size) := Lib.hid rg_info
  have HON : Hid ((#[.int .i64 0, .int .i64 0, .int .u64 0, .int .u64 0, .int .u64 0, .int .u64 0, .int .u64 0, .int .u64 0, .int .u64 0, .int .u64 0, .int .u64 0, .int .u64 0, .int .u64 0, .int .u64 0, .int .u64 0, .int .u64 0, .int .u64 0, .int .u64 0, .int .u64 0, .int .u64 0, .slice none 0 0] : Array Value).all (·.oneCell') = true) := Lib.hid (by simp [Value.oneCell'])
  go_enter Tryz.func92, Tryz.ntmps92
  go_wp2_with fail
  refine (CS.out _).mono ?_
  rintro e w1 ⟨⟨v1, rfl, o1⟩, gg⟩
  have z1 := z0.grew gg
  have g1 := grew_trans g0 gg
  obtain ⟨g, k1, rfl, hk1, hgl, hcs⟩ := own_cells o1 (by simp)
  have x0 : w1.cell? ⟨g, 0, none⟩ = some (.string t0) := by simpa using hcs 0 (.string t0) rfl
  have x1 : w1.cell? ⟨g, 1, none⟩ = some (.string t1) := by simpa using hcs 1 (.string t1) rfl
  have x2 : w1.cell? ⟨g, 2, none⟩ = some (.string t2) := by simpa using hcs 2 (.string t2) rfl
  have x3 : w1.cell? ⟨g, 3, none⟩ = some (.string t3) := by simpa using hcs 3 (.string t3) rfl
  clear CS z0 g0 gg o1 hcs
  have hk1' : (4 : Int) ≤ (k1 : Int) := by
    have : 4 ≤ k1 := hk1
    omega
  go_wp2_with fail
  refine (U0.out _).mono ?_
  rintro e w2 ⟨rfl, hw2⟩
  have gg : Grew w1 w2 := by rw [hw2]; exact grew_refl _
  have y1 := (gg.cell (p := ⟨g, 1, none⟩) hgl).trans x1
  have y2 := (gg.cell (p := ⟨g, 2, none⟩) hgl).trans x2
  have y3 := (gg.cell (p := ⟨g, 3, none⟩) hgl).trans x3
  have hgl2 := Nat.lt_of_lt_of_le hgl gg.size
  have z2 := z1.grew gg
  have g2 := grew_trans g1 gg
  clear hw2 U0 x0 x1 x2 x3 z1 g1 gg hgl
  go_wp2_with fail
  refine (U1.out _).mono ?_
  rintro e w3 ⟨rfl, hw3⟩
  have gg : Grew w2 w3 := by rw [hw3]; exact grew_refl _
  have x2 := (gg.cell (p := ⟨g, 2, none⟩) hgl2).trans y2
  have x3 := (gg.cell (p := ⟨g, 3, none⟩) hgl2).trans y3
  have hgl3 := Nat.lt_of_lt_of_le hgl2 gg.size
  have z3 := z2.grew gg
  have g3 := grew_trans g2 gg
  clear hw3 U1 y1 y2 y3 z2 g2 gg hgl2
  go_wp2_with fail
  refine (D2.out _).mono ?_
  rintro e w4 ⟨⟨v4, rfl, o4⟩, gg⟩
  obtain ⟨A4, c4, rfl, -, -, -⟩ := own_rd o4
  have y3 := (gg.cell (p := ⟨g, 3, none⟩) hgl3).trans x3
  have z4 := z3.grew gg
  have g4 := grew_trans g3 gg
  clear D2 x2 x3 z3 g3 gg hgl3 o4
  go_wp2_with fail
  refine (D3.out _).mono ?_
  rintro e w5 ⟨⟨v5, rfl, o5⟩, gg⟩
  obtain ⟨A5, c5, rfl, -, -, -⟩ := own_rd o5
  have z5 := z4.grew gg
  have g5 := grew_trans g4 gg
  clear D3 y3 z4 g4 gg o5
  have HTH : Hid (w5.there w.heap.size 0 (#[.int .i64 0, .int .i64 0, .int .u64 0, .int .u64 0, .int .u64 0, .int .u64 0, .int .u64 0, .int .u64 0, .int .u64 0, .int .u64 0, .int .u64 0, .int .u64 0, .int .u64 0, .int .u64 0, .int .u64 0, .int .u64 0, .int .u64 0, .int .u64 0, .int .u64 0, .int .u64 0, .slice none 0 0] : Array Value).size) := Lib.hid (z5.thereN 21 rfl)
  have z2 := Ag.set (vs := (#[.int .i64 0, .int .i64 0, .int .u64 0, .int .u64 0, .int .u64 0, .int .u64 0, .int .u64 0, .int .u64 0, .int .u64 0, .int .u64 0, .int .u64 0, .int .u64 0, .int .u64 0, .int .u64 0, .int .u64 0, .int .u64 0, .int .u64 0, .int .u64 0, .int .u64 0, .int .u64 0, .slice none 0 0] : Array Value).toList) z5 rfl
  have g2 := setCells_grew (o := 0) (b := w.heap.size) (#[.int .i64 0, .int .i64 0, .int .u64 0, .int .u64 0, .int .u64 0, .int .u64 0, .int .u64 0, .int .u64 0, .int .u64 0, .int .u64 0, .int .u64 0, .int .u64 0, .int .u64 0, .int .u64 0, .int .u64 0, .int .u64 0, .int .u64 0, .int .u64 0, .int .u64 0, .int .u64 0, .slice none 0 0] : Array Value).toList g5 (Nat.le_refl _)
  clear z5 g5
  cases E1 : (a != 0)
  case true =>
    go_wp2_with (with_reducible refine wpList_store_mid rfl 28 (.tmp 2) (.tmp 93) rfl w.heap.size 0 (#[.int .i64 0, .int .i64 0, .int .u64 0, .int .u64 0, .int .u64 0, .int .u64 0, .int .u64 0, .int .u64 0, .int .u64 0, .int .u64 0, .int .u64 0, .int .u64 0, .int .u64 0, .int .u64 0, .int .u64 0, .int .u64 0, .int .u64 0, .int .u64 0, .int .u64 0, .int .u64 0, .slice none 0 0]) rfl rfl HTH.out HSI.out HON.out ?_)
    exact bodyPost_ret (results_ag2 Tryz.results92 _ _ w.heap.size _ _ _ rfl rfl z2 hus rfl rg_info) rfl ⟨rfl, g2⟩
  case false =>
  skip
  cases E2 : (b != 0)
  case true =>
    go_wp2_with (with_reducible refine wpList_store_mid rfl 28 (.tmp 2) (.tmp 93) rfl w.heap.size 0 (#[.int .i64 0, .int .i64 0, .int .u64 0, .int .u64 0, .int .u64 0, .int .u64 0, .int .u64 0, .int .u64 0, .int .u64 0, .int .u64 0, .int .u64 0, .int .u64 0, .int .u64 0, .int .u64 0, .int .u64 0, .int .u64 0, .int .u64 0, .int .u64 0, .int .u64 0, .int .u64 0, .slice none 0 0]) rfl rfl HTH.out HSI.out HON.out ?_)
    exact bodyPost_ret (results_ag2 Tryz.results92 _ _ w.heap.size _ _ _ rfl rfl z2 hus rfl rg_info) rfl ⟨rfl, g2⟩
  case false =>
  skip
  cases b2
  case false =>
    go_wp2_with (with_reducible refine wpList_store_mid rfl 28 (.tmp 2) (.tmp 93) rfl w.heap.size 0 (#[.int .i64 0, .int .i64 0, .int .u64 0, .int .u64 0, .int .u64 0, .int .u64 0, .int .u64 0, .int .u64 0, .int .u64 0, .int .u64 0, .int .u64 0, .int .u64 0, .int .u64 0, .int .u64 0, .int .u64 0, .int .u64 0, .int .u64 0, .int .u64 0, .int .u64 0, .int .u64 0, .slice none 0 0]) rfl rfl HTH.out HSI.out HON.out ?_)
    exact bodyPost_ret (results_ag2 Tryz.results92 _ _ w.heap.size _ _ _ rfl rfl z2 hus rfl rg_info) rfl ⟨rfl, g2⟩
  case true =>
  skip
  cases b3
  case false =>
    go_wp2_with (with_reducible refine wpList_store_mid rfl 28 (.tmp 2) (.tmp 93) rfl w.heap.size 0 (#[.int .i64 0, .int .i64 0, .int .u64 0, .int .u64 0, .int .u64 0, .int .u64 0, .int .u64 0, .int .u64 0, .int .u64 0, .int .u64 0, .int .u64 0, .int .u64 0, .int .u64 0, .int .u64 0, .int .u64 0, .int .u64 0, .int .u64 0, .int .u64 0, .int .u64 0, .int .u64 0, .slice none 0 0]) rfl rfl HTH.out HSI.out HON.out ?_)
    exact bodyPost_ret (results_ag2 Tryz.results92 _ _ w.heap.size _ _ _ rfl rfl z2 hus rfl rg_info) rfl ⟨rfl, g2⟩
  case true =>
  skip
  cases E5 : decide (who < 0)
  case true =>
    go_wp2_with (with_reducible refine wpList_store_mid rfl 28 (.tmp 2) (.tmp 93) rfl w.heap.size 0 (#[.int .i64 0, .int .i64 0, .int .u64 0, .int .u64 0, .int .u64 0, .int .u64 0, .int .u64 0, .int .u64 0, .int .u64 0, .int .u64 0, .int .u64 0, .int .u64 0, .int .u64 0, .int .u64 0, .int .u64 0, .int .u64 0, .int .u64 0, .int .u64 0, .int .u64 0, .int .u64 0, .slice none 0 0]) rfl rfl HTH.out HSI.out HON.out ?_)
    exact bodyPost_ret (results_ag2 Tryz.results92 _ _ w.heap.size _ _ _ rfl rfl z2 hus rfl rg_info) rfl ⟨rfl, g2⟩
  case false =>
  skip
  cases E6 : decide (15 < who)
  case true =>
    go_wp2_with (with_reducible refine wpList_store_mid rfl 28 (.tmp 2) (.tmp 93) rfl w.heap.size 0 (#[.int .i64 0, .int .i64 0, .int .u64 0, .int .u64 0, .int .u64 0, .int .u64 0, .int .u64 0, .int .u64 0, .int .u64 0, .int .u64 0, .int .u64 0, .int .u64 0, .int .u64 0, .int .u64 0, .int .u64 0, .int .u64 0, .int .u64 0, .int .u64 0, .int .u64 0, .int .u64 0, .slice none 0 0]) rfl rfl HTH.out HSI.out HON.out ?_)
    exact bodyPost_ret (results_ag2 Tryz.results92 _ _ w.heap.size _ _ _ rfl rfl z2 hus rfl rg_info) rfl ⟨rfl, g2⟩
  case false =>
  skip
  cases E7 : decide (leaf < 0)
  case true =>
    go_wp2_with (with_reducible refine wpList_store_mid rfl 28 (.tmp 2) (.tmp 93) rfl w.heap.size 0 (#[.int .i64 0, .int .i64 0, .int .u64 0, .int .u64 0, .int .u64 0, .int .u64 0, .int .u64 0, .int .u64 0, .int .u64 0, .int .u64 0, .int .u64 0, .int .u64 0, .int .u64 0, .int .u64 0, .int .u64 0, .int .u64 0, .int .u64 0, .int .u64 0, .int .u64 0, .int .u64 0, .slice none 0 0]) rfl rfl HTH.out HSI.out HON.out ?_)
    exact bodyPost_ret (results_ag2 Tryz.results92 _ _ w.heap.size _ _ _ rfl rfl z2 hus rfl rg_info) rfl ⟨rfl, g2⟩
  case false =>
  skip
  cases E8 : ((q2.length : Int) != 18)
  case true =>
    go_wp2_with (with_reducible refine wpList_store_mid rfl 28 (.tmp 2) (.tmp 93) rfl w.heap.size 0 (#[.int .i64 0, .int .i64 0, .int .u64 0, .int .u64 0, .int .u64 0, .int .u64 0, .int .u64 0, .int .u64 0, .int .u64 0, .int .u64 0, .int .u64 0, .int .u64 0, .int .u64 0, .int .u64 0, .int .u64 0, .int .u64 0, .int .u64 0, .int .u64 0, .int .u64 0, .int .u64 0, .slice none 0 0]) rfl rfl HTH.out HSI.out HON.out ?_)
    exact bodyPost_ret (results_ag2 Tryz.results92 _ _ w.heap.size _ _ _ rfl rfl z2 hus rfl rg_info) rfl ⟨rfl, g2⟩
  case false =>
  skip
  cases E9 : decide (8 < (q3.length : Int))
  case true =>
    go_wp2_with (with_reducible refine wpList_store_mid rfl 28 (.tmp 2) (.tmp 93) rfl w.heap.size 0 (#[.int .i64 0, .int .i64 0, .int .u64 0, .int .u64 0, .int .u64 0, .int .u64 0, .int .u64 0, .int .u64 0, .int .u64 0, .int .u64 0, .int .u64 0, .int .u64 0, .int .u64 0, .int .u64 0, .int .u64 0, .int .u64 0, .int .u64 0, .int .u64 0, .int .u64 0, .int .u64 0, .slice none 0 0]) rfl rfl HTH.out HSI.out HON.out ?_)
    exact bodyPost_ret (results_ag2 Tryz.results92 _ _ w.heap.size _ _ _ rfl rfl z2 hus rfl rg_info) rfl ⟨rfl, g2⟩
  case false =>
  skip
  exfalso
  have h := HNO.out
  have hm := HMX.out
  simp only [bne_eq_false_iff_eq, decide_eq_false_iff_not] at E1 E2 E5 E6 E7 E8 E9
  have h1 : decide (a = 0 ∧ 0 ≤ who ∧ who ≤ 15) = true := decide_eq_true ⟨E1, by omega, by omega⟩
  have h2 : decide (b = 0 ∧ 0 ≤ leaf ∧ leaf ≤ 9223372036854775807) = true := decide_eq_true ⟨E2, by omega, hm⟩
  have h3 : decide (q2.length = 18) = true := decide_eq_true (by omega)
  have h4 : decide (q3.length ≤ 8) = true := decide_eq_true (by omega)
  rw [h1, h2, h3, h4] at h
  exact absurd h (by decide)
end Go.Proofs.YtaeopobofmpioaaGreatDoor

namespace Go.Proofs.YtaeopobofmpioaaGreatDoor
set_option linter.unusedSimpArgs false
set_option linter.unusedVariables false
open Go.RowKit
set_option linter.unusedVariables false
set_option linter.unusedSimpArgs false
def fillS (s : Nat → Nat) (k : Nat) : Nat → Nat := fun j => if j < k then s j else 0
theorem sgC_put (who leaf : Int) (s : Nat → Nat) (pv : Value) : ∀ k, k < 18 → (sgC who leaf (fillS s k) pv).toList.set (2 + k) (.int .u64 (s k : Nat)) = (sgC who leaf (fillS s (k + 1)) pv).toList
  | 0, _ => by simp [sgC, fillS, u64V]
  | 1, _ => by simp [sgC, fillS, u64V]
  | 2, _ => by simp [sgC, fillS, u64V]
  | 3, _ => by simp [sgC, fillS, u64V]
  | 4, _ => by simp [sgC, fillS, u64V]
  | 5, _ => by simp [sgC, fillS, u64V]
  | 6, _ => by simp [sgC, fillS, u64V]
  | 7, _ => by simp [sgC, fillS, u64V]
  | 8, _ => by simp [sgC, fillS, u64V]
  | 9, _ => by simp [sgC, fillS, u64V]
  | 10, _ => by simp [sgC, fillS, u64V]
  | 11, _ => by simp [sgC, fillS, u64V]
  | 12, _ => by simp [sgC, fillS, u64V]
  | 13, _ => by simp [sgC, fillS, u64V]
  | 14, _ => by simp [sgC, fillS, u64V]
  | 15, _ => by simp [sgC, fillS, u64V]
  | 16, _ => by simp [sgC, fillS, u64V]
  | 17, _ => by simp [sgC, fillS, u64V]
  | n + 18, h => by omega
theorem sgC_full (who leaf : Int) (s : Nat → Nat) (pv : Value) : sgC who leaf (fillS s 18) pv = sgC who leaf s pv := by simp [sgC, fillS]
theorem sgC_none (who leaf : Int) (s : Nat → Nat) (pv : Value) : sgC who leaf (fillS s 0) pv = sgC who leaf (fun _ => 0) pv := by simp [sgC, fillS]
set_option maxRecDepth 100000 in
theorem rg_built3 (who leaf : Int) (A : Option Addr) (n c : Nat) : Tryz.prog.built 28 [(0, .int .i64 who), (1, .int .i64 leaf), (3, .slice A n c)] = some (sgC who leaf (fun _ => 0) (.slice A n c)) := by kernel_rfl
set_option maxRecDepth 100000 in
set_option maxHeartbeats 2000000 in
theorem rps_core (tj : ByteArray) (x0 x1 x2 x3 : List UInt8) (who leaf : Int) (s : Nat → Nat) (l : List Nat) (hsp : splitF tj.data.toList = some [x0, x1, x2, x3]) (hz : tj.size ≤ 1000000) (l0 : x0.length ≤ 1000000) (l1 : x1.length ≤ 1000000) (l2 : x2.length ≤ 1000000) (l3 : x3.length ≤ 1000000)
    (p0 : (pnum x0).1 = who) (b0 : uptoB x0 15 = true) (p1 : (pnum x1).1 = leaf) (b1 : uptoB x1 9223372036854775807 = true) (d2 : pdigs x2 = some (oneL s)) (d3 : pdigs x3 = some l) (hl : l.length ≤ 8) (w : World) :
    Calls Tryz.prog 92 #[.string tj] w fun e w' => (∃ A c, e = .returned (.tuple #[.agg (sgC who leaf s (.slice A l.length c)), .int .i64 0]) ∧ Rd w' w'.heap.size A (u64L l) ∧ (∀ ad, A = some ad → w.heap.size < ad.block)) ∧ Grew w w' := by
  have CS := Lib.hid (fun W => rsplit_some (s := tj) (l := [x0, x1, x2, x3]) hsp (by simp) (by omega) W)
  rw [show txt [x0, x1, x2, x3] = [⟨x0.toArray⟩, ⟨x1.toArray⟩, ⟨x2.toArray⟩, ⟨x3.toArray⟩] from rfl] at CS
  have u0 := (fun W => rparse_ok ⟨x0.toArray⟩ (by show x0.toArray.size ≤ _; simp; omega) W)
  have u1 := (fun W => rparse_ok ⟨x1.toArray⟩ (by show x1.toArray.size ≤ _; simp; omega) W)
  have dd2 := (fun W => rpdigs_ok ⟨x2.toArray⟩ (by show x2.toArray.size ≤ _; simp; omega) W)
  have dd3 := (fun W => rpdigs_ok ⟨x3.toArray⟩ (by show x3.toArray.size ≤ _; simp; omega) W)
  unfold uptoB at b0 b1
  obtain ⟨ea, ew0, ew1⟩ := of_decide_eq_true b0
  obtain ⟨eb, el0, -⟩ := of_decide_eq_true b1
  unfold pnumRes at u0 u1
  dsimp only at u0 u1 dd2 dd3
  rw [p0, ea] at u0
  rw [p1, eb] at u1
  rw [p0] at ew0 ew1
  rw [p1] at el0
  rw [d2, Option.isSome_some, Option.getD_some, oneL_length] at dd2
  rw [d3, Option.isSome_some, Option.getD_some] at dd3
  have U0 := Lib.hid u0
  have U1 := Lib.hid u1
  have D2 := Lib.hid dd2
  have D3 := Lib.hid dd3
  clear u0 u1 dd2 dd3 hsp hz l0 l1 l2 l3 p0 p1 d2 d3 ea eb b0 b1
  generalize (⟨x0.toArray⟩ : ByteArray) = t0 at *
  generalize (⟨x1.toArray⟩ : ByteArray) = t1 at *
  generalize (⟨x2.toArray⟩ : ByteArray) = t2 at *
  generalize (⟨x3.toArray⟩ : ByteArray) = t3 at *
  have E5 : decide (who < 0) = false := by simp; omega
  have E6 : decide (15 < who) = false := by simp; omega
  have E7 : decide (leaf < 0) = false := by simp; omega
  have E9 : decide (8 < (l.length : Int)) = false := by simp; omega
  have HE := Lib.hid (And.intro E5 (And.intro E6 (And.intro E7 E9)))
  clear E5 E6 E7 E9 ew0 ew1 el0
  have z0 := alloc_rsigG w
  have g0 := grew_alloc (grew_refl w) (.cells (#[.int .i64 0, .int .i64 0, .int .u64 0, .int .u64 0, .int .u64 0, .int .u64 0, .int .u64 0, .int .u64 0, .int .u64 0, .int .u64 0, .int .u64 0, .int .u64 0, .int .u64 0, .int .u64 0, .int .u64 0, .int .u64 0, .int .u64 0, .int .u64 0, .int .u64 0, .int .u64 0, .slice none 0 0]) 28)
  have hus := Tryz.underlying28
  have bz : ∀ W, (Instr.build 28 #[]).run Tryz.prog W = .ok (.agg (#[.int .i64 0, .int .i64 0, .int .u64 0, .int .u64 0, .int .u64 0, .int .u64 0, .int .u64 0, .int .u64 0, .int .u64 0, .int .u64 0, .int .u64 0, .int .u64 0, .int .u64 0, .int .u64 0, .int .u64 0, .int .u64 0, .int .u64 0, .int .u64 0, .int .u64 0, .int .u64 0, .slice none 0 0])) W := fun W => run_build W 28 #[] _ rg_zeroG
  have HSI : Hid ((Tryz.prog.info? 28).map (·.size) = some (#[.int .i64 0, .int .i64 0, .int .u64 0, .int .u64 0, .int .u64 0, .int .u64 0, .int .u64 0, .int .u64 0, .int .u64 0, .int .u64 0, .int .u64 0, .int .u64 0, .int .u64 0, .int .u64 0, .int .u64 0, .int .u64 0, .int .u64 0, .int .u64 0, .int .u64 0, .int .u64 0, .slice none 0 0] : Array Value).size) := Lib.hid rg_info
  have HON : Hid ((#[.int .i64 0, .int .i64 0, .int .u64 0, .int .u64 0, .int .u64 0, .int .u64 0, .int .u64 0, .int .u64 0, .int .u64 0, .int .u64 0, .int .u64 0, .int .u64 0, .int .u64 0, .int .u64 0, .int .u64 0, .int .u64 0, .int .u64 0, .int .u64 0, .int .u64 0, .int .u64 0, .slice none 0 0] : Array Value).all (·.oneCell') = true) := Lib.hid (by simp [Value.oneCell'])
  go_enter Tryz.func92, Tryz.ntmps92
  go_wp2_with fail
  refine (CS.out _).mono ?_
  rintro e w1 ⟨⟨v1, rfl, o1⟩, gg⟩
  have z1 := z0.grew gg
  have g1 := grew_trans g0 gg
  obtain ⟨g, k1, rfl, hk1, hgl, hcs⟩ := own_cells o1 (by simp)
  have x0 : w1.cell? ⟨g, 0, none⟩ = some (.string t0) := by simpa using hcs 0 (.string t0) rfl
  have x1 : w1.cell? ⟨g, 1, none⟩ = some (.string t1) := by simpa using hcs 1 (.string t1) rfl
  have x2 : w1.cell? ⟨g, 2, none⟩ = some (.string t2) := by simpa using hcs 2 (.string t2) rfl
  have x3 : w1.cell? ⟨g, 3, none⟩ = some (.string t3) := by simpa using hcs 3 (.string t3) rfl
  clear CS z0 g0 gg o1 hcs
  have hk1' : (4 : Int) ≤ (k1 : Int) := by
    have : 4 ≤ k1 := hk1
    omega
  go_wp2_with fail
  refine (U0.out _).mono ?_
  rintro e w2 ⟨rfl, hw2⟩
  have gg : Grew w1 w2 := by rw [hw2]; exact grew_refl _
  have y1 := (gg.cell (p := ⟨g, 1, none⟩) hgl).trans x1
  have y2 := (gg.cell (p := ⟨g, 2, none⟩) hgl).trans x2
  have y3 := (gg.cell (p := ⟨g, 3, none⟩) hgl).trans x3
  have hgl2 := Nat.lt_of_lt_of_le hgl gg.size
  have z2 := z1.grew gg
  have g2 := grew_trans g1 gg
  clear hw2 U0 x0 x1 x2 x3 z1 g1 gg hgl
  go_wp2_with fail
  refine (U1.out _).mono ?_
  rintro e w3 ⟨rfl, hw3⟩
  have gg : Grew w2 w3 := by rw [hw3]; exact grew_refl _
  have x2 := (gg.cell (p := ⟨g, 2, none⟩) hgl2).trans y2
  have x3 := (gg.cell (p := ⟨g, 3, none⟩) hgl2).trans y3
  have hgl3 := Nat.lt_of_lt_of_le hgl2 gg.size
  have z3 := z2.grew gg
  have g3 := grew_trans g2 gg
  clear hw3 U1 y1 y2 y3 z2 g2 gg hgl2
  go_wp2_with fail
  refine (D2.out _).mono ?_
  rintro e w4 ⟨⟨v4, rfl, o4⟩, gg⟩
  obtain ⟨A4, c4, rfl, -, -, r4⟩ := own_rd o4
  have y3 := (gg.cell (p := ⟨g, 3, none⟩) hgl3).trans x3
  have z4 := z3.grew gg
  have g4 := grew_trans g3 gg
  have HNF4 : Hid (∀ ad, A4 = some ad → w.heap.size < ad.block) := Lib.hid (fun ad h => by
    have h1 := own_base o4 ad.block (by rw [h]; rfl)
    have h2 := z3.lt
    omega)
  clear D2 x2 x3 z3 g3 gg hgl3 o4
  go_wp2_with fail
  refine (D3.out _).mono ?_
  rintro e w5 ⟨⟨v5, rfl, o5⟩, gg⟩
  obtain ⟨A5, c5, rfl, -, -, r5⟩ := own_rd o5
  have HNE : Hid (∀ ad, A5 = some ad → w.heap.size < ad.block) := Lib.hid (fun ad h => by
    have h1 := own_base o5 ad.block (by rw [h]; rfl)
    have h2 := z4.lt
    omega)
  have HNF : Hid (∀ ad, A4 = some ad → w.heap.size < ad.block) := HNF4
  have r45 := r4.gr gg
  have z5 := z4.grew gg
  have g5 := grew_trans g4 gg
  clear D3 y3 z4 g4 gg o5 r4 HNF4
  obtain ⟨E5, E6, E7, E9⟩ := HE.out
  go_upto_region 10 with fail
  clear E5 E6 E7 E9
  have hbu := rg_built3 who leaf A5 l.length c5
  have hlt5 := z5.lt
  have ga := grew_alloc (grew_refl w5) (.cells (#[.int .i64 0, .int .i64 0, .int .u64 0, .int .u64 0, .int .u64 0, .int .u64 0, .int .u64 0, .int .u64 0, .int .u64 0, .int .u64 0, .int .u64 0, .int .u64 0, .int .u64 0, .int .u64 0, .int .u64 0, .int .u64 0, .int .u64 0, .int .u64 0, .int .u64 0, .int .u64 0, .slice none 0 0]) 28)
  have zn := alloc_rsigG w5
  have zr := z5.grew ga
  have ra4 := r45.below ga
  have ra5 := r5.below ga
  have gn := grew_trans g5 ga
  clear z5 g5 r45 r5
  obtain ⟨cs0, hcs0⟩ : ∃ cs0, sgC who leaf (fun _ => 0) (.slice A5 l.length c5) = cs0 := ⟨_, rfl⟩
  have hz0 : cs0.size = 21 := by rw [← hcs0]; rfl
  have ho0 : cs0.all (·.oneCell') = true := by rw [← hcs0]; exact sgC_one _ _ _ _ _ _
  rw [hcs0] at hbu
  have HBU := Lib.hid hbu
  have HTN : Hid ((w5.alloc (.cells (#[.int .i64 0, .int .i64 0, .int .u64 0, .int .u64 0, .int .u64 0, .int .u64 0, .int .u64 0, .int .u64 0, .int .u64 0, .int .u64 0, .int .u64 0, .int .u64 0, .int .u64 0, .int .u64 0, .int .u64 0, .int .u64 0, .int .u64 0, .int .u64 0, .int .u64 0, .int .u64 0, .slice none 0 0]) 28)).there w5.heap.size 0 cs0.size) := Lib.hid (by rw [hz0]; exact zn.thereN 21 rfl)
  have HSN : Hid ((Tryz.prog.info? 28).map (·.size) = some cs0.size) := Lib.hid (by rw [hz0]; exact rg_info)
  have HO2 := Lib.hid ho0
  have K := setCells_kp cs0.toList w5.heap.size 0 (w5.alloc (.cells (#[.int .i64 0, .int .i64 0, .int .u64 0, .int .u64 0, .int .u64 0, .int .u64 0, .int .u64 0, .int .u64 0, .int .u64 0, .int .u64 0, .int .u64 0, .int .u64 0, .int .u64 0, .int .u64 0, .int .u64 0, .int .u64 0, .int .u64 0, .int .u64 0, .int .u64 0, .int .u64 0, .slice none 0 0]) 28))
  have zn2 := Ag.set (vs := cs0.toList) zn (by simp [hz0])
  have zr2 := zr.kp K (by omega)
  have rb4 := ra4.kp K (by simp) (fun ad _ h2 (h3 : ad.block = w5.heap.size) => by omega)
  have rb5 := ra5.kp K (by simp) (fun ad _ h2 (h3 : ad.block = w5.heap.size) => by omega)
  have gn2 := setCells_grew (o := 0) (b := w5.heap.size) cs0.toList gn (by omega)
  rw [← hcs0, ← sgC_none who leaf s] at zn2
  rw [hcs0.symm.trans (sgC_none who leaf s _).symm] at zr2 rb4 rb5 gn2
  have HZ : Hid (sgC who leaf (fillS s 0) (.slice A5 l.length c5) = cs0) := Lib.hid ((sgC_none who leaf s _).trans hcs0)
  clear zn zr ra4 ra5 gn K hbu hz0 ho0 hcs0 ga
  have HF1 := Lib.hid zn2
  have HF2 := Lib.hid zr2
  have HF3 := Lib.hid rb4
  have HF4 := Lib.hid rb5
  have HF5 := Lib.hid gn2
  clear zn2 zr2 rb4 rb5 gn2
  go_wp2_with (first
    | (with_reducible refine wpList_build_is rfl 28 #[(0, .tmp 94), (1, .tmp 95), (3, .tmp 96)] rfl cs0 ?_ ?_; · simpa [Act.eval, Act.put] using HBU.out)
    | (with_reducible refine wpList_store_mid rfl 28 (.tmp 14) (.tmp 97) rfl w5.heap.size 0 cs0 rfl rfl HTN.out HSN.out HO2.out ?_))
  rw [← HZ.out]
  clear HBU HTN HSN HO2 HZ
  go_loopw [15] (fun i wr => ∃ k : Nat, k ≤ 18 ∧ i = .int .i64 k ∧ Ag wr w5.heap.size (sgC who leaf (fillS s k) (.slice A5 l.length c5)).toList ∧ Ag wr w.heap.size (#[.int .i64 0, .int .i64 0, .int .u64 0, .int .u64 0, .int .u64 0, .int .u64 0, .int .u64 0, .int .u64 0, .int .u64 0, .int .u64 0, .int .u64 0, .int .u64 0, .int .u64 0, .int .u64 0, .int .u64 0, .int .u64 0, .int .u64 0, .int .u64 0, .int .u64 0, .int .u64 0, .slice none 0 0] : Array Value).toList ∧ Rd wr w5.heap.size A4 (u64L (oneL s)) ∧ Rd wr w5.heap.size A5 (u64L l) ∧ Grew w wr) (fun i _ => 18 - (intOf i).toNat)
  case atStart => exact ⟨0, Nat.zero_le _, rfl, HF1.out, HF2.out, HF3.out, HF4.out, HF5.out⟩
  case round =>
    clear HF1 HF2 HF3 HF4 HF5
    obtain ⟨k, hk, rfl, hn, hz, h4, h5, hg⟩ := hrel
    by_cases hlt : k < 18
    · obtain ⟨ad, hA, -, hc0⟩ := rd_u64 h4 k (by rw [oneL_length]; exact hlt)
      rw [show (oneL s)[k]'(by rw [oneL_length]; exact hlt) = s k by simp [oneL]] at hc0
      have hk0 : (0 : Int) ≤ (k : Int) := by omega
      have hk1 : (k : Int) < 18 := by omega
      have hc2 := sg_at hn k hlt
      have hf2 := (hn.there (2 + k) (by rw [sgC_len]; omega)).2
      rw [Nat.zero_add] at hf2
      have m := hn.set1 (2 + k) (.int .u64 (s k : Nat)) (by rw [sgC_len]; omega)
      rw [sgC_put who leaf s _ k hlt] at m
      have K := setCells_kp [.int .u64 (s k : Nat)] w5.heap.size (2 + k) wr
      rw [show wr.setCells w5.heap.size (2 + k) [.int .u64 (s k : Nat)] = wr.setCell ⟨w5.heap.size, 2 + k, none⟩ (.int .u64 (s k : Nat)) from rfl] at K
      have M1 := Lib.hid m
      have hnl := hn.lt
      have M2 := Lib.hid (hz.kp K (by omega))
      have M3 := Lib.hid (h4.kp K (by omega) (fun ad _ h2 (h3 : ad.block = w5.heap.size) => by omega))
      have M4 := Lib.hid (h5.kp K (by omega) (fun ad _ h2 (h3 : ad.block = w5.heap.size) => by omega))
      have M5 := Lib.hid (setCells_grew (o := 2 + k) (b := w5.heap.size) [.int .u64 (s k : Nat)] hg (by omega))
      clear m K hn hz h4 h5 hg
      subst hA
      go_wp2_with fail
      go_roundw
      case rel => exact ⟨k + 1, by omega, by go_num, M1.out, M2.out, M3.out, M4.out, M5.out⟩
      case measure => simp [intOf]; omega
    · obtain rfl : k = 18 := by omega
      rw [sgC_full] at hn
      obtain ⟨cs, hcs⟩ : ∃ cs, sgC who leaf s (.slice A5 l.length c5) = cs := ⟨_, rfl⟩
      have hzc : cs.size = 21 := by rw [← hcs]; rfl
      have ho : cs.all (·.oneCell') = true := by rw [← hcs]; exact sgC_one _ _ _ _ _ _
      rw [hcs] at hn
      have HM := Lib.hid hn.cell
      have HL : Hid ((Tryz.prog.info? 28).map (·.size) = some cs.toList.length) := Lib.hid (by rw [Array.length_toList, hzc]; exact rg_info)
      have HS2 : Hid ((Tryz.prog.info? 28).map (·.size) = some cs.size) := Lib.hid (by rw [hzc]; exact rg_info)
      have HO := Lib.hid ho
      have HTH : Hid (wr.there w.heap.size 0 cs.size) := Lib.hid (by rw [hzc]; exact hz.thereN 21 rfl)
      have z6 := Ag.set (vs := cs.toList) hz (by simp [hzc])
      have g6 := setCells_grew (o := 0) (b := w.heap.size) cs.toList hg (Nat.le_refl _)
      have h56 := hn.lt
      have r6 := (h5.kp (setCells_kp cs.toList w.heap.size 0 wr) (by omega) (fun ad h1 h2 (h3 : ad.block = w.heap.size) => by have := HNE.out ad h1; omega)).more (Nat.le_of_lt (Nat.lt_of_lt_of_le h56 (setCells_kp cs.toList w.heap.size 0 wr).size))
      have hcs2 := Lib.hid hcs
      clear hn hz h4 h5 hg ho hzc hcs
      go_wp2_with (first
        | (with_reducible refine wpList_load_mid rfl 28 (.tmp 14) rfl w5.heap.size 0 rfl cs.toList _ HM.out hus rfl HL.out ?_; simp only [Array.toArray_toList])
        | (with_reducible refine wpList_store_mid rfl 28 (.tmp 2) (.tmp 109) rfl w.heap.size 0 cs rfl rfl HTH.out HS2.out HO.out ?_))
      exact bodyPost_ret (results_ag2 Tryz.results92 _ _ w.heap.size _ _ _ rfl rfl z6 hus rfl (by simpa using HL.out)) rfl ⟨⟨A5, c5, by rw [hcs2.out, Array.toArray_toList]; rfl, r6, HNE.out⟩, g6⟩
end Go.Proofs.YtaeopobofmpioaaGreatDoor

namespace Go.Proofs.YtaeopobofmpioaaGreatDoor
set_option linter.unusedSimpArgs false
set_option linter.unusedVariables false
open Go.RowKit
set_option linter.unusedVariables false
set_option linter.unusedSimpArgs false
theorem fld_ge9 (f : List UInt8) : f.length ≤ (fld f).length := by
  induction f with
  | nil => simp [fld_nil]
  | cons c f ih =>
    rw [fld_cons, List.length_append, List.length_cons]
    have : 1 ≤ (esc c).length := by unfold esc; split <;> simp
    omega
theorem joinF_ge : ∀ (l : List (List UInt8)) (x : List UInt8), x ∈ l → x.length ≤ (joinF l).length
  | [], x, h => by cases h
  | f :: l, x, h => by
    rw [joinF_cons, List.length_cons, List.length_append]
    rcases List.mem_cons.1 h with rfl | h
    · have := fld_ge9 x; omega
    · have := joinF_ge l x h; omega
theorem split_ge {S : List UInt8} {l : List (List UInt8)} (h : splitF S = some l) (x : List UInt8) (hx : x ∈ l) : x.length ≤ S.length := by
  rw [← join_split S l h]
  exact joinF_ge l x hx
theorem parseO_back {x : List UInt8} {d : Nat} (hp : parseO x = some d) : hexL d = x ∧ d < 18446744073709551616 := by
  have hl : x.length = 16 := by
    unfold parseO at hp
    split at hp
    · assumption
    · cases hp
  have hx : hexN x = some d := by
    unfold parseO at hp
    rwa [if_pos hl] at hp
  refine ⟨hexL_hexN _ _ hl hx, ?_⟩
  have h1 := hexN_lt _ _ hx
  rw [hl] at h1
  have h2 : (16 : Nat) ^ 16 = 18446744073709551616 := by decide
  omega
theorem pdigs_back {x : List UInt8} {q : List Nat} (h : pdigs x = some q) : digs q = x ∧ ∀ n ∈ q, n < 18446744073709551616 := by
  unfold pdigs at h
  by_cases hz : x = []
  · rw [if_pos hz] at h
    injection h with h
    subst h; subst hz
    exact ⟨rfl, fun n hn => by cases hn⟩
  · rw [if_neg hz] at h
    by_cases ha : allD (splitC x)
    · rw [if_pos ha] at h
      injection h with h
      subst h
      have key : ∀ l : List (List UInt8), allD l → (valsD l).map hexL = l ∧ ∀ n ∈ valsD l, n < 18446744073709551616 := by
        intro l hl
        induction l with
        | nil => exact ⟨rfl, fun n hn => by cases hn⟩
        | cons y l ih =>
          obtain ⟨i1, i2⟩ := ih (fun z hz => hl z (List.mem_cons_of_mem _ hz))
          obtain ⟨d, hd⟩ := Option.ne_none_iff_exists'.1 (hl y List.mem_cons_self)
          obtain ⟨b1, b2⟩ := parseO_back hd
          have hv : valsD (y :: l) = d :: valsD l := by simp [valsD, hd]
          rw [hv]
          refine ⟨by rw [List.map_cons, i1, b1], fun n hn => ?_⟩
          rcases List.mem_cons.1 hn with rfl | hn
          · exact b2
          · exact i2 n hn
      obtain ⟨k1, k2⟩ := key _ ha
      refine ⟨?_, k2⟩
      unfold digs
      rw [k1, joinC_splitC]
    · rw [if_neg ha] at h; cases h
/-- what a text's signature is, and its words are the text again -/
theorem sigP_back {S : List UInt8} {who leaf : Int} {q l : List Nat} (h : sigP S = some ((who, leaf), q, l)) :
    ∃ x0 x1 x2 x3, splitF S = some [x0, x1, x2, x3] ∧ (pnum x0).1 = who ∧ uptoB x0 15 = true ∧ (pnum x1).1 = leaf ∧ uptoB x1 9223372036854775807 = true ∧ pdigs x2 = some q ∧ pdigs x3 = some l ∧ q.length = 18 ∧ l.length ≤ 8 ∧ joinF [Lib.itoa who, Lib.itoa leaf, digs q, digs l] = S := by
  unfold sigP at h
  split at h
  · rename_i x0 x1 x2 x3 hsp
    by_cases hg : sig4 x0 x1 x2 x3 = true
    · rw [if_pos hg] at h
      injection h with h
      injection h with h1 h2
      injection h1 with h3 h4
      injection h2 with h5 h6
      unfold sig4 at hg
      simp only [Bool.and_eq_true, decide_eq_true_eq] at hg
      obtain ⟨⟨⟨⟨⟨g0, g1⟩, g2⟩, g3⟩, g4⟩, g5⟩ := hg
      obtain ⟨q2, e2⟩ := Option.isSome_iff_exists.1 g2
      obtain ⟨q3, e3⟩ := Option.isSome_iff_exists.1 g3
      rw [e2, Option.getD_some] at h5 g4
      rw [e3, Option.getD_some] at h6 g5
      subst h5; subst h6
      refine ⟨x0, x1, x2, x3, hsp, h3, g0, h4, g1, e2, e3, g4, g5, ?_⟩
      have z0 := (pnum_zero (of_decide_eq_true g0).1).1
      have z1 := (pnum_zero (of_decide_eq_true g1).1).1
      rw [h3] at z0
      rw [h4] at z1
      rw [z0, z1, (pdigs_back e2).1, (pdigs_back e3).1]
      exact join_split S _ hsp
    · rw [if_neg hg] at h; cases h
  · cases h
end Go.Proofs.YtaeopobofmpioaaGreatDoor

namespace Go.Proofs.YtaeopobofmpioaaGreatDoor
set_option linter.unusedSimpArgs false
set_option linter.unusedVariables false
open Go.RowKit
set_option linter.unusedVariables false
set_option linter.unusedSimpArgs false
theorem oneL_of {q : List Nat} (h : q.length = 18) : oneL (fun k => q.getD k 0) = q := by
  apply List.ext_getElem (by rw [oneL_length, h])
  intro i h1 h2
  simp [oneL, List.getD_eq_getElem?_getD, h2]
/-- the fields of what has been read -/
def sgO : Option ((Int × Int) × List Nat × List Nat) → (Int × Int) × (Nat → Nat) × List Nat
  | some (p, q, l) => (p, fun k => q.getD k 0, l)
  | none => ((0, 0), fun _ => 0, [])
def sgE (o : Option ((Int × Int) × List Nat × List Nat)) : Int := if o.isSome = true then 0 else 2
end Go.Proofs.YtaeopobofmpioaaGreatDoor

namespace Go.Proofs.YtaeopobofmpioaaGreatDoor
set_option linter.unusedSimpArgs false
set_option linter.unusedVariables false
open Go.RowKit
set_option linter.unusedVariables false
set_option linter.unusedSimpArgs false
theorem upto_in {x : List UInt8} {m : Int} (h : uptoB x m = true) (hm : m ≤ 9223372036854775807) : in64 (pnum x).1 := by
  obtain ⟨_, h1, h2⟩ := of_decide_eq_true h
  exact ⟨by omega, by omega⟩
theorem sgO_in (S : List UInt8) : in64 (sgO (sigP S)).1.1 ∧ in64 (sgO (sigP S)).1.2 ∧ (∀ k, k < 18 → (sgO (sigP S)).2.1 k < 18446744073709551616) ∧ (∀ n ∈ (sgO (sigP S)).2.2, n < 18446744073709551616) ∧ (sgO (sigP S)).2.2.length ≤ 8 := by
  cases hp : sigP S with
  | none => exact ⟨by unfold in64 sgO; decide, by unfold in64 sgO; decide, fun k _ => by simp [sgO], fun n hn => by simp [sgO] at hn, by simp [sgO]⟩
  | some v =>
    obtain ⟨⟨who, leaf⟩, q, l⟩ := v
    obtain ⟨x0, x1, x2, x3, hsp, p0, b0, p1, b1, d2, d3, hq, hl, -⟩ := sigP_back hp
    have u0 := upto_in b0 (by decide)
    have u1 := upto_in b1 (by decide)
    rw [p0] at u0
    rw [p1] at u1
    refine ⟨u0, u1, fun k hk => ?_, (pdigs_back d3).2, hl⟩
    have hk' : k < q.length := by omega
    have := (pdigs_back d2).2 (q[k]) (List.getElem_mem hk')
    simpa [sgO, List.getD_eq_getElem?_getD, hk'] using this
theorem sgO_back {S : List UInt8} (h : (sigP S).isSome = true) : sgT (sgO (sigP S)).1.1 (sgO (sigP S)).1.2 (sgO (sigP S)).2.1 (sgO (sigP S)).2.2 = S := by
  cases hp : sigP S with
  | none => rw [hp] at h; cases h
  | some v =>
    obtain ⟨⟨who, leaf⟩, q, l⟩ := v
    obtain ⟨x0, x1, x2, x3, hsp, p0, b0, p1, b1, d2, d3, hq, hl, hj⟩ := sigP_back hp
    show joinF [Lib.itoa who, Lib.itoa leaf, digs (oneL fun k => q.getD k 0), digs l] = S
    rw [oneL_of hq]
    exact hj
end Go.Proofs.YtaeopobofmpioaaGreatDoor

namespace Go.Proofs.YtaeopobofmpioaaGreatDoor
set_option linter.unusedSimpArgs false
set_option linter.unusedVariables false
open Go.RowKit
set_option linter.unusedVariables false
set_option linter.unusedSimpArgs false
/-- what a look at one mark comes to -/
noncomputable def ckE (R : List Nat) (h : Int) (n : Nat) (d : Nat) (sw lf : Int) (s : Nat → Nat) (l : List Nat) : Int :=
  if R.length ≤ n then 7 else if sw = (n : Int) then (if vrS (R.getD n 0) lf s l (d : Int) h = true then 0 else 7) else 7
set_option maxRecDepth 100000 in
set_option maxHeartbeats 4000000 in
theorem scheck_ok (R : List Nat) (RA : Option Addr) (Rc : Nat) (h : Int) (cm n : Nat) (at_ sw lf : Int) (s : Nat → Nat) (A : Option Addr) (c : Nat) (l : List Nat) (hc : cm < 18446744073709551616) (hw : in64 (n : Int)) (ha : in64 at_) (hsw : in64 sw) (hlf : in64 lf) (hl : l.length ≤ 1000) (hs : ∀ k, k < 18 → s k < 18446744073709551616) (hb : ∀ x ∈ l, x < 18446744073709551616)
    (hRl : R.length ≤ 1000) (hRb : ∀ x ∈ R, x < 18446744073709551616) (q : Nat) (w : World) (hS : Std w) (hrR : Rd w w.heap.size RA (u64L R)) (hrl : Rd w w.heap.size A (u64L l)) (hq : w.rangeAt q 0 (stC cm (n : Int) at_ sw lf s (.slice A l.length c)).toList) (hql : q < w.heap.size) :
    Calls Tryz.prog 81 #[.slice RA R.length Rc, .int .i64 h, .func (.func 82) #[] #[], .slice (some ⟨q, 0, none⟩) 1 1] w fun e w' => e = .returned (.int .i64 (ckE R h n (stD cm (n : Int) at_) sw lf s l)) ∧ Grew w w' := by
  have hus := Tryz.underlying42
  have hut := Tryz.underlying44
  have hum := Tryz.underlying216
  have HST : Hid ((Tryz.prog.info? 44).map (·.size) = some (stC cm (n : Int) at_ sw lf s (.slice A l.length c)).toList.length) := Lib.hid st_info
  have HSI : Hid ((Tryz.prog.info? 44).map (·.size) = some (stC cm (n : Int) at_ sw lf s (.slice A l.length c)).size) := Lib.hid st_info
  have HSM : Hid ((Tryz.prog.info? 216).map (·.size) = some (mkC (n : Int) (stD cm (n : Int) at_) sw lf s (.slice A l.length c)).size) := Lib.hid mk_info
  have HSG : Hid ((Tryz.prog.info? 42).map (·.size) = some (sgC sw lf s (.slice A l.length c)).toList.length) := Lib.hid sg_info
  have HOS := Lib.hid (stC_one cm (n : Int) at_ sw lf s A l.length c)
  have HOM := Lib.hid (mkC_one (n : Int) (stD cm (n : Int) at_) sw lf s A l.length c)
  have CM := Lib.hid (fun W hW => mark_ok cm (n : Int) at_ sw lf s A c l hc hw ha W hW)
  have hdl := stD_lt cm (n : Int) at_
  have CVV := Lib.hid (fun W h1 => kverify_ok (R.getD n 0) sw lf s A c l (stD cm (n : Int) at_ : Nat) h (by omega) hlf hs hb ⟨by omega, by omega⟩ W h1)
  obtain ⟨d, hd⟩ : ∃ d, stD cm (n : Int) at_ = d := ⟨_, rfl⟩
  rw [hd] at CM HSM HOM CVV ⊢
  have HS := Lib.hid hS
  have HRR := Lib.hid hrR
  have HRL := Lib.hid hrl
  have hn0 : (0 : Int) ≤ (n : Int) := by omega
  clear hd hdl hS hrR hrl hc hw ha hl hs hb hRb
  go_enter Tryz.func81, Tryz.ntmps81
  go_wp2_with fail
  go_loopw [14] (fun iv wr => (iv = .int .i64 0 ∧ wr.rangeAt q 0 (stC cm (n : Int) at_ sw lf s (.slice A l.length c)).toList ∧ Grew w wr) ∨ (iv = .int .i64 1 ∧ ckE R h n d sw lf s l = 0 ∧ Grew w wr)) (fun iv _ => 1 - (intOf iv).toNat)
  case atStart => exact .inl ⟨rfl, hq, grew_refl _⟩
  case round =>
    clear hq
    rcases hrel with ⟨rfl, hq, G⟩ | ⟨rfl, hE, G⟩
    · have zt := Ag.new wr 44 (#[.int .u64 0, .int .i64 0, .int .i64 0, .int .i64 0, .int .i64 0, .int .u64 0, .int .u64 0, .int .u64 0, .int .u64 0, .int .u64 0, .int .u64 0, .int .u64 0, .int .u64 0, .int .u64 0, .int .u64 0, .int .u64 0, .int .u64 0, .int .u64 0, .int .u64 0, .int .u64 0, .int .u64 0, .int .u64 0, .int .u64 0, .slice none 0 0])
      have HTH : Hid ((wr.alloc (.cells (#[.int .u64 0, .int .i64 0, .int .i64 0, .int .i64 0, .int .i64 0, .int .u64 0, .int .u64 0, .int .u64 0, .int .u64 0, .int .u64 0, .int .u64 0, .int .u64 0, .int .u64 0, .int .u64 0, .int .u64 0, .int .u64 0, .int .u64 0, .int .u64 0, .int .u64 0, .int .u64 0, .int .u64 0, .int .u64 0, .int .u64 0, .slice none 0 0]) 44)).there wr.heap.size 0 (stC cm (n : Int) at_ sw lf s (.slice A l.length c)).size) := Lib.hid (zt.thereN 24 rfl)
      have z1 := Ag.set (vs := (stC cm (n : Int) at_ sw lf s (.slice A l.length c)).toList) zt rfl
      have g1 : Grew wr ((wr.alloc (.cells (#[.int .u64 0, .int .i64 0, .int .i64 0, .int .i64 0, .int .i64 0, .int .u64 0, .int .u64 0, .int .u64 0, .int .u64 0, .int .u64 0, .int .u64 0, .int .u64 0, .int .u64 0, .int .u64 0, .int .u64 0, .int .u64 0, .int .u64 0, .int .u64 0, .int .u64 0, .int .u64 0, .int .u64 0, .int .u64 0, .int .u64 0, .slice none 0 0]) 44)).setCells wr.heap.size 0 (stC cm (n : Int) at_ sw lf s (.slice A l.length c)).toList) := setCells_grew (o := 0) (b := wr.heap.size) (stC cm (n : Int) at_ sw lf s (.slice A l.length c)).toList (grew_alloc (grew_refl wr) _) (Nat.le_refl _)
      obtain ⟨w2, hw2⟩ : ∃ v, (wr.alloc (.cells (#[.int .u64 0, .int .i64 0, .int .i64 0, .int .i64 0, .int .i64 0, .int .u64 0, .int .u64 0, .int .u64 0, .int .u64 0, .int .u64 0, .int .u64 0, .int .u64 0, .int .u64 0, .int .u64 0, .int .u64 0, .int .u64 0, .int .u64 0, .int .u64 0, .int .u64 0, .int .u64 0, .int .u64 0, .int .u64 0, .int .u64 0, .slice none 0 0]) 44)).setCells wr.heap.size 0 (stC cm (n : Int) at_ sw lf s (.slice A l.length c)).toList = v := ⟨_, rfl⟩
      rw [hw2] at z1 g1
      have HW2 := Lib.hid hw2
      have G2 := grew_trans G g1
      have hm1 := z1.cell
      clear hw2 zt g1
      go_wp2_with (first
        | (with_reducible refine wpList_load_mid rfl 44 (.tmp 16) rfl q 0 rfl (stC cm (n : Int) at_ sw lf s (.slice A l.length c)).toList _ hq hut rfl HST.out ?_)
        | (with_reducible refine wpList_store_mid rfl 44 (.tmp 10) (.tmp 17) rfl wr.heap.size 0 (stC cm (n : Int) at_ sw lf s (.slice A l.length c)) rfl rfl HTH.out HSI.out HOS.out ?_; rw [HW2.out]; clear HW2 HTH; generalize wr.heap.size = q1 at *)
        | (with_reducible refine wpList_load_mid rfl 44 (.tmp 10) rfl q1 0 rfl (stC cm (n : Int) at_ sw lf s (.slice A l.length c)).toList _ hm1 hut rfl HST.out ?_))
      refine (CM.out w2 (HS.out.grew G2)).mono ?_
      rintro e w3 ⟨rfl, gg⟩
      have G3 := grew_trans G2 gg
      clear hq G G2 gg z1 hm1
      have zt := Ag.new w3 216 (#[.int .i64 0, .int .u64 0, .int .i64 0, .int .i64 0, .int .u64 0, .int .u64 0, .int .u64 0, .int .u64 0, .int .u64 0, .int .u64 0, .int .u64 0, .int .u64 0, .int .u64 0, .int .u64 0, .int .u64 0, .int .u64 0, .int .u64 0, .int .u64 0, .int .u64 0, .int .u64 0, .int .u64 0, .int .u64 0, .slice none 0 0])
      have HTH : Hid ((w3.alloc (.cells (#[.int .i64 0, .int .u64 0, .int .i64 0, .int .i64 0, .int .u64 0, .int .u64 0, .int .u64 0, .int .u64 0, .int .u64 0, .int .u64 0, .int .u64 0, .int .u64 0, .int .u64 0, .int .u64 0, .int .u64 0, .int .u64 0, .int .u64 0, .int .u64 0, .int .u64 0, .int .u64 0, .int .u64 0, .int .u64 0, .slice none 0 0]) 216)).there w3.heap.size 0 (mkC (n : Int) d sw lf s (.slice A l.length c)).size) := Lib.hid (zt.thereN 23 rfl)
      have z4 := Ag.set (vs := (mkC (n : Int) d sw lf s (.slice A l.length c)).toList) zt rfl
      have g4 : Grew w3 ((w3.alloc (.cells (#[.int .i64 0, .int .u64 0, .int .i64 0, .int .i64 0, .int .u64 0, .int .u64 0, .int .u64 0, .int .u64 0, .int .u64 0, .int .u64 0, .int .u64 0, .int .u64 0, .int .u64 0, .int .u64 0, .int .u64 0, .int .u64 0, .int .u64 0, .int .u64 0, .int .u64 0, .int .u64 0, .int .u64 0, .int .u64 0, .slice none 0 0]) 216)).setCells w3.heap.size 0 (mkC (n : Int) d sw lf s (.slice A l.length c)).toList) := setCells_grew (o := 0) (b := w3.heap.size) (mkC (n : Int) d sw lf s (.slice A l.length c)).toList (grew_alloc (grew_refl w3) _) (Nat.le_refl _)
      obtain ⟨w5, hw5⟩ : ∃ v, (w3.alloc (.cells (#[.int .i64 0, .int .u64 0, .int .i64 0, .int .i64 0, .int .u64 0, .int .u64 0, .int .u64 0, .int .u64 0, .int .u64 0, .int .u64 0, .int .u64 0, .int .u64 0, .int .u64 0, .int .u64 0, .int .u64 0, .int .u64 0, .int .u64 0, .int .u64 0, .int .u64 0, .int .u64 0, .int .u64 0, .int .u64 0, .slice none 0 0]) 216)).setCells w3.heap.size 0 (mkC (n : Int) d sw lf s (.slice A l.length c)).toList = v := ⟨_, rfl⟩
      rw [hw5] at z4 g4
      have HW5 := Lib.hid hw5
      have G5 := grew_trans G3 g4
      clear hw5 zt g4 G3
      go_wp2_with (with_reducible refine wpList_store_mid rfl 216 (.tmp 11) (.tmp 20) rfl w3.heap.size 0 (mkC (n : Int) d sw lf s (.slice A l.length c)) rfl rfl HTH.out HSM.out HOM.out ?_; rw [HW5.out]; clear HW5 HTH; generalize w3.heap.size = q2 at *)
      simp only [Act.put]
      have m0 : ∀ y : Gr w5, y.val.cell? ⟨q2, 0, none⟩ = some (.int .i64 (n : Int)) := fun y => by simpa using (z4.gr y).cell 0 _ rfl
      have m1 : ∀ y : Gr w5, y.val.cell? ⟨q2, 1, none⟩ = some (.int .u64 (d : Nat)) := fun y => by simpa using (z4.gr y).cell 1 _ rfl
      have m2 : ∀ y : Gr w5, y.val.cell? ⟨q2, 2, none⟩ = some (.int .i64 sw) := fun y => by simpa using (z4.gr y).cell 2 _ rfl
      have qm : Hid (∀ y : Gr w5, y.val.rangeAt q2 2 (sgC sw lf s (.slice A l.length c)).toList) := Lib.hid (fun y => mk_sig (z4.gr y).cell)
      have CV := Lib.hid (fun (y : Gr w5) => CVV.out y.val ((HRL.out.gr G5).gr y.ok))
      have h00 : ¬ (n : Int) < 0 := by omega
      clear z4
      by_cases hA : R.length ≤ n
      · have HE : Hid (ckE R h n d sw lf s l = 7) := Lib.hid (by unfold ckE; rw [if_pos hA])
        have e1 : (R.length : Int) ≤ (n : Int) := by omega
        refine wp_region_grew (grew_refl w5) (by kernel_rfl) (by kernel_rfl) ?_
        repeat (first
          | (go_big_quiet_want; refine quiet_load_mid 42 (.tmp 45) rfl q2 2 rfl (sgC sw lf s (.slice A l.length c)).toList _ qm.out hus rfl HSG.out ?_; simp only [Act.put, List.setIfInBounds_toArray, List.set_cons_succ, List.set_cons_zero, Array.toArray_toList]; go_big_quiet_on)
          | (go_big_quiet_step ((go_at_call 137; exact callG (CV.out _)))))
        refine wpQuiet_nil ?_
        rintro w8 ⟨⟨w8', g8⟩, rfl⟩
        have G8 := grew_trans G5 g8
        go_wp2_with fail
        go_ret
        exact ⟨by rw [HE.out]; rfl, G8⟩
      · have hA1 : ¬ (R.length : Int) ≤ (n : Int) := by omega
        have hnR : n < R.length := by omega
        have hgd : R.getD n 0 = R[n] := by simp [List.getD, hnR]
        obtain ⟨ad, hRA, -, hc0⟩ := rd_u64 (HRR.out.gr G5) n hnR
        subst hRA
        have mr : ∀ y : Gr w5, y.val.cell? (ad.add n) = some (.int .u64 ((R.getD n 0 : Nat) : Int)) := fun y => by
          obtain ⟨ad', e, -, hc1⟩ := rd_u64 ((HRR.out.gr G5).gr y.ok) n hnR
          cases e
          rw [hgd]; exact hc1
        clear hgd hc0
        have hnRi : (n : Int) < (R.length : Int) := by omega
        by_cases hB : sw = (n : Int)
        · have HE0 : Hid (ckE R h n d sw lf s l = if vrS (R.getD n 0) lf s l (d : Int) h = true then 0 else 7) := Lib.hid (by unfold ckE; rw [if_neg hA, if_pos hB])
          generalize R.getD n 0 = r at *
          have e2 : (sw != (n : Int)) = false := by simp [hB]
          obtain ⟨vb, hvb⟩ : ∃ v, vrS r lf s l (d : Int) h = v := ⟨_, rfl⟩
          rw [hvb] at CV CVV HE0
          clear hvb CVV hB
          cases vb
          · have HE : Hid (ckE R h n d sw lf s l = 7) := Lib.hid (by rw [HE0.out, if_neg (by simp)])
            clear HE0
            refine wp_region_grew (grew_refl w5) (by kernel_rfl) (by kernel_rfl) ?_
            repeat (first
              | (go_big_quiet_want; refine quiet_load_mid 42 (.tmp 45) rfl q2 2 rfl (sgC sw lf s (.slice A l.length c)).toList _ qm.out hus rfl HSG.out ?_; simp only [Act.put, List.setIfInBounds_toArray, List.set_cons_succ, List.set_cons_zero, Array.toArray_toList]; go_big_quiet_on)
              | (go_big_quiet_step ((go_at_call 137; exact callG (CV.out _)))))
            refine wpQuiet_nil ?_
            rintro w8 ⟨⟨w8', g8⟩, rfl⟩
            have G8 := grew_trans G5 g8
            go_wp2_with fail
            go_ret
            exact ⟨by rw [HE.out]; rfl, G8⟩
          · have HE : Hid (ckE R h n d sw lf s l = 0) := Lib.hid (by rw [HE0.out, if_pos rfl])
            clear HE0
            refine wp_region_grew (grew_refl w5) (by kernel_rfl) (by kernel_rfl) ?_
            repeat (first
              | (go_big_quiet_want; refine quiet_load_mid 42 (.tmp 45) rfl q2 2 rfl (sgC sw lf s (.slice A l.length c)).toList _ qm.out hus rfl HSG.out ?_; simp only [Act.put, List.setIfInBounds_toArray, List.set_cons_succ, List.set_cons_zero, Array.toArray_toList]; go_big_quiet_on)
              | (go_big_quiet_step ((go_at_call 137; exact callG (CV.out _)))))
            refine wpQuiet_nil ?_
            rintro w8 ⟨⟨w8', g8⟩, rfl⟩
            have G8 := grew_trans G5 g8
            go_wp2_with fail
            go_roundw
            case rel => exact .inr ⟨by go_num, HE.out, G8⟩
            case measure => simp [intOf]
        · have HE : Hid (ckE R h n d sw lf s l = 7) := Lib.hid (by unfold ckE; rw [if_neg hA, if_neg hB])
          generalize R.getD n 0 = r at *
          have e2 : (sw != (n : Int)) = true := by simp [hB]
          clear hB
          refine wp_region_grew (grew_refl w5) (by kernel_rfl) (by kernel_rfl) ?_
          repeat (first
            | (go_big_quiet_want; refine quiet_load_mid 42 (.tmp 45) rfl q2 2 rfl (sgC sw lf s (.slice A l.length c)).toList _ qm.out hus rfl HSG.out ?_; simp only [Act.put, List.setIfInBounds_toArray, List.set_cons_succ, List.set_cons_zero, Array.toArray_toList]; go_big_quiet_on)
            | (go_big_quiet_step ((go_at_call 137; exact callG (CV.out _)))))
          refine wpQuiet_nil ?_
          rintro w8 ⟨⟨w8', g8⟩, rfl⟩
          have G8 := grew_trans G5 g8
          go_wp2_with fail
          go_ret
          exact ⟨by rw [HE.out]; rfl, G8⟩
    · go_wp2_with fail
      go_ret
      exact ⟨by rw [hE]; rfl, G⟩
end Go.Proofs.YtaeopobofmpioaaGreatDoor
