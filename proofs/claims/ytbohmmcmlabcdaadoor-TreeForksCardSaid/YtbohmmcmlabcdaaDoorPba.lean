/- known of layer 17: the walk (mktrk.py). -/
import Derived.Test.YtbohmmcmlabcdaaDoorPaz
import Derived.Test.YtbohmmcmlabcdaaDoorPaj
namespace Go.Proofs.YtbohmmcmlabcdaaDoor
set_option linter.unusedSimpArgs false
set_option linter.unusedVariables false
open Go.RowKit Go.Maps
set_option linter.unusedVariables false
set_option linter.unnecessarySimpa false
set_option linter.unusedSimpArgs false
/-- .. with a twin, a struct that was got, a way -/
structure E17 (w0 W : World) (t mb : Nat) (K : BL) (L : List (Nat × BB)) (t2 mb2 qM : Nat) (m : Array Value) (ad : Addr) (c : Nat) : Prop where
 S : S17 w0 W t mb K L
 U : TreeB W t2 mb2 K
 M : Ag W qM m.toList
 hb : ad.block < W.heap.size
 c0 : W.cell? (ad.add 0) = some (.int .u64 0)
 c3 : W.cell? (ad.add 3) = some (.int .u64 (c : Nat))
 n1 : t2 ≠ mb
 n2 : mb2 ≠ mb
 n3 : qM ≠ mb
theorem E17.gr {w0 W W' : World} {t mb : Nat} {K : BL} {L : List (Nat × BB)} {t2 mb2 qM : Nat} {m : Array Value} {ad : Addr} {c : Nat} (h : E17 w0 W t mb K L t2 mb2 qM m ad c) (g : Grew W W') : E17 w0 W' t mb K L t2 mb2 qM m ad c :=
 ⟨h.S.gr g, h.U.gr g, h.M.grew g, Nat.lt_of_lt_of_le h.hb g.size, cellA_gr h.c0 (by rw [addr_block]; exact h.hb) g, cellA_gr h.c3 (by rw [addr_block]; exact h.hb) g, h.n1, h.n2, h.n3⟩
theorem S17.notcells {w0 W : World} {t mb : Nat} {K : BL} {L : List (Nat × BB)} (h : S17 w0 W t mb K L) {o : Nat} {v : Value} {ad : Addr} (hc : W.cell? (ad.add o) = some v) : ad.block ≠ mb := by
 obtain ⟨L2, h1, _⟩ := h.T
 intro e
 obtain ⟨es, ck, hb', _⟩ := h1.own
 rw [← e, ← addr_block ad o] at hb'
 simp [World.cell?, hb'] at hc
theorem E17.kp {w0 W W' : World} {t mb : Nat} {K : BL} {L : List (Nat × BB)} {t2 mb2 qM : Nat} {m : Array Value} {ad : Addr} {c : Nat} (h : E17 w0 W t mb K L t2 mb2 qM m ad c) (k : Kp (fun i => i = mb) W W') (T' : TreeB W' t mb K) : E17 w0 W' t mb K L t2 mb2 qM m ad c := by
 have hn := h.S.notcells h.c0
 have hk : ∀ o, W'.cell? (ad.add o) = W.cell? (ad.add o) := fun o => World.cell?_of_block (k.block _ (by rw [addr_block]; exact h.hb) (by rw [addr_block]; exact hn))
 exact ⟨h.S.kp k T', h.U.kp k h.n1 h.n2, h.M.kp k h.n3, Nat.lt_of_lt_of_le h.hb k.size, by rw [hk]; exact h.c0, by rw [hk]; exact h.c3, h.n1, h.n2, h.n3⟩
theorem wp_region_keep {P : Program} {id : Nat} {Q : Exit → Act → World → Prop} {a : Act} {w : World} {l : List Oper} (n : Nat) (T : World → Prop) (J : Nat → Value → World → Prop)
 (hm : P.follows .mixedOrders = true) (hB : relB l.toArray n = true) (hT0 : T w.drew) (hJ : ∀ i v a b, J i v a → J i v b)
 (hop : RelOps2 P l.toArray (fun _ _ b => T b) (fun _ => T) J (fun vs => actOf (l.take n) 0 vs a) 0 (l.take n))
 (hend : ∀ (vs : Nat → Value) (w1 : World), T w1 → (∀ i, i < n → J i (vs i) w1) → wpList P l.toArray Q (l.drop n) (actOf (l.take n) 0 vs a) w1) :
 (Code.region id l.toArray true).wp P Q a w :=
 wp_region_rel2 n (fun _ _ b => T b) (fun _ => T) T J hm hB (fun _ => hT0) hT0 (fun _ _ _ _ _ _ _ h => h) (fun _ _ _ _ h => h) (fun i k v a b _ _ hj _ => hJ i v a b hj) hop hend
set_option maxRecDepth 100000 in
set_option maxHeartbeats 8000000 in
theorem known17_ok (w : World) (hS : Std w) : Calls Tryd.prog 6 #[] w fun e w' => e = .returned (.bool true) ∧ Grew w w' := by
 obtain ⟨a, b, c, d, e, x, y, H⟩ := d17
 have hub := Tryd.underlying33
 have HS := Lib.hid hS
 have SIA : Hid ((Tryd.prog.info? 33).map (·.size) = some (bbB 1 0 0 5).z.C.toList.length) := Lib.hid nb_info
 have SZA : Hid ((Tryd.prog.info? 33).map (·.size) = some (bbB 1 0 0 5).z.C.size) := Lib.hid nb_info
 have HOA := Lib.hid (bbB 1 0 0 5).z.one
 have CDA := Lib.hid (fun W hW => bdig17 (n := bbB 1 0 0 5) (bbB_ok (by simp [in64]) (by decide) (by simp [in64]) (by simp [in64])) H.ha W hW)
 have SIB : Hid ((Tryd.prog.info? 33).map (·.size) = some (bbB 2 a 5 9).z.C.toList.length) := Lib.hid nb_info
 have SZB : Hid ((Tryd.prog.info? 33).map (·.size) = some (bbB 2 a 5 9).z.C.size) := Lib.hid nb_info
 have HOB := Lib.hid (bbB 2 a 5 9).z.one
 have CDB := Lib.hid (fun W hW => bdig17 (n := bbB 2 a 5 9) (bbB_ok (by simp [in64]) H.la (by simp [in64]) (by simp [in64])) H.hb W hW)
 have SIC : Hid ((Tryd.prog.info? 33).map (·.size) = some (bbB 3 b 9 12).z.C.toList.length) := Lib.hid nb_info
 have SZC : Hid ((Tryd.prog.info? 33).map (·.size) = some (bbB 3 b 9 12).z.C.size) := Lib.hid nb_info
 have HOC := Lib.hid (bbB 3 b 9 12).z.one
 have CDC := Lib.hid (fun W hW => bdig17 (n := bbB 3 b 9 12) (bbB_ok (by simp [in64]) H.lb (by simp [in64]) (by simp [in64])) H.hc W hW)
 have SID : Hid ((Tryd.prog.info? 33).map (·.size) = some (bbB 3 a 5 7).z.C.toList.length) := Lib.hid nb_info
 have SZD : Hid ((Tryd.prog.info? 33).map (·.size) = some (bbB 3 a 5 7).z.C.size) := Lib.hid nb_info
 have HOD := Lib.hid (bbB 3 a 5 7).z.one
 have CDD := Lib.hid (fun W hW => bdig17 (n := bbB 3 a 5 7) (bbB_ok (by simp [in64]) H.la (by simp [in64]) (by simp [in64])) H.hd W hW)
 have SIE : Hid ((Tryd.prog.info? 33).map (·.size) = some (bbB 5 c 12 13).z.C.toList.length) := Lib.hid nb_info
 have SZE : Hid ((Tryd.prog.info? 33).map (·.size) = some (bbB 5 c 12 13).z.C.size) := Lib.hid nb_info
 have HOE := Lib.hid (bbB 5 c 12 13).z.one
 have CDE := Lib.hid (fun W hW => bdig17 (n := bbB 5 c 12 13) (bbB_ok (by simp [in64]) H.lc (by simp [in64]) (by simp [in64])) H.he W hW)
 clear hS
 go_enter Tryd.func6, Tryd.ntmps6
 go_wp2_with fail
 refine (newB w).mono ?_
 rintro ev w1 ⟨t, mb, rfl, T1, htw, hmw, G1⟩
 have S0 : Hid (S17 w w1 t mb ((K17 a b c d e).take 1) []) := Lib.hid ⟨T1, G1, hmw, by simp⟩
 clear T1 htw hmw G1
 go_wp2_with fail
 refine (lawB_ok 1 0 0 5 _).mono ?_
 rintro ev w2 ⟨rfl, g9⟩
 have S1 := Lib.hid (S0.out.gr g9)
 clear g9 S0
 obtain ⟨va, hv9, ht9, hs9, _⟩ := S1.out.put (bbB 1 0 0 5)
 have S2 := Lib.hid hs9
 have HVa := Lib.hid hv9
 have HTpa := Lib.hid ht9
 clear hv9 ht9 hs9 S1
 obtain ⟨qA, hqa⟩ : ∃ q, w2.heap.size = q := ⟨_, rfl⟩
 rw [hqa] at S2
 have HQa := Lib.hid hqa
 clear hqa
 have HRa : Hid (va.rangeAt qA 0 (bbB 1 0 0 5).z.C.toList) := Lib.hid (S2.out.cell (by simp))
 go_wp2_with (first
  | (with_reducible refine wpList_store_mid rfl 33 (.tmp 2) (.tmp 20) rfl w2.heap.size 0 (bbB 1 0 0 5).z.C rfl rfl HTpa.out SZA.out HOA.out ?_; rw [HVa.out, HQa.out])
  | (with_reducible refine wpList_load_mid rfl 33 (.tmp 2) rfl qA 0 rfl (bbB 1 0 0 5).z.C.toList _ HRa.out hub rfl SIA.out ?_; simp only [Array.toArray_toList]))
 clear HVa HTpa
 refine (CDA.out _ (S2.out.std HS.out)).mono ?_
 rintro ev w3 ⟨rfl, g9⟩
 have S3 := Lib.hid (S2.out.gr g9)
 clear g9 S2
 go_wp2_with fail
 refine (lawB_ok 2 a 5 9 _).mono ?_
 rintro ev w4 ⟨rfl, g9⟩
 have S4 := Lib.hid (S3.out.gr g9)
 clear g9 S3
 obtain ⟨vb, hv9, ht9, hs9, _⟩ := S4.out.put (bbB 2 a 5 9)
 have S5 := Lib.hid hs9
 have HVb := Lib.hid hv9
 have HTpb := Lib.hid ht9
 clear hv9 ht9 hs9 S4
 obtain ⟨qB, hqb⟩ : ∃ q, w4.heap.size = q := ⟨_, rfl⟩
 rw [hqb] at S5
 have HQb := Lib.hid hqb
 clear hqb
 have HRb : Hid (vb.rangeAt qB 0 (bbB 2 a 5 9).z.C.toList) := Lib.hid (S5.out.cell (by simp))
 go_wp2_with (first
  | (with_reducible refine wpList_store_mid rfl 33 (.tmp 3) (.tmp 23) rfl w4.heap.size 0 (bbB 2 a 5 9).z.C rfl rfl HTpb.out SZB.out HOB.out ?_; rw [HVb.out, HQb.out])
  | (with_reducible refine wpList_load_mid rfl 33 (.tmp 3) rfl qB 0 rfl (bbB 2 a 5 9).z.C.toList _ HRb.out hub rfl SIB.out ?_; simp only [Array.toArray_toList]))
 clear HVb HTpb
 refine (CDB.out _ (S5.out.std HS.out)).mono ?_
 rintro ev w5 ⟨rfl, g9⟩
 have S6 := Lib.hid (S5.out.gr g9)
 clear g9 S5
 go_wp2_with fail
 refine (lawB_ok 3 b 9 12 _).mono ?_
 rintro ev w6 ⟨rfl, g9⟩
 have S7 := Lib.hid (S6.out.gr g9)
 clear g9 S6
 obtain ⟨vc, hv9, ht9, hs9, _⟩ := S7.out.put (bbB 3 b 9 12)
 have S8 := Lib.hid hs9
 have HVc := Lib.hid hv9
 have HTpc := Lib.hid ht9
 clear hv9 ht9 hs9 S7
 obtain ⟨qC, hqc⟩ : ∃ q, w6.heap.size = q := ⟨_, rfl⟩
 rw [hqc] at S8
 have HQc := Lib.hid hqc
 clear hqc
 have HRa : Hid (vc.rangeAt qA 0 (bbB 1 0 0 5).z.C.toList) := Lib.hid (S8.out.cell (by simp))
 go_wp2_with (first
  | (with_reducible refine wpList_store_mid rfl 33 (.tmp 4) (.tmp 26) rfl w6.heap.size 0 (bbB 3 b 9 12).z.C rfl rfl HTpc.out SZC.out HOC.out ?_; rw [HVc.out, HQc.out])
  | (with_reducible refine wpList_load_mid rfl 33 (.tmp 2) rfl qA 0 rfl (bbB 1 0 0 5).z.C.toList _ HRa.out hub rfl SIA.out ?_; simp only [Array.toArray_toList]))
 clear HVc HTpc
 refine (CDA.out _ (S8.out.std HS.out)).mono ?_
 rintro ev w7 ⟨rfl, g9⟩
 have S9 := Lib.hid (S8.out.gr g9)
 clear g9 S8
 go_wp2_with fail
 refine (lawB_ok 3 a 5 7 _).mono ?_
 rintro ev w8 ⟨rfl, g9⟩
 have S10 := Lib.hid (S9.out.gr g9)
 clear g9 S9
 obtain ⟨vd, hv9, ht9, hs9, _⟩ := S10.out.put (bbB 3 a 5 7)
 have S11 := Lib.hid hs9
 have HVd := Lib.hid hv9
 have HTpd := Lib.hid ht9
 clear hv9 ht9 hs9 S10
 obtain ⟨qD, hqd⟩ : ∃ q, w8.heap.size = q := ⟨_, rfl⟩
 rw [hqd] at S11
 have HQd := Lib.hid hqd
 clear hqd
 have HRc : Hid (vd.rangeAt qC 0 (bbB 3 b 9 12).z.C.toList) := Lib.hid (S11.out.cell (by simp))
 go_wp2_with (first
  | (with_reducible refine wpList_store_mid rfl 33 (.tmp 5) (.tmp 29) rfl w8.heap.size 0 (bbB 3 a 5 7).z.C rfl rfl HTpd.out SZD.out HOD.out ?_; rw [HVd.out, HQd.out])
  | (with_reducible refine wpList_load_mid rfl 33 (.tmp 4) rfl qC 0 rfl (bbB 3 b 9 12).z.C.toList _ HRc.out hub rfl SIC.out ?_; simp only [Array.toArray_toList]))
 clear HVd HTpd
 refine (CDC.out _ (S11.out.std HS.out)).mono ?_
 rintro ev w9 ⟨rfl, g9⟩
 have S12 := Lib.hid (S11.out.gr g9)
 clear g9 S11
 go_wp2_with fail
 refine (lawB_ok 5 c 12 13 _).mono ?_
 rintro ev w10 ⟨rfl, g9⟩
 have S13 := Lib.hid (S12.out.gr g9)
 clear g9 S12
 obtain ⟨ve, hv9, ht9, hs9, _⟩ := S13.out.put (bbB 5 c 12 13)
 have S14 := Lib.hid hs9
 have HVe := Lib.hid hv9
 have HTpe := Lib.hid ht9
 clear hv9 ht9 hs9 S13
 obtain ⟨qE, hqe⟩ : ∃ q, w10.heap.size = q := ⟨_, rfl⟩
 rw [hqe] at S14
 have HQe := Lib.hid hqe
 clear hqe
 have HRb : Hid (ve.rangeAt qB 0 (bbB 2 a 5 9).z.C.toList) := Lib.hid (S14.out.cell (by simp))
 go_wp2_with (first
  | (with_reducible refine wpList_store_mid rfl 33 (.tmp 6) (.tmp 32) rfl w10.heap.size 0 (bbB 5 c 12 13).z.C rfl rfl HTpe.out SZE.out HOE.out ?_; rw [HVe.out, HQe.out])
  | (with_reducible refine wpList_load_mid rfl 33 (.tmp 3) rfl qB 0 rfl (bbB 2 a 5 9).z.C.toList _ HRb.out hub rfl SIB.out ?_; simp only [Array.toArray_toList]))
 clear HVe HTpe HRa HRb HRc HQa HQb HQc HQd HQe
 refine (add17_0 H _ (S14.out.std HS.out) S14.out.T).mono ?_
 rintro ev wS ⟨rfl, T9, k9⟩
 have SS : Hid (S17 w wS t mb ((K17 a b c d e).take 1) [(qE, bbB 5 c 12 13), (qD, bbB 3 a 5 7), (qC, bbB 3 b 9 12), (qB, bbB 2 a 5 9), (qA, bbB 1 0 0 5)]) := Lib.hid (S14.out.kp k9 T9)
 clear T9 k9 S14
 go_upto_region 10 with fail
 have HBA : Hid (∀ y9, Kp (fun i => i = mb) wS y9 → y9.rangeAt qA 0 (bbB 1 0 0 5).z.C.toList) := Lib.hid (fun y9 k => (((SS.out.A (qA, bbB 1 0 0 5) (by simp)).1).kp k (SS.out.A (qA, bbB 1 0 0 5) (by simp)).2).cell)
 have HBB : Hid (∀ y9, Kp (fun i => i = mb) wS y9 → y9.rangeAt qB 0 (bbB 2 a 5 9).z.C.toList) := Lib.hid (fun y9 k => (((SS.out.A (qB, bbB 2 a 5 9) (by simp)).1).kp k (SS.out.A (qB, bbB 2 a 5 9) (by simp)).2).cell)
 have HBC : Hid (∀ y9, Kp (fun i => i = mb) wS y9 → y9.rangeAt qC 0 (bbB 3 b 9 12).z.C.toList) := Lib.hid (fun y9 k => (((SS.out.A (qC, bbB 3 b 9 12) (by simp)).1).kp k (SS.out.A (qC, bbB 3 b 9 12) (by simp)).2).cell)
 have HBD : Hid (∀ y9, Kp (fun i => i = mb) wS y9 → y9.rangeAt qD 0 (bbB 3 a 5 7).z.C.toList) := Lib.hid (fun y9 k => (((SS.out.A (qD, bbB 3 a 5 7) (by simp)).1).kp k (SS.out.A (qD, bbB 3 a 5 7) (by simp)).2).cell)
 have HBE : Hid (∀ y9, Kp (fun i => i = mb) wS y9 → y9.rangeAt qE 0 (bbB 5 c 12 13).z.C.toList) := Lib.hid (fun y9 k => (((SS.out.A (qE, bbB 5 c 12 13) (by simp)).1).kp k (SS.out.A (qE, bbB 5 c 12 13) (by simp)).2).cell)
 have HSK : Hid (∀ y9, Kp (fun i => i = mb) wS y9 → Std y9) := Lib.hid (fun y9 k => HS.out.grew (below_kp SS.out.G k SS.out.G.size (fun i e9 => by have e9' : i = mb := e9; have := SS.out.hm; omega)))
 have HT0 : Hid (TreeB wS.drew t mb ((K17 a b c d e).take 1)) := Lib.hid (SS.out.T.gr (grew_drewN (grew_refl wS) 1))
 refine wp_region_chainL 19 [2, 5, 9, 13, 17] (fun i => i = mb) (fun j a9 => j ≤ 5 ∧ TreeB a9 t mb ((K17 a b c d e).take (j + 1))) (fun ix9 => match ix9 with
  | 0 => fun v _ => v = .pointer (some ⟨t, 0, none⟩)
  | 1 => fun v _ => v = .agg (bbB 1 0 0 5).z.C
  | 2 => fun v _ => v = .int .i64 0
  | 3 => fun v _ => v = .pointer (some ⟨t, 0, none⟩)
  | 4 => fun v _ => v = .agg (bbB 2 a 5 9).z.C
  | 5 => fun v _ => v = .int .i64 0
  | 6 => fun v _ => v = .int .i64 0
  | 7 => fun v _ => v = .pointer (some ⟨t, 0, none⟩)
  | 8 => fun v _ => v = .agg (bbB 3 b 9 12).z.C
  | 9 => fun v _ => v = .int .i64 0
  | 10 => fun v _ => v = .int .i64 0
  | 11 => fun v _ => v = .pointer (some ⟨t, 0, none⟩)
  | 12 => fun v _ => v = .agg (bbB 3 a 5 7).z.C
  | 13 => fun v _ => v = .int .i64 0
  | 14 => fun v _ => v = .int .i64 0
  | 15 => fun v _ => v = .pointer (some ⟨t, 0, none⟩)
  | 16 => fun v _ => v = .agg (bbB 5 c 12 13).z.C
  | 17 => fun v _ => v = .int .i64 0
  | 18 => fun v _ => v = .int .i64 0
  | _ => fun _ _ => True) (by kernel_rfl) (by kernel_rfl) (by kernel_rfl) ⟨17, by decide, by decide⟩ (⟨by decide, HT0.out⟩) (fun j a9 b9 h g => ⟨h.1, h.2.gr g⟩) (fun i j a9 h1 h2 => by have h3 := h1.2.size_eq h2.2; have h4 := h1.1; have h5 := h2.1; rw [List.length_take, List.length_take] at h3; simp only [K17, List.length_cons, List.length_nil] at h3; omega) ?_ ?_ ?_
 ·intro i v x y h hg
  match i, h with
  | 0, h | 1, h | 2, h | 3, h | 4, h | 5, h | 6, h | 7, h | 8, h | 9, h | 10, h | 11, h | 12, h | 13, h | 14, h | 15, h | 16, h | 17, h | 18, h => exact h
  | m + 19, _ => trivial
 ·refine ⟨?_, ?_, ?_, ?_, ?_, ?_, ?_, ?_, ?_, ?_, ?_, ?_, ?_, ?_, ?_, ?_, ?_, ?_, ?_, trivial⟩
  ·intro vs y hg hd
   refine chain0 rfl ?_
   replace hg : Kp (fun i => i = mb) wS y := hg
   simp only [actOf, tk1, tk0, dr1, dr0, Act.put, si1, st1, st0, Nat.reduceAdd]
   go_wp2_with fail
   exact ⟨rfl, _, rfl, grew_refl _, rfl⟩
  ·intro vs y hg hd
   refine chain0 rfl ?_
   replace hg : Kp (fun i => i = mb) wS y := hg
   simp only [actOf, tk1, tk0, dr1, dr0, Act.put, si1, st1, st0, Nat.reduceAdd]
   have hm := HBA.out y hg
   go_wp2_with (with_reducible refine wpList_load_mid rfl 33 (.tmp 2) rfl qA 0 rfl (bbB 1 0 0 5).z.C.toList _ hm hub rfl SIA.out ?_; simp only [Array.toArray_toList])
   exact ⟨rfl, _, rfl, grew_refl _, rfl⟩
  ·intro vs y hg hd
   refine chain1 (j := 0) rfl ?_
   intro hst
   replace hst : (fun j a9 => j ≤ 5 ∧ TreeB a9 t mb ((K17 a b c d e).take (j + 1))) 0 y := hst
   replace hg : Kp (fun i => i = mb) wS y := hg
   obtain ⟨h0, h1, _⟩ := hd
   replace h0 := h0 rfl
   replace h1 := h1 rfl
   simp only [actOf, tk1, tk0, dr1, dr0, Act.put, si1, st1, st0, Nat.reduceAdd]
   rw [show vs 0 = _ from h0, show vs 1 = _ from h1]
   go_wp2_with (go_at_call 9; refine (add17_1 H y (HSK.out y hg) hst.2).mono ?_; rintro e9 z ⟨rfl, ht9, hk9⟩)
   have hst9 : (fun j a9 => j ≤ 5 ∧ TreeB a9 t mb ((K17 a b c d e).take (j + 1))) 1 z := ⟨by decide, ht9⟩
   exact ⟨rfl, _, rfl, ⟨hk9, hst9⟩, rfl⟩
  ·intro vs y hg hd
   refine chain0 rfl ?_
   replace hg : Kp (fun i => i = mb) wS y := hg
   simp only [actOf, tk1, tk0, dr1, dr0, Act.put, si1, st1, st0, Nat.reduceAdd]
   go_wp2_with fail
   exact ⟨rfl, _, rfl, grew_refl _, rfl⟩
  ·intro vs y hg hd
   refine chain0 rfl ?_
   replace hg : Kp (fun i => i = mb) wS y := hg
   simp only [actOf, tk1, tk0, dr1, dr0, Act.put, si1, st1, st0, Nat.reduceAdd]
   have hm := HBB.out y hg
   go_wp2_with (with_reducible refine wpList_load_mid rfl 33 (.tmp 3) rfl qB 0 rfl (bbB 2 a 5 9).z.C.toList _ hm hub rfl SIB.out ?_; simp only [Array.toArray_toList])
   exact ⟨rfl, _, rfl, grew_refl _, rfl⟩
  ·intro vs y hg hd
   refine chain1 (j := 1) rfl ?_
   intro hst
   replace hst : (fun j a9 => j ≤ 5 ∧ TreeB a9 t mb ((K17 a b c d e).take (j + 1))) 1 y := hst
   replace hg : Kp (fun i => i = mb) wS y := hg
   obtain ⟨h3, h4, _⟩ := hd
   replace h3 := h3 rfl
   replace h4 := h4 rfl
   simp only [actOf, tk1, tk0, dr1, dr0, Act.put, si1, st1, st0, Nat.reduceAdd]
   rw [show vs 3 = _ from h3, show vs 4 = _ from h4]
   go_wp2_with (go_at_call 9; refine (add17_2 H y (HSK.out y hg) hst.2).mono ?_; rintro e9 z ⟨rfl, ht9, hk9⟩)
   have hst9 : (fun j a9 => j ≤ 5 ∧ TreeB a9 t mb ((K17 a b c d e).take (j + 1))) 2 z := ⟨by decide, ht9⟩
   exact ⟨rfl, _, rfl, ⟨hk9, hst9⟩, rfl⟩
  ·intro vs y hg hd
   refine chain0 rfl ?_
   replace hg : Kp (fun i => i = mb) wS y := hg
   obtain ⟨h2, h5, _⟩ := hd
   replace h2 := h2 rfl
   replace h5 := h5 rfl
   simp only [actOf, tk1, tk0, dr1, dr0, Act.put, si1, st1, st0, Nat.reduceAdd]
   rw [show vs 2 = _ from h2, show vs 5 = _ from h5]
   go_wp2_with fail
   exact ⟨rfl, _, rfl, grew_refl _, rfl⟩
  ·intro vs y hg hd
   refine chain0 rfl ?_
   replace hg : Kp (fun i => i = mb) wS y := hg
   simp only [actOf, tk1, tk0, dr1, dr0, Act.put, si1, st1, st0, Nat.reduceAdd]
   go_wp2_with fail
   exact ⟨rfl, _, rfl, grew_refl _, rfl⟩
  ·intro vs y hg hd
   refine chain0 rfl ?_
   replace hg : Kp (fun i => i = mb) wS y := hg
   simp only [actOf, tk1, tk0, dr1, dr0, Act.put, si1, st1, st0, Nat.reduceAdd]
   have hm := HBC.out y hg
   go_wp2_with (with_reducible refine wpList_load_mid rfl 33 (.tmp 4) rfl qC 0 rfl (bbB 3 b 9 12).z.C.toList _ hm hub rfl SIC.out ?_; simp only [Array.toArray_toList])
   exact ⟨rfl, _, rfl, grew_refl _, rfl⟩
  ·intro vs y hg hd
   refine chain1 (j := 2) rfl ?_
   intro hst
   replace hst : (fun j a9 => j ≤ 5 ∧ TreeB a9 t mb ((K17 a b c d e).take (j + 1))) 2 y := hst
   replace hg : Kp (fun i => i = mb) wS y := hg
   obtain ⟨h7, h8, _⟩ := hd
   replace h7 := h7 rfl
   replace h8 := h8 rfl
   simp only [actOf, tk1, tk0, dr1, dr0, Act.put, si1, st1, st0, Nat.reduceAdd]
   rw [show vs 7 = _ from h7, show vs 8 = _ from h8]
   go_wp2_with (go_at_call 9; refine (add17_3 H y (HSK.out y hg) hst.2).mono ?_; rintro e9 z ⟨rfl, ht9, hk9⟩)
   have hst9 : (fun j a9 => j ≤ 5 ∧ TreeB a9 t mb ((K17 a b c d e).take (j + 1))) 3 z := ⟨by decide, ht9⟩
   exact ⟨rfl, _, rfl, ⟨hk9, hst9⟩, rfl⟩
  ·intro vs y hg hd
   refine chain0 rfl ?_
   replace hg : Kp (fun i => i = mb) wS y := hg
   obtain ⟨h6, h9, _⟩ := hd
   replace h6 := h6 rfl
   replace h9 := h9 rfl
   simp only [actOf, tk1, tk0, dr1, dr0, Act.put, si1, st1, st0, Nat.reduceAdd]
   rw [show vs 6 = _ from h6, show vs 9 = _ from h9]
   go_wp2_with fail
   exact ⟨rfl, _, rfl, grew_refl _, rfl⟩
  ·intro vs y hg hd
   refine chain0 rfl ?_
   replace hg : Kp (fun i => i = mb) wS y := hg
   simp only [actOf, tk1, tk0, dr1, dr0, Act.put, si1, st1, st0, Nat.reduceAdd]
   go_wp2_with fail
   exact ⟨rfl, _, rfl, grew_refl _, rfl⟩
  ·intro vs y hg hd
   refine chain0 rfl ?_
   replace hg : Kp (fun i => i = mb) wS y := hg
   simp only [actOf, tk1, tk0, dr1, dr0, Act.put, si1, st1, st0, Nat.reduceAdd]
   have hm := HBD.out y hg
   go_wp2_with (with_reducible refine wpList_load_mid rfl 33 (.tmp 5) rfl qD 0 rfl (bbB 3 a 5 7).z.C.toList _ hm hub rfl SID.out ?_; simp only [Array.toArray_toList])
   exact ⟨rfl, _, rfl, grew_refl _, rfl⟩
  ·intro vs y hg hd
   refine chain1 (j := 3) rfl ?_
   intro hst
   replace hst : (fun j a9 => j ≤ 5 ∧ TreeB a9 t mb ((K17 a b c d e).take (j + 1))) 3 y := hst
   replace hg : Kp (fun i => i = mb) wS y := hg
   obtain ⟨h11, h12, _⟩ := hd
   replace h11 := h11 rfl
   replace h12 := h12 rfl
   simp only [actOf, tk1, tk0, dr1, dr0, Act.put, si1, st1, st0, Nat.reduceAdd]
   rw [show vs 11 = _ from h11, show vs 12 = _ from h12]
   go_wp2_with (go_at_call 9; refine (add17_4 H y (HSK.out y hg) hst.2).mono ?_; rintro e9 z ⟨rfl, ht9, hk9⟩)
   have hst9 : (fun j a9 => j ≤ 5 ∧ TreeB a9 t mb ((K17 a b c d e).take (j + 1))) 4 z := ⟨by decide, ht9⟩
   exact ⟨rfl, _, rfl, ⟨hk9, hst9⟩, rfl⟩
  ·intro vs y hg hd
   refine chain0 rfl ?_
   replace hg : Kp (fun i => i = mb) wS y := hg
   obtain ⟨h10, h13, _⟩ := hd
   replace h10 := h10 rfl
   replace h13 := h13 rfl
   simp only [actOf, tk1, tk0, dr1, dr0, Act.put, si1, st1, st0, Nat.reduceAdd]
   rw [show vs 10 = _ from h10, show vs 13 = _ from h13]
   go_wp2_with fail
   exact ⟨rfl, _, rfl, grew_refl _, rfl⟩
  ·intro vs y hg hd
   refine chain0 rfl ?_
   replace hg : Kp (fun i => i = mb) wS y := hg
   simp only [actOf, tk1, tk0, dr1, dr0, Act.put, si1, st1, st0, Nat.reduceAdd]
   go_wp2_with fail
   exact ⟨rfl, _, rfl, grew_refl _, rfl⟩
  ·intro vs y hg hd
   refine chain0 rfl ?_
   replace hg : Kp (fun i => i = mb) wS y := hg
   simp only [actOf, tk1, tk0, dr1, dr0, Act.put, si1, st1, st0, Nat.reduceAdd]
   have hm := HBE.out y hg
   go_wp2_with (with_reducible refine wpList_load_mid rfl 33 (.tmp 6) rfl qE 0 rfl (bbB 5 c 12 13).z.C.toList _ hm hub rfl SIE.out ?_; simp only [Array.toArray_toList])
   exact ⟨rfl, _, rfl, grew_refl _, rfl⟩
  ·intro vs y hg hd
   refine chain1 (j := 4) rfl ?_
   intro hst
   replace hst : (fun j a9 => j ≤ 5 ∧ TreeB a9 t mb ((K17 a b c d e).take (j + 1))) 4 y := hst
   replace hg : Kp (fun i => i = mb) wS y := hg
   obtain ⟨h15, h16, _⟩ := hd
   replace h15 := h15 rfl
   replace h16 := h16 rfl
   simp only [actOf, tk1, tk0, dr1, dr0, Act.put, si1, st1, st0, Nat.reduceAdd]
   rw [show vs 15 = _ from h15, show vs 16 = _ from h16]
   go_wp2_with (go_at_call 9; refine (add17_5 H y (HSK.out y hg) hst.2).mono ?_; rintro e9 z ⟨rfl, ht9, hk9⟩)
   have hst9 : (fun j a9 => j ≤ 5 ∧ TreeB a9 t mb ((K17 a b c d e).take (j + 1))) 5 z := ⟨by decide, ht9⟩
   exact ⟨rfl, _, rfl, ⟨hk9, hst9⟩, rfl⟩
  ·intro vs y hg hd
   refine chain0 rfl ?_
   replace hg : Kp (fun i => i = mb) wS y := hg
   obtain ⟨h14, h17, _⟩ := hd
   replace h14 := h14 rfl
   replace h17 := h17 rfl
   simp only [actOf, tk1, tk0, dr1, dr0, Act.put, si1, st1, st0, Nat.reduceAdd]
   rw [show vs 14 = _ from h14, show vs 17 = _ from h17]
   go_wp2_with fail
   exact ⟨rfl, _, rfl, grew_refl _, rfl⟩
 ·intro vs wT hg hst hJ
  replace hg : Kp (fun i => i = mb) wS wT := hg
  replace hst : (fun j a9 => j ≤ 5 ∧ TreeB a9 t mb ((K17 a b c d e).take (j + 1))) 5 wT := hst
  have j0 : vs 0 = .pointer (some ⟨t, 0, none⟩) := hJ 0 (by decide)
  have j1 : vs 1 = .agg (bbB 1 0 0 5).z.C := hJ 1 (by decide)
  have j2 : vs 2 = .int .i64 0 := hJ 2 (by decide)
  have j3 : vs 3 = .pointer (some ⟨t, 0, none⟩) := hJ 3 (by decide)
  have j4 : vs 4 = .agg (bbB 2 a 5 9).z.C := hJ 4 (by decide)
  have j5 : vs 5 = .int .i64 0 := hJ 5 (by decide)
  have j6 : vs 6 = .int .i64 0 := hJ 6 (by decide)
  have j7 : vs 7 = .pointer (some ⟨t, 0, none⟩) := hJ 7 (by decide)
  have j8 : vs 8 = .agg (bbB 3 b 9 12).z.C := hJ 8 (by decide)
  have j9 : vs 9 = .int .i64 0 := hJ 9 (by decide)
  have j10 : vs 10 = .int .i64 0 := hJ 10 (by decide)
  have j11 : vs 11 = .pointer (some ⟨t, 0, none⟩) := hJ 11 (by decide)
  have j12 : vs 12 = .agg (bbB 3 a 5 7).z.C := hJ 12 (by decide)
  have j13 : vs 13 = .int .i64 0 := hJ 13 (by decide)
  have j14 : vs 14 = .int .i64 0 := hJ 14 (by decide)
  have j15 : vs 15 = .pointer (some ⟨t, 0, none⟩) := hJ 15 (by decide)
  have j16 : vs 16 = .agg (bbB 5 c 12 13).z.C := hJ 16 (by decide)
  have j17 : vs 17 = .int .i64 0 := hJ 17 (by decide)
  have j18 : vs 18 = .int .i64 0 := hJ 18 (by decide)
  clear hJ
  simp only [actOf, tk1, tk0, dr1, dr0, Act.put, si1, st1, st0, Nat.reduceAdd]
  rw [j18]
  have S0 : Hid (S17 w wT t mb (K17 a b c d e) [(qE, bbB 5 c 12 13), (qD, bbB 3 a 5 7), (qC, bbB 3 b 9 12), (qB, bbB 2 a 5 9), (qA, bbB 1 0 0 5)]) := Lib.hid (SS.out.kp hg hst.2)
  clear j0 j1 j2 j3 j4 j5 j6 j7 j8 j9 j10 j11 j12 j13 j14 j15 j16 j17 j18 hg hst HBA HBB HBC HBD HBE HSK HT0 SS
  have HR : Hid (wT.rangeAt qC 0 (bbB 3 b 9 12).z.C.toList) := Lib.hid (S0.out.cell (by simp))
  go_wp2_with (with_reducible refine wpList_load_mid rfl 33 (.tmp 4) rfl qC 0 rfl (bbB 3 b 9 12).z.C.toList _ HR.out hub rfl SIC.out ?_; simp only [Array.toArray_toList])
  clear HR
  refine (CDC.out _ (S0.out.std HS.out)).mono ?_
  rintro ev y0 ⟨rfl, g9⟩
  have S1 := Lib.hid (S0.out.gr g9)
  clear g9 S0
  go_wp2_with fail
  refine (com17_c H _ S1.out.T).mono ?_
  rintro ev y1 ⟨rfl, g9⟩
  have S2 := Lib.hid (S1.out.gr g9)
  clear g9 S1
  have HR : Hid (y1.rangeAt qE 0 (bbB 5 c 12 13).z.C.toList) := Lib.hid (S2.out.cell (by simp))
  go_wp2_with (with_reducible refine wpList_load_mid rfl 33 (.tmp 6) rfl qE 0 rfl (bbB 5 c 12 13).z.C.toList _ HR.out hub rfl SIE.out ?_; simp only [Array.toArray_toList])
  clear HR
  refine (CDE.out _ (S2.out.std HS.out)).mono ?_
  rintro ev y2 ⟨rfl, g9⟩
  have S3 := Lib.hid (S2.out.gr g9)
  clear g9 S2
  go_wp2_with fail
  refine (com17_e H _ S3.out.T).mono ?_
  rintro ev y3 ⟨rfl, g9⟩
  have S4 := Lib.hid (S3.out.gr g9)
  clear g9 S3
  have HR : Hid (y3.rangeAt qD 0 (bbB 3 a 5 7).z.C.toList) := Lib.hid (S4.out.cell (by simp))
  go_wp2_with (with_reducible refine wpList_load_mid rfl 33 (.tmp 5) rfl qD 0 rfl (bbB 3 a 5 7).z.C.toList _ HR.out hub rfl SID.out ?_; simp only [Array.toArray_toList])
  clear HR
  refine (CDD.out _ (S4.out.std HS.out)).mono ?_
  rintro ev y4 ⟨rfl, g9⟩
  have S5 := Lib.hid (S4.out.gr g9)
  clear g9 S4
  go_wp2_with fail
  refine (gt17_d H _ S5.out.T).mono ?_
  rintro ev y5 ⟨m, hm1, hm2, hm3, rfl, g9⟩
  have S6 := Lib.hid (S5.out.gr g9)
  clear g9 S5
  obtain ⟨vm, hvm, htm, gsm, zm⟩ := ltput_any y5 33 (#[.int .i64 0, .int .u64 0, .int .i64 0, .int .u64 0, .slice none 0 0, .int .i64 0, .int .i64 0, .slice none 0 0] : Array Value) m (by rw [hm1]; rfl)
  have HVm := Lib.hid hvm
  have HTm := Lib.hid htm
  have HM1 := Lib.hid hm1
  have SZm : Hid ((Tryd.prog.info? 33).map (·.size) = some m.size) := Lib.hid (by rw [hm1]; exact nb_info)
  have HOm := Lib.hid hm2
  have HM6 := Lib.hid hm3
  have ZM := Lib.hid zm
  obtain ⟨qM, hqm⟩ : ∃ q, y5.heap.size = q := ⟨_, rfl⟩
  rw [hqm] at ZM
  have HNM : Hid (qM ≠ mb) := Lib.hid (by have := S6.out.T.lt.2; omega)
  have HQm := Lib.hid hqm
  have S7 := Lib.hid (S6.out.gr gsm)
  clear hvm htm hm1 hm2 hm3 zm gsm hqm S6
  have HR : Hid (vm.rangeAt qC 0 (bbB 3 b 9 12).z.C.toList) := Lib.hid (S7.out.cell (by simp))
  go_wp2_with (first
   | (with_reducible refine wpList_store_mid rfl 33 (.tmp 13) (.tmp 74) rfl y5.heap.size 0 m rfl rfl HTm.out SZm.out HOm.out ?_; rw [HVm.out, HQm.out])
   | (with_reducible refine wpList_load_mid rfl 33 (.tmp 4) rfl qC 0 rfl (bbB 3 b 9 12).z.C.toList _ HR.out hub rfl SIC.out ?_; simp only [Array.toArray_toList]))
  clear HR HVm HTm HQm
  refine (CDC.out _ (S7.out.std HS.out)).mono ?_
  rintro ev y6 ⟨rfl, g9⟩
  have ZM := Lib.hid (ZM.out.grew g9)
  have S8 := Lib.hid (S7.out.gr g9)
  clear g9 S7
  go_wp2_with fail
  refine (pth17_c H _ S8.out.T).mono ?_
  rintro ev y7 ⟨ad, cp, rfl, hab, hc0, hc3, g9⟩
  have ZM := Lib.hid (ZM.out.grew g9)
  have S9 := Lib.hid (S8.out.gr g9)
  clear g9 S8
  have HC0 := Lib.hid (And.intro hab (And.intro hc0 hc3))
  clear hab hc0 hc3
  go_wp2_with fail
  refine (twinB _ S9.out.T).mono ?_
  rintro ev y8 ⟨t2, mb2, rfl, TU, ht2, hm2, g9⟩
  have hlt9 := S9.out.T.lt.2
  have E0 : Hid (E17 w y8 t mb (K17 a b c d e) [(qE, bbB 5 c 12 13), (qD, bbB 3 a 5 7), (qC, bbB 3 b 9 12), (qB, bbB 2 a 5 9), (qA, bbB 1 0 0 5)] t2 mb2 qM m ad c) := Lib.hid ⟨S9.out.gr g9, TU, ZM.out.grew g9, Nat.lt_of_lt_of_le HC0.out.1 g9.size, cellA_gr HC0.out.2.1 (by rw [addr_block]; exact HC0.out.1) g9, cellA_gr HC0.out.2.2 (by rw [addr_block]; exact HC0.out.1) g9, by omega, by omega, HNM.out⟩
  clear ht2 hm2 hlt9 g9 TU HC0 S9 ZM
  go_upto_region 18 with fail
  simp only [List.append_eq, List.cons_append, List.nil_append]
  refine wp_region_keep 96 (fun y9 => E17 w y9 t mb (K17 a b c d e) [(qE, bbB 5 c 12 13), (qD, bbB 3 a 5 7), (qC, bbB 3 b 9 12), (qB, bbB 2 a 5 9), (qA, bbB 1 0 0 5)] t2 mb2 qM m ad c) (fun ix9 => match ix9 with
   | 0 => fun v _ => v = .int .i64 11
   | 1 => fun v _ => v = .bool true
   | 2 => fun v _ => v = .bool true
   | 3 => fun v _ => v = .int .i64 0
   | 4 => fun v _ => v = .bool true
   | 5 => fun v _ => v = .bool true
   | 6 => fun v _ => v = .bool true
   | 7 => fun v _ => v = .bool true
   | 8 => fun v _ => v = .bool true
   | 9 => fun v _ => v = .bool true
   | 10 => fun v _ => v = .int .u64 (a : Nat)
   | 11 => fun v _ => v = .agg (bbB 1 0 0 5).z.C
   | 12 => fun v _ => v = .int .u64 (a : Nat)
   | 13 => fun v _ => v = .bool true
   | 14 => fun v _ => v = .bool true
   | 15 => fun v _ => v = .bool true
   | 16 => fun v _ => v = .bool false
   | 17 => fun v _ => v = .bool true
   | 18 => fun v _ => v = .bool true
   | 19 => fun v _ => v = .bool true
   | 20 => fun v _ => v = .bool true
   | 21 => fun v _ => v = .bool true
   | 22 => fun v _ => v = .bool true
   | 23 => fun v _ => v = .pointer (some ⟨qM, 6, none⟩)
   | 24 => fun v _ => v = .int .i64 7
   | 25 => fun v _ => v = .bool true
   | 26 => fun v _ => v = .bool true
   | 27 => fun v _ => v = .bool true
   | 28 => fun v _ => v = .slice (some ad) 4 cp
   | 29 => fun v _ => v = .pointer (some (ad.add 0))
   | 30 => fun v _ => v = .int .u64 0
   | 31 => fun v _ => v = .bool true
   | 32 => fun v _ => v = .bool true
   | 33 => fun v _ => v = .bool true
   | 34 => fun v _ => v = .slice (some ad) 4 cp
   | 35 => fun v _ => v = .pointer (some (ad.add 3))
   | 36 => fun v _ => v = .int .u64 (c : Nat)
   | 37 => fun v _ => v = .agg (bbB 3 b 9 12).z.C
   | 38 => fun v _ => v = .int .u64 (c : Nat)
   | 39 => fun v _ => v = .bool true
   | 40 => fun v _ => v = .bool true
   | 41 => fun v _ => v = .bool true
   | 42 => fun v _ => v = .pointer (some ⟨t, 0, none⟩)
   | 43 => fun v _ => v = .agg (bbB 3 b 9 12).z.C
   | 44 => fun v _ => v = .int .u64 (c : Nat)
   | 45 => fun v _ => v = .agg (bbB 1 0 0 5).z.C
   | 46 => fun v _ => v = .int .u64 (a : Nat)
   | 47 => fun v _ => v = .bool true
   | 48 => fun v _ => v = .bool true
   | 49 => fun v _ => v = .bool true
   | 50 => fun v _ => v = .pointer (some ⟨t, 0, none⟩)
   | 51 => fun v _ => v = .agg (bbB 3 a 5 7).z.C
   | 52 => fun v _ => v = .int .u64 (d : Nat)
   | 53 => fun v _ => v = .agg (bbB 2 a 5 9).z.C
   | 54 => fun v _ => v = .int .u64 (b : Nat)
   | 55 => fun v _ => v = .bool false
   | 56 => fun v _ => v = .bool true
   | 57 => fun v _ => v = .bool true
   | 58 => fun v _ => v = .bool true
   | 59 => fun v _ => v = .pointer (some ⟨t, 0, none⟩)
   | 60 => fun v _ => v = .agg (bbB 3 a 5 7).z.C
   | 61 => fun v _ => v = .int .u64 (d : Nat)
   | 62 => fun v _ => v = .bool true
   | 63 => fun v _ => v = .bool true
   | 64 => fun v _ => v = .bool true
   | 65 => fun v _ => v = .pointer (some ⟨t, 0, none⟩)
   | 66 => fun v _ => v = .int .i64 6
   | 67 => fun v _ => v = .bool true
   | 68 => fun v _ => v = .bool true
   | 69 => fun v _ => v = .bool true
   | 70 => fun v _ => v = .pointer (some ⟨t2, 0, none⟩)
   | 71 => fun v _ => v = .int .i64 6
   | 72 => fun v _ => v = .bool true
   | 73 => fun v _ => v = .bool true
   | 74 => fun v _ => v = .bool true
   | 75 => fun v _ => v = .pointer (some ⟨t, 0, none⟩)
   | 76 => fun v _ => v = .agg (bbB 1 0 0 5).z.C
   | 77 => fun v _ => v = .int .i64 5
   | 78 => fun v _ => v = .bool true
   | 79 => fun v _ => v = .bool true
   | 80 => fun v _ => v = .bool true
   | 81 => fun v _ => v = .pointer (some ⟨t, 0, none⟩)
   | 82 => fun v _ => v = .agg (bbB 1 0 0 5).z.C
   | 83 => fun v _ => v = .int .u64 (a : Nat)
   | 84 => fun v _ => v = .agg (bbB 1 a 5 6).z.C
   | 85 => fun v _ => v = .int .i64 12
   | 86 => fun v _ => v = .bool true
   | 87 => fun v _ => v = .bool true
   | 88 => fun v _ => v = .bool true
   | 89 => fun v _ => v = .pointer (some ⟨t, 0, none⟩)
   | 90 => fun v _ => v = .agg (bbB 1 0 0 5).z.C
   | 91 => fun v _ => v = .int .u64 (a : Nat)
   | 92 => fun v _ => v = .agg (bbB 9 a 6 7).z.C
   | 93 => fun v _ => v = .int .i64 10
   | 94 => fun v _ => v = .bool true
   | 95 => fun v _ => v = .bool true
   | _ => fun _ _ => True) (by kernel_rfl) (by kernel_rfl) (E0.out.gr (grew_drewN (grew_refl _) 1)) ?_ ?_ ?_
  ·intro i v x y h
   match i, h with
   | 0, h | 1, h | 2, h | 3, h | 4, h | 5, h | 6, h | 7, h | 8, h | 9, h | 10, h | 11, h | 12, h | 13, h | 14, h | 15, h | 16, h | 17, h | 18, h | 19, h | 20, h | 21, h | 22, h | 23, h | 24, h | 25, h | 26, h | 27, h | 28, h | 29, h | 30, h | 31, h | 32, h | 33, h | 34, h | 35, h | 36, h | 37, h | 38, h | 39, h | 40, h | 41, h | 42, h | 43, h | 44, h | 45, h | 46, h | 47, h | 48, h | 49, h | 50, h | 51, h | 52, h | 53, h | 54, h | 55, h | 56, h | 57, h | 58, h | 59, h | 60, h | 61, h | 62, h | 63, h | 64, h | 65, h | 66, h | 67, h | 68, h | 69, h | 70, h | 71, h | 72, h | 73, h | 74, h | 75, h | 76, h | 77, h | 78, h | 79, h | 80, h | 81, h | 82, h | 83, h | 84, h | 85, h | 86, h | 87, h | 88, h | 89, h | 90, h | 91, h | 92, h | 93, h | 94, h | 95, h => exact h
   | m + 96, _ => trivial
  ·simp only [actOf, tk1, tk0, dr1, dr0, Act.put, si1, st1, st0, Nat.reduceAdd]
   refine ⟨?_, ?_, ?_, ?_, ?_, ?_, ?_, ?_, ?_, ?_, ?_, ?_, ?_, ?_, ?_, ?_, ?_, ?_, ?_, ?_, ?_, ?_, ?_, ?_, ?_, ?_, ?_, ?_, ?_, ?_, ?_, ?_, ?_, ?_, ?_, ?_, ?_, ?_, ?_, ?_, ?_, ?_, ?_, ?_, ?_, ?_, ?_, ?_, ?_, ?_, ?_, ?_, ?_, ?_, ?_, ?_, ?_, ?_, ?_, ?_, ?_, ?_, ?_, ?_, ?_, ?_, ?_, ?_, ?_, ?_, ?_, ?_, ?_, ?_, ?_, ?_, ?_, ?_, ?_, ?_, ?_, ?_, ?_, ?_, ?_, ?_, ?_, ?_, ?_, ?_, ?_, ?_, ?_, ?_, ?_, ?_, trivial⟩
   ·intro vs y hT hd
    have HT : Hid ((fun y9 => E17 w y9 t mb (K17 a b c d e) [(qE, bbB 5 c 12 13), (qD, bbB 3 a 5 7), (qC, bbB 3 b 9 12), (qB, bbB 2 a 5 9), (qA, bbB 1 0 0 5)] t2 mb2 qM m ad c) y) := Lib.hid hT
    clear hT
    clear hd
    dsimp only
    go_wp2_with fail
    exact ⟨rfl, _, rfl, HT.out, rfl⟩
   ·intro vs y hT hd
    have HT : Hid ((fun y9 => E17 w y9 t mb (K17 a b c d e) [(qE, bbB 5 c 12 13), (qD, bbB 3 a 5 7), (qC, bbB 3 b 9 12), (qB, bbB 2 a 5 9), (qA, bbB 1 0 0 5)] t2 mb2 qM m ad c) y) := Lib.hid hT
    clear hT
    have hx : (Region.binds .any { on := 0, ground := .data } = true → vs 0 = .int .i64 11) ∧ True := hd
    have h0 : vs 0 = .int .i64 11 := hx.1 rfl
    clear hx
    clear hd
    dsimp only
    rw [show vs 0 = _ from h0]
    clear h0
    go_wp2_with fail
    exact ⟨rfl, _, rfl, HT.out, rfl⟩
   ·intro vs y hT hd
    have HT : Hid ((fun y9 => E17 w y9 t mb (K17 a b c d e) [(qE, bbB 5 c 12 13), (qD, bbB 3 a 5 7), (qC, bbB 3 b 9 12), (qB, bbB 2 a 5 9), (qA, bbB 1 0 0 5)] t2 mb2 qM m ad c) y) := Lib.hid hT
    clear hT
    have hx : (Region.binds .any { on := 1, ground := .data } = true → vs 1 = .bool true) ∧ True := hd
    have h1 : vs 1 = .bool true := hx.1 rfl
    clear hx
    clear hd
    dsimp only
    rw [show vs 1 = _ from h1]
    clear h1
    go_wp2_with fail
    exact ⟨rfl, _, rfl, HT.out, rfl⟩
   ·intro vs y hT hd
    have HT : Hid ((fun y9 => E17 w y9 t mb (K17 a b c d e) [(qE, bbB 5 c 12 13), (qD, bbB 3 a 5 7), (qC, bbB 3 b 9 12), (qB, bbB 2 a 5 9), (qA, bbB 1 0 0 5)] t2 mb2 qM m ad c) y) := Lib.hid hT
    clear hT
    have hx : (Region.binds .any { on := 2, ground := .guard } = true → vs 2 = .bool true) ∧ True := hd
    have h2 : vs 2 = .bool true := hx.1 rfl
    clear hx
    clear hd
    dsimp only
    rw [show vs 2 = _ from h2]
    clear h2
    go_wp2_with fail
    exact ⟨rfl, _, rfl, HT.out, rfl⟩
   ·intro vs y hT hd
    have HT : Hid ((fun y9 => E17 w y9 t mb (K17 a b c d e) [(qE, bbB 5 c 12 13), (qD, bbB 3 a 5 7), (qC, bbB 3 b 9 12), (qB, bbB 2 a 5 9), (qA, bbB 1 0 0 5)] t2 mb2 qM m ad c) y) := Lib.hid hT
    clear hT
    have hx : (Region.binds .any { on := 3, ground := .data } = true → vs 3 = .int .i64 0) ∧ (Region.binds .any { on := 2, ground := .guard } = true → vs 2 = .bool true) ∧ True := hd
    have h3 : vs 3 = .int .i64 0 := hx.1 rfl
    have h2 : vs 2 = .bool true := hx.2.1 rfl
    clear hx
    clear hd
    dsimp only
    rw [show vs 3 = _ from h3, show vs 2 = _ from h2]
    clear h3 h2
    go_wp2_with fail
    exact ⟨rfl, _, rfl, HT.out, rfl⟩
   ·intro vs y hT hd
    have HT : Hid ((fun y9 => E17 w y9 t mb (K17 a b c d e) [(qE, bbB 5 c 12 13), (qD, bbB 3 a 5 7), (qC, bbB 3 b 9 12), (qB, bbB 2 a 5 9), (qA, bbB 1 0 0 5)] t2 mb2 qM m ad c) y) := Lib.hid hT
    clear hT
    have hx : (Region.binds .any { on := 2, ground := .data } = true → vs 2 = .bool true) ∧ (Region.binds .any { on := 4, ground := .data } = true → vs 4 = .bool true) ∧ True := hd
    have h2 : vs 2 = .bool true := hx.1 rfl
    have h4 : vs 4 = .bool true := hx.2.1 rfl
    clear hx
    clear hd
    dsimp only
    rw [show vs 2 = _ from h2, show vs 4 = _ from h4]
    clear h2 h4
    go_wp2_with fail
    exact ⟨rfl, _, rfl, HT.out, rfl⟩
   ·intro vs y hT hd
    have HT : Hid ((fun y9 => E17 w y9 t mb (K17 a b c d e) [(qE, bbB 5 c 12 13), (qD, bbB 3 a 5 7), (qC, bbB 3 b 9 12), (qB, bbB 2 a 5 9), (qA, bbB 1 0 0 5)] t2 mb2 qM m ad c) y) := Lib.hid hT
    clear hT
    have hx : (Region.binds .any { on := 5, ground := .data } = true → vs 5 = .bool true) ∧ (Region.binds .any { on := 2, ground := .chain } = true → vs 2 = .bool true) ∧ True := hd
    have h5 : vs 5 = .bool true := hx.1 rfl
    clear hx
    clear hd
    dsimp only
    rw [show vs 5 = _ from h5]
    clear h5
    go_wp2_with fail
    exact ⟨rfl, _, rfl, HT.out, rfl⟩
   ·intro vs y hT hd
    have HT : Hid ((fun y9 => E17 w y9 t mb (K17 a b c d e) [(qE, bbB 5 c 12 13), (qD, bbB 3 a 5 7), (qC, bbB 3 b 9 12), (qB, bbB 2 a 5 9), (qA, bbB 1 0 0 5)] t2 mb2 qM m ad c) y) := Lib.hid hT
    clear hT
    have hx : (Region.binds .any { on := 6, ground := .guard } = true → vs 6 = .bool true) ∧ True := hd
    have h6 : vs 6 = .bool true := hx.1 rfl
    clear hx
    clear hd
    dsimp only
    rw [show vs 6 = _ from h6]
    clear h6
    go_wp2_with fail
    exact ⟨rfl, _, rfl, HT.out, rfl⟩
   ·intro vs y hT hd
    have HT : Hid ((fun y9 => E17 w y9 t mb (K17 a b c d e) [(qE, bbB 5 c 12 13), (qD, bbB 3 a 5 7), (qC, bbB 3 b 9 12), (qB, bbB 2 a 5 9), (qA, bbB 1 0 0 5)] t2 mb2 qM m ad c) y) := Lib.hid hT
    clear hT
    have hx : (Region.binds .any { on := 6, ground := .data } = true → vs 6 = .bool true) ∧ (Region.binds .any { on := 7, ground := .data } = true → vs 7 = .bool true) ∧ True := hd
    have h6 : vs 6 = .bool true := hx.1 rfl
    have h7 : vs 7 = .bool true := hx.2.1 rfl
    clear hx
    clear hd
    dsimp only
    rw [show vs 6 = _ from h6, show vs 7 = _ from h7]
    clear h6 h7
    go_wp2_with fail
    exact ⟨rfl, _, rfl, HT.out, rfl⟩
   ·intro vs y hT hd
    have HT : Hid ((fun y9 => E17 w y9 t mb (K17 a b c d e) [(qE, bbB 5 c 12 13), (qD, bbB 3 a 5 7), (qC, bbB 3 b 9 12), (qB, bbB 2 a 5 9), (qA, bbB 1 0 0 5)] t2 mb2 qM m ad c) y) := Lib.hid hT
    clear hT
    have hx : (Region.binds .any { on := 8, ground := .data } = true → vs 8 = .bool true) ∧ (Region.binds .any { on := 6, ground := .chain } = true → vs 6 = .bool true) ∧ True := hd
    have h8 : vs 8 = .bool true := hx.1 rfl
    clear hx
    clear hd
    dsimp only
    rw [show vs 8 = _ from h8]
    clear h8
    go_wp2_with fail
    exact ⟨rfl, _, rfl, HT.out, rfl⟩
   ·intro vs y hT hd
    have HT : Hid ((fun y9 => E17 w y9 t mb (K17 a b c d e) [(qE, bbB 5 c 12 13), (qD, bbB 3 a 5 7), (qC, bbB 3 b 9 12), (qB, bbB 2 a 5 9), (qA, bbB 1 0 0 5)] t2 mb2 qM m ad c) y) := Lib.hid hT
    clear hT
    have hx : (Region.binds .any { on := 9, ground := .guard } = true → vs 9 = .bool true) ∧ True := hd
    have h9 : vs 9 = .bool true := hx.1 rfl
    clear hx
    clear hd
    dsimp only
    rw [show vs 9 = _ from h9]
    clear h9
    go_wp2_with fail
    exact ⟨rfl, _, rfl, HT.out, rfl⟩
   ·intro vs y hT hd
    have HT : Hid ((fun y9 => E17 w y9 t mb (K17 a b c d e) [(qE, bbB 5 c 12 13), (qD, bbB 3 a 5 7), (qC, bbB 3 b 9 12), (qB, bbB 2 a 5 9), (qA, bbB 1 0 0 5)] t2 mb2 qM m ad c) y) := Lib.hid hT
    clear hT
    have hx : (Region.binds .any { on := 9, ground := .guard } = true → vs 9 = .bool true) ∧ True := hd
    have h9 : vs 9 = .bool true := hx.1 rfl
    clear hx
    clear hd
    dsimp only
    rw [show vs 9 = _ from h9]
    clear h9
    have HR : Hid (y.rangeAt qA 0 (bbB 1 0 0 5).z.C.toList) := Lib.hid (HT.out.S.cell (by simp))
    go_wp2_with (refine ltload_want (by rfl) 33 (.tmp 2) rfl qA 0 rfl (bbB 1 0 0 5).z.C.toList _ HR.out hub rfl SIA.out ?_; simp only [Array.toArray_toList])
    exact ⟨rfl, _, rfl, HT.out, rfl⟩
   ·intro vs y hT hd
    have HT : Hid ((fun y9 => E17 w y9 t mb (K17 a b c d e) [(qE, bbB 5 c 12 13), (qD, bbB 3 a 5 7), (qC, bbB 3 b 9 12), (qB, bbB 2 a 5 9), (qA, bbB 1 0 0 5)] t2 mb2 qM m ad c) y) := Lib.hid hT
    clear hT
    have hx : (Region.binds .any { on := 11, ground := .data } = true → vs 11 = .agg (bbB 1 0 0 5).z.C) ∧ (Region.binds .any { on := 9, ground := .chain } = true → vs 9 = .bool true) ∧ (Region.binds .any { on := 9, ground := .guard } = true → vs 9 = .bool true) ∧ True := hd
    have h11 : vs 11 = .agg (bbB 1 0 0 5).z.C := hx.1 rfl
    have h9 : vs 9 = .bool true := hx.2.2.1 rfl
    clear hx
    clear hd
    dsimp only
    rw [show vs 11 = _ from h11, show vs 9 = _ from h9]
    clear h11 h9
    go_wp2_with (go_at_call 10; refine (CDA.out y (HT.out.S.std HS.out)).mono ?_; rintro e9 z ⟨rfl, gz⟩)
    exact ⟨rfl, _, rfl, HT.out.gr gz, rfl⟩
   ·intro vs y hT hd
    have HT : Hid ((fun y9 => E17 w y9 t mb (K17 a b c d e) [(qE, bbB 5 c 12 13), (qD, bbB 3 a 5 7), (qC, bbB 3 b 9 12), (qB, bbB 2 a 5 9), (qA, bbB 1 0 0 5)] t2 mb2 qM m ad c) y) := Lib.hid hT
    clear hT
    have hx : (Region.binds .any { on := 10, ground := .data } = true → vs 10 = .int .u64 (a : Nat)) ∧ (Region.binds .any { on := 12, ground := .data } = true → vs 12 = .int .u64 (a : Nat)) ∧ (Region.binds .any { on := 9, ground := .guard } = true → vs 9 = .bool true) ∧ True := hd
    have h10 : vs 10 = .int .u64 (a : Nat) := hx.1 rfl
    have h12 : vs 12 = .int .u64 (a : Nat) := hx.2.1 rfl
    have h9 : vs 9 = .bool true := hx.2.2.1 rfl
    clear hx
    clear hd
    dsimp only
    rw [show vs 10 = _ from h10, show vs 12 = _ from h12, show vs 9 = _ from h9]
    clear h10 h12 h9
    go_wp2_with fail
    exact ⟨rfl, _, rfl, HT.out, rfl⟩
   ·intro vs y hT hd
    have HT : Hid ((fun y9 => E17 w y9 t mb (K17 a b c d e) [(qE, bbB 5 c 12 13), (qD, bbB 3 a 5 7), (qC, bbB 3 b 9 12), (qB, bbB 2 a 5 9), (qA, bbB 1 0 0 5)] t2 mb2 qM m ad c) y) := Lib.hid hT
    clear hT
    have hx : (Region.binds .any { on := 9, ground := .data } = true → vs 9 = .bool true) ∧ (Region.binds .any { on := 13, ground := .data } = true → vs 13 = .bool true) ∧ True := hd
    have h9 : vs 9 = .bool true := hx.1 rfl
    have h13 : vs 13 = .bool true := hx.2.1 rfl
    clear hx
    clear hd
    dsimp only
    rw [show vs 9 = _ from h9, show vs 13 = _ from h13]
    clear h9 h13
    go_wp2_with fail
    exact ⟨rfl, _, rfl, HT.out, rfl⟩
   ·intro vs y hT hd
    have HT : Hid ((fun y9 => E17 w y9 t mb (K17 a b c d e) [(qE, bbB 5 c 12 13), (qD, bbB 3 a 5 7), (qC, bbB 3 b 9 12), (qB, bbB 2 a 5 9), (qA, bbB 1 0 0 5)] t2 mb2 qM m ad c) y) := Lib.hid hT
    clear hT
    have hx : (Region.binds .any { on := 14, ground := .data } = true → vs 14 = .bool true) ∧ (Region.binds .any { on := 12, ground := .chain } = true → vs 12 = .int .u64 (a : Nat)) ∧ True := hd
    have h14 : vs 14 = .bool true := hx.1 rfl
    clear hx
    clear hd
    dsimp only
    rw [show vs 14 = _ from h14]
    clear h14
    go_wp2_with fail
    exact ⟨rfl, _, rfl, HT.out, rfl⟩
   ·intro vs y hT hd
    have HT : Hid ((fun y9 => E17 w y9 t mb (K17 a b c d e) [(qE, bbB 5 c 12 13), (qD, bbB 3 a 5 7), (qC, bbB 3 b 9 12), (qB, bbB 2 a 5 9), (qA, bbB 1 0 0 5)] t2 mb2 qM m ad c) y) := Lib.hid hT
    clear hT
    have hx : (Region.binds .any { on := 15, ground := .guard } = true → vs 15 = .bool true) ∧ True := hd
    have h15 : vs 15 = .bool true := hx.1 rfl
    clear hx
    clear hd
    dsimp only
    rw [show vs 15 = _ from h15]
    clear h15
    go_wp2_with fail
    exact ⟨rfl, _, rfl, HT.out, rfl⟩
   ·intro vs y hT hd
    have HT : Hid ((fun y9 => E17 w y9 t mb (K17 a b c d e) [(qE, bbB 5 c 12 13), (qD, bbB 3 a 5 7), (qC, bbB 3 b 9 12), (qB, bbB 2 a 5 9), (qA, bbB 1 0 0 5)] t2 mb2 qM m ad c) y) := Lib.hid hT
    clear hT
    have hx : (Region.binds .any { on := 16, ground := .data } = true → vs 16 = .bool false) ∧ (Region.binds .any { on := 15, ground := .guard } = true → vs 15 = .bool true) ∧ True := hd
    have h16 : vs 16 = .bool false := hx.1 rfl
    have h15 : vs 15 = .bool true := hx.2.1 rfl
    clear hx
    clear hd
    dsimp only
    rw [show vs 16 = _ from h16, show vs 15 = _ from h15]
    clear h16 h15
    go_wp2_with fail
    exact ⟨rfl, _, rfl, HT.out, rfl⟩
   ·intro vs y hT hd
    have HT : Hid ((fun y9 => E17 w y9 t mb (K17 a b c d e) [(qE, bbB 5 c 12 13), (qD, bbB 3 a 5 7), (qC, bbB 3 b 9 12), (qB, bbB 2 a 5 9), (qA, bbB 1 0 0 5)] t2 mb2 qM m ad c) y) := Lib.hid hT
    clear hT
    have hx : (Region.binds .any { on := 15, ground := .data } = true → vs 15 = .bool true) ∧ (Region.binds .any { on := 17, ground := .data } = true → vs 17 = .bool true) ∧ True := hd
    have h15 : vs 15 = .bool true := hx.1 rfl
    have h17 : vs 17 = .bool true := hx.2.1 rfl
    clear hx
    clear hd
    dsimp only
    rw [show vs 15 = _ from h15, show vs 17 = _ from h17]
    clear h15 h17
    go_wp2_with fail
    exact ⟨rfl, _, rfl, HT.out, rfl⟩
   ·intro vs y hT hd
    have HT : Hid ((fun y9 => E17 w y9 t mb (K17 a b c d e) [(qE, bbB 5 c 12 13), (qD, bbB 3 a 5 7), (qC, bbB 3 b 9 12), (qB, bbB 2 a 5 9), (qA, bbB 1 0 0 5)] t2 mb2 qM m ad c) y) := Lib.hid hT
    clear hT
    have hx : (Region.binds .any { on := 18, ground := .data } = true → vs 18 = .bool true) ∧ (Region.binds .any { on := 15, ground := .chain } = true → vs 15 = .bool true) ∧ True := hd
    have h18 : vs 18 = .bool true := hx.1 rfl
    clear hx
    clear hd
    dsimp only
    rw [show vs 18 = _ from h18]
    clear h18
    go_wp2_with fail
    exact ⟨rfl, _, rfl, HT.out, rfl⟩
   ·intro vs y hT hd
    have HT : Hid ((fun y9 => E17 w y9 t mb (K17 a b c d e) [(qE, bbB 5 c 12 13), (qD, bbB 3 a 5 7), (qC, bbB 3 b 9 12), (qB, bbB 2 a 5 9), (qA, bbB 1 0 0 5)] t2 mb2 qM m ad c) y) := Lib.hid hT
    clear hT
    have hx : (Region.binds .any { on := 19, ground := .guard } = true → vs 19 = .bool true) ∧ True := hd
    have h19 : vs 19 = .bool true := hx.1 rfl
    clear hx
    clear hd
    dsimp only
    rw [show vs 19 = _ from h19]
    clear h19
    go_wp2_with fail
    exact ⟨rfl, _, rfl, HT.out, rfl⟩
   ·intro vs y hT hd
    have HT : Hid ((fun y9 => E17 w y9 t mb (K17 a b c d e) [(qE, bbB 5 c 12 13), (qD, bbB 3 a 5 7), (qC, bbB 3 b 9 12), (qB, bbB 2 a 5 9), (qA, bbB 1 0 0 5)] t2 mb2 qM m ad c) y) := Lib.hid hT
    clear hT
    have hx : (Region.binds .any { on := 19, ground := .data } = true → vs 19 = .bool true) ∧ (Region.binds .any { on := 20, ground := .data } = true → vs 20 = .bool true) ∧ True := hd
    have h19 : vs 19 = .bool true := hx.1 rfl
    have h20 : vs 20 = .bool true := hx.2.1 rfl
    clear hx
    clear hd
    dsimp only
    rw [show vs 19 = _ from h19, show vs 20 = _ from h20]
    clear h19 h20
    go_wp2_with fail
    exact ⟨rfl, _, rfl, HT.out, rfl⟩
   ·intro vs y hT hd
    have HT : Hid ((fun y9 => E17 w y9 t mb (K17 a b c d e) [(qE, bbB 5 c 12 13), (qD, bbB 3 a 5 7), (qC, bbB 3 b 9 12), (qB, bbB 2 a 5 9), (qA, bbB 1 0 0 5)] t2 mb2 qM m ad c) y) := Lib.hid hT
    clear hT
    have hx : (Region.binds .any { on := 21, ground := .data } = true → vs 21 = .bool true) ∧ (Region.binds .any { on := 19, ground := .chain } = true → vs 19 = .bool true) ∧ True := hd
    have h21 : vs 21 = .bool true := hx.1 rfl
    clear hx
    clear hd
    dsimp only
    rw [show vs 21 = _ from h21]
    clear h21
    go_wp2_with fail
    exact ⟨rfl, _, rfl, HT.out, rfl⟩
   ·intro vs y hT hd
    have HT : Hid ((fun y9 => E17 w y9 t mb (K17 a b c d e) [(qE, bbB 5 c 12 13), (qD, bbB 3 a 5 7), (qC, bbB 3 b 9 12), (qB, bbB 2 a 5 9), (qA, bbB 1 0 0 5)] t2 mb2 qM m ad c) y) := Lib.hid hT
    clear hT
    have hx : (Region.binds .any { on := 22, ground := .guard } = true → vs 22 = .bool true) ∧ True := hd
    have h22 : vs 22 = .bool true := hx.1 rfl
    clear hx
    clear hd
    dsimp only
    rw [show vs 22 = _ from h22]
    clear h22
    go_wp2_with fail
    exact ⟨rfl, _, rfl, HT.out, rfl⟩
   ·intro vs y hT hd
    have HT : Hid ((fun y9 => E17 w y9 t mb (K17 a b c d e) [(qE, bbB 5 c 12 13), (qD, bbB 3 a 5 7), (qC, bbB 3 b 9 12), (qB, bbB 2 a 5 9), (qA, bbB 1 0 0 5)] t2 mb2 qM m ad c) y) := Lib.hid hT
    clear hT
    have hx : (Region.binds .any { on := 23, ground := .data } = true → vs 23 = .pointer (some ⟨qM, 6, none⟩)) ∧ (Region.binds .any { on := 22, ground := .guard } = true → vs 22 = .bool true) ∧ True := hd
    have h23 : vs 23 = .pointer (some ⟨qM, 6, none⟩) := hx.1 rfl
    have h22 : vs 22 = .bool true := hx.2.1 rfl
    clear hx
    clear hd
    dsimp only
    rw [show vs 23 = _ from h23, show vs 22 = _ from h22]
    clear h23 h22
    have hc : y.cell? ⟨qM, 6, none⟩ = some (.int .i64 7) := by have := HT.out.M.cell 6 _ HM6.out; simpa using this
    go_wp2_with fail
    exact ⟨rfl, _, rfl, HT.out, rfl⟩
   ·intro vs y hT hd
    have HT : Hid ((fun y9 => E17 w y9 t mb (K17 a b c d e) [(qE, bbB 5 c 12 13), (qD, bbB 3 a 5 7), (qC, bbB 3 b 9 12), (qB, bbB 2 a 5 9), (qA, bbB 1 0 0 5)] t2 mb2 qM m ad c) y) := Lib.hid hT
    clear hT
    have hx : (Region.binds .any { on := 24, ground := .data } = true → vs 24 = .int .i64 7) ∧ (Region.binds .any { on := 22, ground := .guard } = true → vs 22 = .bool true) ∧ True := hd
    have h24 : vs 24 = .int .i64 7 := hx.1 rfl
    have h22 : vs 22 = .bool true := hx.2.1 rfl
    clear hx
    clear hd
    dsimp only
    rw [show vs 24 = _ from h24, show vs 22 = _ from h22]
    clear h24 h22
    go_wp2_with fail
    exact ⟨rfl, _, rfl, HT.out, rfl⟩
   ·intro vs y hT hd
    have HT : Hid ((fun y9 => E17 w y9 t mb (K17 a b c d e) [(qE, bbB 5 c 12 13), (qD, bbB 3 a 5 7), (qC, bbB 3 b 9 12), (qB, bbB 2 a 5 9), (qA, bbB 1 0 0 5)] t2 mb2 qM m ad c) y) := Lib.hid hT
    clear hT
    have hx : (Region.binds .any { on := 22, ground := .data } = true → vs 22 = .bool true) ∧ (Region.binds .any { on := 25, ground := .data } = true → vs 25 = .bool true) ∧ True := hd
    have h22 : vs 22 = .bool true := hx.1 rfl
    have h25 : vs 25 = .bool true := hx.2.1 rfl
    clear hx
    clear hd
    dsimp only
    rw [show vs 22 = _ from h22, show vs 25 = _ from h25]
    clear h22 h25
    go_wp2_with fail
    exact ⟨rfl, _, rfl, HT.out, rfl⟩
   ·intro vs y hT hd
    have HT : Hid ((fun y9 => E17 w y9 t mb (K17 a b c d e) [(qE, bbB 5 c 12 13), (qD, bbB 3 a 5 7), (qC, bbB 3 b 9 12), (qB, bbB 2 a 5 9), (qA, bbB 1 0 0 5)] t2 mb2 qM m ad c) y) := Lib.hid hT
    clear hT
    have hx : (Region.binds .any { on := 26, ground := .data } = true → vs 26 = .bool true) ∧ (Region.binds .any { on := 22, ground := .chain } = true → vs 22 = .bool true) ∧ True := hd
    have h26 : vs 26 = .bool true := hx.1 rfl
    clear hx
    clear hd
    dsimp only
    rw [show vs 26 = _ from h26]
    clear h26
    go_wp2_with fail
    exact ⟨rfl, _, rfl, HT.out, rfl⟩
   ·intro vs y hT hd
    have HT : Hid ((fun y9 => E17 w y9 t mb (K17 a b c d e) [(qE, bbB 5 c 12 13), (qD, bbB 3 a 5 7), (qC, bbB 3 b 9 12), (qB, bbB 2 a 5 9), (qA, bbB 1 0 0 5)] t2 mb2 qM m ad c) y) := Lib.hid hT
    clear hT
    have hx : (Region.binds .any { on := 27, ground := .guard } = true → vs 27 = .bool true) ∧ True := hd
    have h27 : vs 27 = .bool true := hx.1 rfl
    clear hx
    clear hd
    dsimp only
    rw [show vs 27 = _ from h27]
    clear h27
    go_wp2_with fail
    exact ⟨rfl, _, rfl, HT.out, rfl⟩
   ·intro vs y hT hd
    have HT : Hid ((fun y9 => E17 w y9 t mb (K17 a b c d e) [(qE, bbB 5 c 12 13), (qD, bbB 3 a 5 7), (qC, bbB 3 b 9 12), (qB, bbB 2 a 5 9), (qA, bbB 1 0 0 5)] t2 mb2 qM m ad c) y) := Lib.hid hT
    clear hT
    have hx : (Region.binds .any { on := 28, ground := .data } = true → vs 28 = .slice (some ad) 4 cp) ∧ (Region.binds .any { on := 27, ground := .guard } = true → vs 27 = .bool true) ∧ True := hd
    have h28 : vs 28 = .slice (some ad) 4 cp := hx.1 rfl
    have h27 : vs 27 = .bool true := hx.2.1 rfl
    clear hx
    clear hd
    dsimp only
    rw [show vs 28 = _ from h28, show vs 27 = _ from h27]
    clear h28 h27
    go_wp2_with fail
    exact ⟨rfl, _, rfl, HT.out, rfl⟩
   ·intro vs y hT hd
    have HT : Hid ((fun y9 => E17 w y9 t mb (K17 a b c d e) [(qE, bbB 5 c 12 13), (qD, bbB 3 a 5 7), (qC, bbB 3 b 9 12), (qB, bbB 2 a 5 9), (qA, bbB 1 0 0 5)] t2 mb2 qM m ad c) y) := Lib.hid hT
    clear hT
    have hx : (Region.binds .any { on := 29, ground := .data } = true → vs 29 = .pointer (some (ad.add 0))) ∧ (Region.binds .any { on := 27, ground := .guard } = true → vs 27 = .bool true) ∧ True := hd
    have h29 : vs 29 = .pointer (some (ad.add 0)) := hx.1 rfl
    have h27 : vs 27 = .bool true := hx.2.1 rfl
    clear hx
    clear hd
    dsimp only
    rw [show vs 29 = _ from h29, show vs 27 = _ from h27]
    clear h29 h27
    have hc := HT.out.c0
    rw [show ad.add 0 = ad from rfl] at hc
    go_wp2_with fail
    exact ⟨rfl, _, rfl, HT.out, rfl⟩
   ·intro vs y hT hd
    have HT : Hid ((fun y9 => E17 w y9 t mb (K17 a b c d e) [(qE, bbB 5 c 12 13), (qD, bbB 3 a 5 7), (qC, bbB 3 b 9 12), (qB, bbB 2 a 5 9), (qA, bbB 1 0 0 5)] t2 mb2 qM m ad c) y) := Lib.hid hT
    clear hT
    have hx : (Region.binds .any { on := 30, ground := .data } = true → vs 30 = .int .u64 0) ∧ (Region.binds .any { on := 27, ground := .guard } = true → vs 27 = .bool true) ∧ True := hd
    have h30 : vs 30 = .int .u64 0 := hx.1 rfl
    have h27 : vs 27 = .bool true := hx.2.1 rfl
    clear hx
    clear hd
    dsimp only
    rw [show vs 30 = _ from h30, show vs 27 = _ from h27]
    clear h30 h27
    go_wp2_with fail
    exact ⟨rfl, _, rfl, HT.out, rfl⟩
   ·intro vs y hT hd
    have HT : Hid ((fun y9 => E17 w y9 t mb (K17 a b c d e) [(qE, bbB 5 c 12 13), (qD, bbB 3 a 5 7), (qC, bbB 3 b 9 12), (qB, bbB 2 a 5 9), (qA, bbB 1 0 0 5)] t2 mb2 qM m ad c) y) := Lib.hid hT
    clear hT
    have hx : (Region.binds .any { on := 27, ground := .data } = true → vs 27 = .bool true) ∧ (Region.binds .any { on := 31, ground := .data } = true → vs 31 = .bool true) ∧ True := hd
    have h27 : vs 27 = .bool true := hx.1 rfl
    have h31 : vs 31 = .bool true := hx.2.1 rfl
    clear hx
    clear hd
    dsimp only
    rw [show vs 27 = _ from h27, show vs 31 = _ from h31]
    clear h27 h31
    go_wp2_with fail
    exact ⟨rfl, _, rfl, HT.out, rfl⟩
   ·intro vs y hT hd
    have HT : Hid ((fun y9 => E17 w y9 t mb (K17 a b c d e) [(qE, bbB 5 c 12 13), (qD, bbB 3 a 5 7), (qC, bbB 3 b 9 12), (qB, bbB 2 a 5 9), (qA, bbB 1 0 0 5)] t2 mb2 qM m ad c) y) := Lib.hid hT
    clear hT
    have hx : (Region.binds .any { on := 32, ground := .data } = true → vs 32 = .bool true) ∧ (Region.binds .any { on := 27, ground := .chain } = true → vs 27 = .bool true) ∧ True := hd
    have h32 : vs 32 = .bool true := hx.1 rfl
    clear hx
    clear hd
    dsimp only
    rw [show vs 32 = _ from h32]
    clear h32
    go_wp2_with fail
    exact ⟨rfl, _, rfl, HT.out, rfl⟩
   ·intro vs y hT hd
    have HT : Hid ((fun y9 => E17 w y9 t mb (K17 a b c d e) [(qE, bbB 5 c 12 13), (qD, bbB 3 a 5 7), (qC, bbB 3 b 9 12), (qB, bbB 2 a 5 9), (qA, bbB 1 0 0 5)] t2 mb2 qM m ad c) y) := Lib.hid hT
    clear hT
    have hx : (Region.binds .any { on := 33, ground := .guard } = true → vs 33 = .bool true) ∧ True := hd
    have h33 : vs 33 = .bool true := hx.1 rfl
    clear hx
    clear hd
    dsimp only
    rw [show vs 33 = _ from h33]
    clear h33
    go_wp2_with fail
    exact ⟨rfl, _, rfl, HT.out, rfl⟩
   ·intro vs y hT hd
    have HT : Hid ((fun y9 => E17 w y9 t mb (K17 a b c d e) [(qE, bbB 5 c 12 13), (qD, bbB 3 a 5 7), (qC, bbB 3 b 9 12), (qB, bbB 2 a 5 9), (qA, bbB 1 0 0 5)] t2 mb2 qM m ad c) y) := Lib.hid hT
    clear hT
    have hx : (Region.binds .any { on := 34, ground := .data } = true → vs 34 = .slice (some ad) 4 cp) ∧ (Region.binds .any { on := 33, ground := .guard } = true → vs 33 = .bool true) ∧ True := hd
    have h34 : vs 34 = .slice (some ad) 4 cp := hx.1 rfl
    have h33 : vs 33 = .bool true := hx.2.1 rfl
    clear hx
    clear hd
    dsimp only
    rw [show vs 34 = _ from h34, show vs 33 = _ from h33]
    clear h34 h33
    go_wp2_with fail
    exact ⟨rfl, _, rfl, HT.out, rfl⟩
   ·intro vs y hT hd
    have HT : Hid ((fun y9 => E17 w y9 t mb (K17 a b c d e) [(qE, bbB 5 c 12 13), (qD, bbB 3 a 5 7), (qC, bbB 3 b 9 12), (qB, bbB 2 a 5 9), (qA, bbB 1 0 0 5)] t2 mb2 qM m ad c) y) := Lib.hid hT
    clear hT
    have hx : (Region.binds .any { on := 35, ground := .data } = true → vs 35 = .pointer (some (ad.add 3))) ∧ (Region.binds .any { on := 33, ground := .guard } = true → vs 33 = .bool true) ∧ True := hd
    have h35 : vs 35 = .pointer (some (ad.add 3)) := hx.1 rfl
    have h33 : vs 33 = .bool true := hx.2.1 rfl
    clear hx
    clear hd
    dsimp only
    rw [show vs 35 = _ from h35, show vs 33 = _ from h33]
    clear h35 h33
    have hc := HT.out.c3
    rw [show ad.add 3 = ⟨ad.block, ad.off + 3, none⟩ from rfl] at hc
    go_wp2_with fail
    exact ⟨rfl, _, rfl, HT.out, rfl⟩
   ·intro vs y hT hd
    have HT : Hid ((fun y9 => E17 w y9 t mb (K17 a b c d e) [(qE, bbB 5 c 12 13), (qD, bbB 3 a 5 7), (qC, bbB 3 b 9 12), (qB, bbB 2 a 5 9), (qA, bbB 1 0 0 5)] t2 mb2 qM m ad c) y) := Lib.hid hT
    clear hT
    have hx : (Region.binds .any { on := 33, ground := .guard } = true → vs 33 = .bool true) ∧ True := hd
    have h33 : vs 33 = .bool true := hx.1 rfl
    clear hx
    clear hd
    dsimp only
    rw [show vs 33 = _ from h33]
    clear h33
    have HR : Hid (y.rangeAt qC 0 (bbB 3 b 9 12).z.C.toList) := Lib.hid (HT.out.S.cell (by simp))
    go_wp2_with (refine ltload_want (by rfl) 33 (.tmp 4) rfl qC 0 rfl (bbB 3 b 9 12).z.C.toList _ HR.out hub rfl SIC.out ?_; simp only [Array.toArray_toList])
    exact ⟨rfl, _, rfl, HT.out, rfl⟩
   ·intro vs y hT hd
    have HT : Hid ((fun y9 => E17 w y9 t mb (K17 a b c d e) [(qE, bbB 5 c 12 13), (qD, bbB 3 a 5 7), (qC, bbB 3 b 9 12), (qB, bbB 2 a 5 9), (qA, bbB 1 0 0 5)] t2 mb2 qM m ad c) y) := Lib.hid hT
    clear hT
    have hx : (Region.binds .any { on := 37, ground := .data } = true → vs 37 = .agg (bbB 3 b 9 12).z.C) ∧ (Region.binds .any { on := 33, ground := .chain } = true → vs 33 = .bool true) ∧ (Region.binds .any { on := 33, ground := .guard } = true → vs 33 = .bool true) ∧ True := hd
    have h37 : vs 37 = .agg (bbB 3 b 9 12).z.C := hx.1 rfl
    have h33 : vs 33 = .bool true := hx.2.2.1 rfl
    clear hx
    clear hd
    dsimp only
    rw [show vs 37 = _ from h37, show vs 33 = _ from h33]
    clear h37 h33
    go_wp2_with (go_at_call 10; refine (CDC.out y (HT.out.S.std HS.out)).mono ?_; rintro e9 z ⟨rfl, gz⟩)
    exact ⟨rfl, _, rfl, HT.out.gr gz, rfl⟩
   ·intro vs y hT hd
    have HT : Hid ((fun y9 => E17 w y9 t mb (K17 a b c d e) [(qE, bbB 5 c 12 13), (qD, bbB 3 a 5 7), (qC, bbB 3 b 9 12), (qB, bbB 2 a 5 9), (qA, bbB 1 0 0 5)] t2 mb2 qM m ad c) y) := Lib.hid hT
    clear hT
    have hx : (Region.binds .any { on := 36, ground := .data } = true → vs 36 = .int .u64 (c : Nat)) ∧ (Region.binds .any { on := 38, ground := .data } = true → vs 38 = .int .u64 (c : Nat)) ∧ (Region.binds .any { on := 33, ground := .guard } = true → vs 33 = .bool true) ∧ True := hd
    have h36 : vs 36 = .int .u64 (c : Nat) := hx.1 rfl
    have h38 : vs 38 = .int .u64 (c : Nat) := hx.2.1 rfl
    have h33 : vs 33 = .bool true := hx.2.2.1 rfl
    clear hx
    clear hd
    dsimp only
    rw [show vs 36 = _ from h36, show vs 38 = _ from h38, show vs 33 = _ from h33]
    clear h36 h38 h33
    go_wp2_with fail
    exact ⟨rfl, _, rfl, HT.out, rfl⟩
   ·intro vs y hT hd
    have HT : Hid ((fun y9 => E17 w y9 t mb (K17 a b c d e) [(qE, bbB 5 c 12 13), (qD, bbB 3 a 5 7), (qC, bbB 3 b 9 12), (qB, bbB 2 a 5 9), (qA, bbB 1 0 0 5)] t2 mb2 qM m ad c) y) := Lib.hid hT
    clear hT
    have hx : (Region.binds .any { on := 33, ground := .data } = true → vs 33 = .bool true) ∧ (Region.binds .any { on := 39, ground := .data } = true → vs 39 = .bool true) ∧ True := hd
    have h33 : vs 33 = .bool true := hx.1 rfl
    have h39 : vs 39 = .bool true := hx.2.1 rfl
    clear hx
    clear hd
    dsimp only
    rw [show vs 33 = _ from h33, show vs 39 = _ from h39]
    clear h33 h39
    go_wp2_with fail
    exact ⟨rfl, _, rfl, HT.out, rfl⟩
   ·intro vs y hT hd
    have HT : Hid ((fun y9 => E17 w y9 t mb (K17 a b c d e) [(qE, bbB 5 c 12 13), (qD, bbB 3 a 5 7), (qC, bbB 3 b 9 12), (qB, bbB 2 a 5 9), (qA, bbB 1 0 0 5)] t2 mb2 qM m ad c) y) := Lib.hid hT
    clear hT
    have hx : (Region.binds .any { on := 40, ground := .data } = true → vs 40 = .bool true) ∧ (Region.binds .any { on := 38, ground := .chain } = true → vs 38 = .int .u64 (c : Nat)) ∧ True := hd
    have h40 : vs 40 = .bool true := hx.1 rfl
    clear hx
    clear hd
    dsimp only
    rw [show vs 40 = _ from h40]
    clear h40
    go_wp2_with fail
    exact ⟨rfl, _, rfl, HT.out, rfl⟩
   ·intro vs y hT hd
    have HT : Hid ((fun y9 => E17 w y9 t mb (K17 a b c d e) [(qE, bbB 5 c 12 13), (qD, bbB 3 a 5 7), (qC, bbB 3 b 9 12), (qB, bbB 2 a 5 9), (qA, bbB 1 0 0 5)] t2 mb2 qM m ad c) y) := Lib.hid hT
    clear hT
    have hx : (Region.binds .any { on := 41, ground := .guard } = true → vs 41 = .bool true) ∧ True := hd
    have h41 : vs 41 = .bool true := hx.1 rfl
    clear hx
    clear hd
    dsimp only
    rw [show vs 41 = _ from h41]
    clear h41
    go_wp2_with fail
    exact ⟨rfl, _, rfl, HT.out, rfl⟩
   ·intro vs y hT hd
    have HT : Hid ((fun y9 => E17 w y9 t mb (K17 a b c d e) [(qE, bbB 5 c 12 13), (qD, bbB 3 a 5 7), (qC, bbB 3 b 9 12), (qB, bbB 2 a 5 9), (qA, bbB 1 0 0 5)] t2 mb2 qM m ad c) y) := Lib.hid hT
    clear hT
    have hx : (Region.binds .any { on := 41, ground := .guard } = true → vs 41 = .bool true) ∧ True := hd
    have h41 : vs 41 = .bool true := hx.1 rfl
    clear hx
    clear hd
    dsimp only
    rw [show vs 41 = _ from h41]
    clear h41
    have HR : Hid (y.rangeAt qC 0 (bbB 3 b 9 12).z.C.toList) := Lib.hid (HT.out.S.cell (by simp))
    go_wp2_with (refine ltload_want (by rfl) 33 (.tmp 4) rfl qC 0 rfl (bbB 3 b 9 12).z.C.toList _ HR.out hub rfl SIC.out ?_; simp only [Array.toArray_toList])
    exact ⟨rfl, _, rfl, HT.out, rfl⟩
   ·intro vs y hT hd
    have HT : Hid ((fun y9 => E17 w y9 t mb (K17 a b c d e) [(qE, bbB 5 c 12 13), (qD, bbB 3 a 5 7), (qC, bbB 3 b 9 12), (qB, bbB 2 a 5 9), (qA, bbB 1 0 0 5)] t2 mb2 qM m ad c) y) := Lib.hid hT
    clear hT
    have hx : (Region.binds .any { on := 43, ground := .data } = true → vs 43 = .agg (bbB 3 b 9 12).z.C) ∧ (Region.binds .any { on := 41, ground := .chain } = true → vs 41 = .bool true) ∧ (Region.binds .any { on := 41, ground := .guard } = true → vs 41 = .bool true) ∧ True := hd
    have h43 : vs 43 = .agg (bbB 3 b 9 12).z.C := hx.1 rfl
    have h41 : vs 41 = .bool true := hx.2.2.1 rfl
    clear hx
    clear hd
    dsimp only
    rw [show vs 43 = _ from h43, show vs 41 = _ from h41]
    clear h43 h41
    go_wp2_with (go_at_call 10; refine (CDC.out y (HT.out.S.std HS.out)).mono ?_; rintro e9 z ⟨rfl, gz⟩)
    exact ⟨rfl, _, rfl, HT.out.gr gz, rfl⟩
   ·intro vs y hT hd
    have HT : Hid ((fun y9 => E17 w y9 t mb (K17 a b c d e) [(qE, bbB 5 c 12 13), (qD, bbB 3 a 5 7), (qC, bbB 3 b 9 12), (qB, bbB 2 a 5 9), (qA, bbB 1 0 0 5)] t2 mb2 qM m ad c) y) := Lib.hid hT
    clear hT
    have hx : (Region.binds .any { on := 41, ground := .guard } = true → vs 41 = .bool true) ∧ True := hd
    have h41 : vs 41 = .bool true := hx.1 rfl
    clear hx
    clear hd
    dsimp only
    rw [show vs 41 = _ from h41]
    clear h41
    have HR : Hid (y.rangeAt qA 0 (bbB 1 0 0 5).z.C.toList) := Lib.hid (HT.out.S.cell (by simp))
    go_wp2_with (refine ltload_want (by rfl) 33 (.tmp 2) rfl qA 0 rfl (bbB 1 0 0 5).z.C.toList _ HR.out hub rfl SIA.out ?_; simp only [Array.toArray_toList])
    exact ⟨rfl, _, rfl, HT.out, rfl⟩
   ·intro vs y hT hd
    have HT : Hid ((fun y9 => E17 w y9 t mb (K17 a b c d e) [(qE, bbB 5 c 12 13), (qD, bbB 3 a 5 7), (qC, bbB 3 b 9 12), (qB, bbB 2 a 5 9), (qA, bbB 1 0 0 5)] t2 mb2 qM m ad c) y) := Lib.hid hT
    clear hT
    have hx : (Region.binds .any { on := 45, ground := .data } = true → vs 45 = .agg (bbB 1 0 0 5).z.C) ∧ (Region.binds .any { on := 44, ground := .chain } = true → vs 44 = .int .u64 (c : Nat)) ∧ (Region.binds .any { on := 41, ground := .guard } = true → vs 41 = .bool true) ∧ True := hd
    have h45 : vs 45 = .agg (bbB 1 0 0 5).z.C := hx.1 rfl
    have h41 : vs 41 = .bool true := hx.2.2.1 rfl
    clear hx
    clear hd
    dsimp only
    rw [show vs 45 = _ from h45, show vs 41 = _ from h41]
    clear h45 h41
    go_wp2_with (go_at_call 10; refine (CDA.out y (HT.out.S.std HS.out)).mono ?_; rintro e9 z ⟨rfl, gz⟩)
    exact ⟨rfl, _, rfl, HT.out.gr gz, rfl⟩
   ·intro vs y hT hd
    have HT : Hid ((fun y9 => E17 w y9 t mb (K17 a b c d e) [(qE, bbB 5 c 12 13), (qD, bbB 3 a 5 7), (qC, bbB 3 b 9 12), (qB, bbB 2 a 5 9), (qA, bbB 1 0 0 5)] t2 mb2 qM m ad c) y) := Lib.hid hT
    clear hT
    have hx : (Region.binds .any { on := 42, ground := .data } = true → vs 42 = .pointer (some ⟨t, 0, none⟩)) ∧ (Region.binds .any { on := 44, ground := .data } = true → vs 44 = .int .u64 (c : Nat)) ∧ (Region.binds .any { on := 46, ground := .data } = true → vs 46 = .int .u64 (a : Nat)) ∧ (Region.binds .any { on := 46, ground := .chain } = true → vs 46 = .int .u64 (a : Nat)) ∧ (Region.binds .any { on := 41, ground := .guard } = true → vs 41 = .bool true) ∧ True := hd
    have h42 : vs 42 = .pointer (some ⟨t, 0, none⟩) := hx.1 rfl
    have h44 : vs 44 = .int .u64 (c : Nat) := hx.2.1 rfl
    have h46 : vs 46 = .int .u64 (a : Nat) := hx.2.2.1 rfl
    have h41 : vs 41 = .bool true := hx.2.2.2.2.1 rfl
    clear hx
    clear hd
    dsimp only
    rw [show vs 42 = _ from h42, show vs 44 = _ from h44, show vs 46 = _ from h46, show vs 41 = _ from h41]
    clear h42 h44 h46 h41
    go_wp2_with (go_at_call 11; refine (ext17_1 H y HT.out.S.T).mono ?_; rintro e9 z ⟨rfl, gz⟩)
    exact ⟨rfl, _, rfl, HT.out.gr gz, rfl⟩
   ·intro vs y hT hd
    have HT : Hid ((fun y9 => E17 w y9 t mb (K17 a b c d e) [(qE, bbB 5 c 12 13), (qD, bbB 3 a 5 7), (qC, bbB 3 b 9 12), (qB, bbB 2 a 5 9), (qA, bbB 1 0 0 5)] t2 mb2 qM m ad c) y) := Lib.hid hT
    clear hT
    have hx : (Region.binds .any { on := 41, ground := .data } = true → vs 41 = .bool true) ∧ (Region.binds .any { on := 47, ground := .data } = true → vs 47 = .bool true) ∧ True := hd
    have h41 : vs 41 = .bool true := hx.1 rfl
    have h47 : vs 47 = .bool true := hx.2.1 rfl
    clear hx
    clear hd
    dsimp only
    rw [show vs 41 = _ from h41, show vs 47 = _ from h47]
    clear h41 h47
    go_wp2_with fail
    exact ⟨rfl, _, rfl, HT.out, rfl⟩
   ·intro vs y hT hd
    have HT : Hid ((fun y9 => E17 w y9 t mb (K17 a b c d e) [(qE, bbB 5 c 12 13), (qD, bbB 3 a 5 7), (qC, bbB 3 b 9 12), (qB, bbB 2 a 5 9), (qA, bbB 1 0 0 5)] t2 mb2 qM m ad c) y) := Lib.hid hT
    clear hT
    have hx : (Region.binds .any { on := 48, ground := .data } = true → vs 48 = .bool true) ∧ (Region.binds .any { on := 47, ground := .chain } = true → vs 47 = .bool true) ∧ True := hd
    have h48 : vs 48 = .bool true := hx.1 rfl
    clear hx
    clear hd
    dsimp only
    rw [show vs 48 = _ from h48]
    clear h48
    go_wp2_with fail
    exact ⟨rfl, _, rfl, HT.out, rfl⟩
   ·intro vs y hT hd
    have HT : Hid ((fun y9 => E17 w y9 t mb (K17 a b c d e) [(qE, bbB 5 c 12 13), (qD, bbB 3 a 5 7), (qC, bbB 3 b 9 12), (qB, bbB 2 a 5 9), (qA, bbB 1 0 0 5)] t2 mb2 qM m ad c) y) := Lib.hid hT
    clear hT
    have hx : (Region.binds .any { on := 49, ground := .guard } = true → vs 49 = .bool true) ∧ True := hd
    have h49 : vs 49 = .bool true := hx.1 rfl
    clear hx
    clear hd
    dsimp only
    rw [show vs 49 = _ from h49]
    clear h49
    go_wp2_with fail
    exact ⟨rfl, _, rfl, HT.out, rfl⟩
   ·intro vs y hT hd
    have HT : Hid ((fun y9 => E17 w y9 t mb (K17 a b c d e) [(qE, bbB 5 c 12 13), (qD, bbB 3 a 5 7), (qC, bbB 3 b 9 12), (qB, bbB 2 a 5 9), (qA, bbB 1 0 0 5)] t2 mb2 qM m ad c) y) := Lib.hid hT
    clear hT
    have hx : (Region.binds .any { on := 49, ground := .guard } = true → vs 49 = .bool true) ∧ True := hd
    have h49 : vs 49 = .bool true := hx.1 rfl
    clear hx
    clear hd
    dsimp only
    rw [show vs 49 = _ from h49]
    clear h49
    have HR : Hid (y.rangeAt qD 0 (bbB 3 a 5 7).z.C.toList) := Lib.hid (HT.out.S.cell (by simp))
    go_wp2_with (refine ltload_want (by rfl) 33 (.tmp 5) rfl qD 0 rfl (bbB 3 a 5 7).z.C.toList _ HR.out hub rfl SID.out ?_; simp only [Array.toArray_toList])
    exact ⟨rfl, _, rfl, HT.out, rfl⟩
   ·intro vs y hT hd
    have HT : Hid ((fun y9 => E17 w y9 t mb (K17 a b c d e) [(qE, bbB 5 c 12 13), (qD, bbB 3 a 5 7), (qC, bbB 3 b 9 12), (qB, bbB 2 a 5 9), (qA, bbB 1 0 0 5)] t2 mb2 qM m ad c) y) := Lib.hid hT
    clear hT
    have hx : (Region.binds .any { on := 51, ground := .data } = true → vs 51 = .agg (bbB 3 a 5 7).z.C) ∧ (Region.binds .any { on := 49, ground := .chain } = true → vs 49 = .bool true) ∧ (Region.binds .any { on := 49, ground := .guard } = true → vs 49 = .bool true) ∧ True := hd
    have h51 : vs 51 = .agg (bbB 3 a 5 7).z.C := hx.1 rfl
    have h49 : vs 49 = .bool true := hx.2.2.1 rfl
    clear hx
    clear hd
    dsimp only
    rw [show vs 51 = _ from h51, show vs 49 = _ from h49]
    clear h51 h49
    go_wp2_with (go_at_call 10; refine (CDD.out y (HT.out.S.std HS.out)).mono ?_; rintro e9 z ⟨rfl, gz⟩)
    exact ⟨rfl, _, rfl, HT.out.gr gz, rfl⟩
   ·intro vs y hT hd
    have HT : Hid ((fun y9 => E17 w y9 t mb (K17 a b c d e) [(qE, bbB 5 c 12 13), (qD, bbB 3 a 5 7), (qC, bbB 3 b 9 12), (qB, bbB 2 a 5 9), (qA, bbB 1 0 0 5)] t2 mb2 qM m ad c) y) := Lib.hid hT
    clear hT
    have hx : (Region.binds .any { on := 49, ground := .guard } = true → vs 49 = .bool true) ∧ True := hd
    have h49 : vs 49 = .bool true := hx.1 rfl
    clear hx
    clear hd
    dsimp only
    rw [show vs 49 = _ from h49]
    clear h49
    have HR : Hid (y.rangeAt qB 0 (bbB 2 a 5 9).z.C.toList) := Lib.hid (HT.out.S.cell (by simp))
    go_wp2_with (refine ltload_want (by rfl) 33 (.tmp 3) rfl qB 0 rfl (bbB 2 a 5 9).z.C.toList _ HR.out hub rfl SIB.out ?_; simp only [Array.toArray_toList])
    exact ⟨rfl, _, rfl, HT.out, rfl⟩
   ·intro vs y hT hd
    have HT : Hid ((fun y9 => E17 w y9 t mb (K17 a b c d e) [(qE, bbB 5 c 12 13), (qD, bbB 3 a 5 7), (qC, bbB 3 b 9 12), (qB, bbB 2 a 5 9), (qA, bbB 1 0 0 5)] t2 mb2 qM m ad c) y) := Lib.hid hT
    clear hT
    have hx : (Region.binds .any { on := 53, ground := .data } = true → vs 53 = .agg (bbB 2 a 5 9).z.C) ∧ (Region.binds .any { on := 52, ground := .chain } = true → vs 52 = .int .u64 (d : Nat)) ∧ (Region.binds .any { on := 49, ground := .guard } = true → vs 49 = .bool true) ∧ True := hd
    have h53 : vs 53 = .agg (bbB 2 a 5 9).z.C := hx.1 rfl
    have h49 : vs 49 = .bool true := hx.2.2.1 rfl
    clear hx
    clear hd
    dsimp only
    rw [show vs 53 = _ from h53, show vs 49 = _ from h49]
    clear h53 h49
    go_wp2_with (go_at_call 10; refine (CDB.out y (HT.out.S.std HS.out)).mono ?_; rintro e9 z ⟨rfl, gz⟩)
    exact ⟨rfl, _, rfl, HT.out.gr gz, rfl⟩
   ·intro vs y hT hd
    have HT : Hid ((fun y9 => E17 w y9 t mb (K17 a b c d e) [(qE, bbB 5 c 12 13), (qD, bbB 3 a 5 7), (qC, bbB 3 b 9 12), (qB, bbB 2 a 5 9), (qA, bbB 1 0 0 5)] t2 mb2 qM m ad c) y) := Lib.hid hT
    clear hT
    have hx : (Region.binds .any { on := 50, ground := .data } = true → vs 50 = .pointer (some ⟨t, 0, none⟩)) ∧ (Region.binds .any { on := 52, ground := .data } = true → vs 52 = .int .u64 (d : Nat)) ∧ (Region.binds .any { on := 54, ground := .data } = true → vs 54 = .int .u64 (b : Nat)) ∧ (Region.binds .any { on := 54, ground := .chain } = true → vs 54 = .int .u64 (b : Nat)) ∧ (Region.binds .any { on := 49, ground := .guard } = true → vs 49 = .bool true) ∧ True := hd
    have h50 : vs 50 = .pointer (some ⟨t, 0, none⟩) := hx.1 rfl
    have h52 : vs 52 = .int .u64 (d : Nat) := hx.2.1 rfl
    have h54 : vs 54 = .int .u64 (b : Nat) := hx.2.2.1 rfl
    have h49 : vs 49 = .bool true := hx.2.2.2.2.1 rfl
    clear hx
    clear hd
    dsimp only
    rw [show vs 50 = _ from h50, show vs 52 = _ from h52, show vs 54 = _ from h54, show vs 49 = _ from h49]
    clear h50 h52 h54 h49
    go_wp2_with (go_at_call 11; refine (ext17_2 H y HT.out.S.T).mono ?_; rintro e9 z ⟨rfl, gz⟩)
    exact ⟨rfl, _, rfl, HT.out.gr gz, rfl⟩
   ·intro vs y hT hd
    have HT : Hid ((fun y9 => E17 w y9 t mb (K17 a b c d e) [(qE, bbB 5 c 12 13), (qD, bbB 3 a 5 7), (qC, bbB 3 b 9 12), (qB, bbB 2 a 5 9), (qA, bbB 1 0 0 5)] t2 mb2 qM m ad c) y) := Lib.hid hT
    clear hT
    have hx : (Region.binds .any { on := 55, ground := .data } = true → vs 55 = .bool false) ∧ (Region.binds .any { on := 49, ground := .guard } = true → vs 49 = .bool true) ∧ True := hd
    have h55 : vs 55 = .bool false := hx.1 rfl
    have h49 : vs 49 = .bool true := hx.2.1 rfl
    clear hx
    clear hd
    dsimp only
    rw [show vs 55 = _ from h55, show vs 49 = _ from h49]
    clear h55 h49
    go_wp2_with fail
    exact ⟨rfl, _, rfl, HT.out, rfl⟩
   ·intro vs y hT hd
    have HT : Hid ((fun y9 => E17 w y9 t mb (K17 a b c d e) [(qE, bbB 5 c 12 13), (qD, bbB 3 a 5 7), (qC, bbB 3 b 9 12), (qB, bbB 2 a 5 9), (qA, bbB 1 0 0 5)] t2 mb2 qM m ad c) y) := Lib.hid hT
    clear hT
    have hx : (Region.binds .any { on := 49, ground := .data } = true → vs 49 = .bool true) ∧ (Region.binds .any { on := 56, ground := .data } = true → vs 56 = .bool true) ∧ True := hd
    have h49 : vs 49 = .bool true := hx.1 rfl
    have h56 : vs 56 = .bool true := hx.2.1 rfl
    clear hx
    clear hd
    dsimp only
    rw [show vs 49 = _ from h49, show vs 56 = _ from h56]
    clear h49 h56
    go_wp2_with fail
    exact ⟨rfl, _, rfl, HT.out, rfl⟩
   ·intro vs y hT hd
    have HT : Hid ((fun y9 => E17 w y9 t mb (K17 a b c d e) [(qE, bbB 5 c 12 13), (qD, bbB 3 a 5 7), (qC, bbB 3 b 9 12), (qB, bbB 2 a 5 9), (qA, bbB 1 0 0 5)] t2 mb2 qM m ad c) y) := Lib.hid hT
    clear hT
    have hx : (Region.binds .any { on := 57, ground := .data } = true → vs 57 = .bool true) ∧ (Region.binds .any { on := 55, ground := .chain } = true → vs 55 = .bool false) ∧ True := hd
    have h57 : vs 57 = .bool true := hx.1 rfl
    clear hx
    clear hd
    dsimp only
    rw [show vs 57 = _ from h57]
    clear h57
    go_wp2_with fail
    exact ⟨rfl, _, rfl, HT.out, rfl⟩
   ·intro vs y hT hd
    have HT : Hid ((fun y9 => E17 w y9 t mb (K17 a b c d e) [(qE, bbB 5 c 12 13), (qD, bbB 3 a 5 7), (qC, bbB 3 b 9 12), (qB, bbB 2 a 5 9), (qA, bbB 1 0 0 5)] t2 mb2 qM m ad c) y) := Lib.hid hT
    clear hT
    have hx : (Region.binds .any { on := 58, ground := .guard } = true → vs 58 = .bool true) ∧ True := hd
    have h58 : vs 58 = .bool true := hx.1 rfl
    clear hx
    clear hd
    dsimp only
    rw [show vs 58 = _ from h58]
    clear h58
    go_wp2_with fail
    exact ⟨rfl, _, rfl, HT.out, rfl⟩
   ·intro vs y hT hd
    have HT : Hid ((fun y9 => E17 w y9 t mb (K17 a b c d e) [(qE, bbB 5 c 12 13), (qD, bbB 3 a 5 7), (qC, bbB 3 b 9 12), (qB, bbB 2 a 5 9), (qA, bbB 1 0 0 5)] t2 mb2 qM m ad c) y) := Lib.hid hT
    clear hT
    have hx : (Region.binds .any { on := 58, ground := .guard } = true → vs 58 = .bool true) ∧ True := hd
    have h58 : vs 58 = .bool true := hx.1 rfl
    clear hx
    clear hd
    dsimp only
    rw [show vs 58 = _ from h58]
    clear h58
    have HR : Hid (y.rangeAt qD 0 (bbB 3 a 5 7).z.C.toList) := Lib.hid (HT.out.S.cell (by simp))
    go_wp2_with (refine ltload_want (by rfl) 33 (.tmp 5) rfl qD 0 rfl (bbB 3 a 5 7).z.C.toList _ HR.out hub rfl SID.out ?_; simp only [Array.toArray_toList])
    exact ⟨rfl, _, rfl, HT.out, rfl⟩
   ·intro vs y hT hd
    have HT : Hid ((fun y9 => E17 w y9 t mb (K17 a b c d e) [(qE, bbB 5 c 12 13), (qD, bbB 3 a 5 7), (qC, bbB 3 b 9 12), (qB, bbB 2 a 5 9), (qA, bbB 1 0 0 5)] t2 mb2 qM m ad c) y) := Lib.hid hT
    clear hT
    have hx : (Region.binds .any { on := 60, ground := .data } = true → vs 60 = .agg (bbB 3 a 5 7).z.C) ∧ (Region.binds .any { on := 58, ground := .chain } = true → vs 58 = .bool true) ∧ (Region.binds .any { on := 58, ground := .guard } = true → vs 58 = .bool true) ∧ True := hd
    have h60 : vs 60 = .agg (bbB 3 a 5 7).z.C := hx.1 rfl
    have h58 : vs 58 = .bool true := hx.2.2.1 rfl
    clear hx
    clear hd
    dsimp only
    rw [show vs 60 = _ from h60, show vs 58 = _ from h58]
    clear h60 h58
    go_wp2_with (go_at_call 10; refine (CDD.out y (HT.out.S.std HS.out)).mono ?_; rintro e9 z ⟨rfl, gz⟩)
    exact ⟨rfl, _, rfl, HT.out.gr gz, rfl⟩
   ·intro vs y hT hd
    have HT : Hid ((fun y9 => E17 w y9 t mb (K17 a b c d e) [(qE, bbB 5 c 12 13), (qD, bbB 3 a 5 7), (qC, bbB 3 b 9 12), (qB, bbB 2 a 5 9), (qA, bbB 1 0 0 5)] t2 mb2 qM m ad c) y) := Lib.hid hT
    clear hT
    have hx : (Region.binds .any { on := 59, ground := .data } = true → vs 59 = .pointer (some ⟨t, 0, none⟩)) ∧ (Region.binds .any { on := 61, ground := .data } = true → vs 61 = .int .u64 (d : Nat)) ∧ (Region.binds .any { on := 61, ground := .chain } = true → vs 61 = .int .u64 (d : Nat)) ∧ (Region.binds .any { on := 58, ground := .guard } = true → vs 58 = .bool true) ∧ True := hd
    have h59 : vs 59 = .pointer (some ⟨t, 0, none⟩) := hx.1 rfl
    have h61 : vs 61 = .int .u64 (d : Nat) := hx.2.1 rfl
    have h58 : vs 58 = .bool true := hx.2.2.2.1 rfl
    clear hx
    clear hd
    dsimp only
    rw [show vs 59 = _ from h59, show vs 61 = _ from h61, show vs 58 = _ from h58]
    clear h59 h61 h58
    go_wp2_with (go_at_call 11; refine (ext17_3 H y HT.out.S.T).mono ?_; rintro e9 z ⟨rfl, gz⟩)
    exact ⟨rfl, _, rfl, HT.out.gr gz, rfl⟩
   ·intro vs y hT hd
    have HT : Hid ((fun y9 => E17 w y9 t mb (K17 a b c d e) [(qE, bbB 5 c 12 13), (qD, bbB 3 a 5 7), (qC, bbB 3 b 9 12), (qB, bbB 2 a 5 9), (qA, bbB 1 0 0 5)] t2 mb2 qM m ad c) y) := Lib.hid hT
    clear hT
    have hx : (Region.binds .any { on := 58, ground := .data } = true → vs 58 = .bool true) ∧ (Region.binds .any { on := 62, ground := .data } = true → vs 62 = .bool true) ∧ True := hd
    have h58 : vs 58 = .bool true := hx.1 rfl
    have h62 : vs 62 = .bool true := hx.2.1 rfl
    clear hx
    clear hd
    dsimp only
    rw [show vs 58 = _ from h58, show vs 62 = _ from h62]
    clear h58 h62
    go_wp2_with fail
    exact ⟨rfl, _, rfl, HT.out, rfl⟩
   ·intro vs y hT hd
    have HT : Hid ((fun y9 => E17 w y9 t mb (K17 a b c d e) [(qE, bbB 5 c 12 13), (qD, bbB 3 a 5 7), (qC, bbB 3 b 9 12), (qB, bbB 2 a 5 9), (qA, bbB 1 0 0 5)] t2 mb2 qM m ad c) y) := Lib.hid hT
    clear hT
    have hx : (Region.binds .any { on := 63, ground := .data } = true → vs 63 = .bool true) ∧ (Region.binds .any { on := 62, ground := .chain } = true → vs 62 = .bool true) ∧ True := hd
    have h63 : vs 63 = .bool true := hx.1 rfl
    clear hx
    clear hd
    dsimp only
    rw [show vs 63 = _ from h63]
    clear h63
    go_wp2_with fail
    exact ⟨rfl, _, rfl, HT.out, rfl⟩
   ·intro vs y hT hd
    have HT : Hid ((fun y9 => E17 w y9 t mb (K17 a b c d e) [(qE, bbB 5 c 12 13), (qD, bbB 3 a 5 7), (qC, bbB 3 b 9 12), (qB, bbB 2 a 5 9), (qA, bbB 1 0 0 5)] t2 mb2 qM m ad c) y) := Lib.hid hT
    clear hT
    have hx : (Region.binds .any { on := 64, ground := .guard } = true → vs 64 = .bool true) ∧ True := hd
    have h64 : vs 64 = .bool true := hx.1 rfl
    clear hx
    clear hd
    dsimp only
    rw [show vs 64 = _ from h64]
    clear h64
    go_wp2_with fail
    exact ⟨rfl, _, rfl, HT.out, rfl⟩
   ·intro vs y hT hd
    have HT : Hid ((fun y9 => E17 w y9 t mb (K17 a b c d e) [(qE, bbB 5 c 12 13), (qD, bbB 3 a 5 7), (qC, bbB 3 b 9 12), (qB, bbB 2 a 5 9), (qA, bbB 1 0 0 5)] t2 mb2 qM m ad c) y) := Lib.hid hT
    clear hT
    have hx : (Region.binds .any { on := 65, ground := .data } = true → vs 65 = .pointer (some ⟨t, 0, none⟩)) ∧ (Region.binds .any { on := 64, ground := .chain } = true → vs 64 = .bool true) ∧ (Region.binds .any { on := 64, ground := .guard } = true → vs 64 = .bool true) ∧ True := hd
    have h65 : vs 65 = .pointer (some ⟨t, 0, none⟩) := hx.1 rfl
    have h64 : vs 64 = .bool true := hx.2.2.1 rfl
    clear hx
    clear hd
    dsimp only
    rw [show vs 65 = _ from h65, show vs 64 = _ from h64]
    clear h65 h64
    go_wp2_with (go_at_call 12; refine (len17 y HT.out.S.T).mono ?_; rintro e9 z ⟨rfl, gz⟩)
    exact ⟨rfl, _, rfl, HT.out.gr gz, rfl⟩
   ·intro vs y hT hd
    have HT : Hid ((fun y9 => E17 w y9 t mb (K17 a b c d e) [(qE, bbB 5 c 12 13), (qD, bbB 3 a 5 7), (qC, bbB 3 b 9 12), (qB, bbB 2 a 5 9), (qA, bbB 1 0 0 5)] t2 mb2 qM m ad c) y) := Lib.hid hT
    clear hT
    have hx : (Region.binds .any { on := 66, ground := .data } = true → vs 66 = .int .i64 6) ∧ (Region.binds .any { on := 64, ground := .guard } = true → vs 64 = .bool true) ∧ True := hd
    have h66 : vs 66 = .int .i64 6 := hx.1 rfl
    have h64 : vs 64 = .bool true := hx.2.1 rfl
    clear hx
    clear hd
    dsimp only
    rw [show vs 66 = _ from h66, show vs 64 = _ from h64]
    clear h66 h64
    go_wp2_with fail
    exact ⟨rfl, _, rfl, HT.out, rfl⟩
   ·intro vs y hT hd
    have HT : Hid ((fun y9 => E17 w y9 t mb (K17 a b c d e) [(qE, bbB 5 c 12 13), (qD, bbB 3 a 5 7), (qC, bbB 3 b 9 12), (qB, bbB 2 a 5 9), (qA, bbB 1 0 0 5)] t2 mb2 qM m ad c) y) := Lib.hid hT
    clear hT
    have hx : (Region.binds .any { on := 64, ground := .data } = true → vs 64 = .bool true) ∧ (Region.binds .any { on := 67, ground := .data } = true → vs 67 = .bool true) ∧ True := hd
    have h64 : vs 64 = .bool true := hx.1 rfl
    have h67 : vs 67 = .bool true := hx.2.1 rfl
    clear hx
    clear hd
    dsimp only
    rw [show vs 64 = _ from h64, show vs 67 = _ from h67]
    clear h64 h67
    go_wp2_with fail
    exact ⟨rfl, _, rfl, HT.out, rfl⟩
   ·intro vs y hT hd
    have HT : Hid ((fun y9 => E17 w y9 t mb (K17 a b c d e) [(qE, bbB 5 c 12 13), (qD, bbB 3 a 5 7), (qC, bbB 3 b 9 12), (qB, bbB 2 a 5 9), (qA, bbB 1 0 0 5)] t2 mb2 qM m ad c) y) := Lib.hid hT
    clear hT
    have hx : (Region.binds .any { on := 68, ground := .data } = true → vs 68 = .bool true) ∧ (Region.binds .any { on := 66, ground := .chain } = true → vs 66 = .int .i64 6) ∧ True := hd
    have h68 : vs 68 = .bool true := hx.1 rfl
    clear hx
    clear hd
    dsimp only
    rw [show vs 68 = _ from h68]
    clear h68
    go_wp2_with fail
    exact ⟨rfl, _, rfl, HT.out, rfl⟩
   ·intro vs y hT hd
    have HT : Hid ((fun y9 => E17 w y9 t mb (K17 a b c d e) [(qE, bbB 5 c 12 13), (qD, bbB 3 a 5 7), (qC, bbB 3 b 9 12), (qB, bbB 2 a 5 9), (qA, bbB 1 0 0 5)] t2 mb2 qM m ad c) y) := Lib.hid hT
    clear hT
    have hx : (Region.binds .any { on := 69, ground := .guard } = true → vs 69 = .bool true) ∧ True := hd
    have h69 : vs 69 = .bool true := hx.1 rfl
    clear hx
    clear hd
    dsimp only
    rw [show vs 69 = _ from h69]
    clear h69
    go_wp2_with fail
    exact ⟨rfl, _, rfl, HT.out, rfl⟩
   ·intro vs y hT hd
    have HT : Hid ((fun y9 => E17 w y9 t mb (K17 a b c d e) [(qE, bbB 5 c 12 13), (qD, bbB 3 a 5 7), (qC, bbB 3 b 9 12), (qB, bbB 2 a 5 9), (qA, bbB 1 0 0 5)] t2 mb2 qM m ad c) y) := Lib.hid hT
    clear hT
    have hx : (Region.binds .any { on := 70, ground := .data } = true → vs 70 = .pointer (some ⟨t2, 0, none⟩)) ∧ (Region.binds .any { on := 69, ground := .chain } = true → vs 69 = .bool true) ∧ (Region.binds .any { on := 69, ground := .guard } = true → vs 69 = .bool true) ∧ True := hd
    have h70 : vs 70 = .pointer (some ⟨t2, 0, none⟩) := hx.1 rfl
    have h69 : vs 69 = .bool true := hx.2.2.1 rfl
    clear hx
    clear hd
    dsimp only
    rw [show vs 70 = _ from h70, show vs 69 = _ from h69]
    clear h70 h69
    go_wp2_with (go_at_call 12; refine (len17 y HT.out.U).mono ?_; rintro e9 z ⟨rfl, gz⟩)
    exact ⟨rfl, _, rfl, HT.out.gr gz, rfl⟩
   ·intro vs y hT hd
    have HT : Hid ((fun y9 => E17 w y9 t mb (K17 a b c d e) [(qE, bbB 5 c 12 13), (qD, bbB 3 a 5 7), (qC, bbB 3 b 9 12), (qB, bbB 2 a 5 9), (qA, bbB 1 0 0 5)] t2 mb2 qM m ad c) y) := Lib.hid hT
    clear hT
    have hx : (Region.binds .any { on := 71, ground := .data } = true → vs 71 = .int .i64 6) ∧ (Region.binds .any { on := 69, ground := .guard } = true → vs 69 = .bool true) ∧ True := hd
    have h71 : vs 71 = .int .i64 6 := hx.1 rfl
    have h69 : vs 69 = .bool true := hx.2.1 rfl
    clear hx
    clear hd
    dsimp only
    rw [show vs 71 = _ from h71, show vs 69 = _ from h69]
    clear h71 h69
    go_wp2_with fail
    exact ⟨rfl, _, rfl, HT.out, rfl⟩
   ·intro vs y hT hd
    have HT : Hid ((fun y9 => E17 w y9 t mb (K17 a b c d e) [(qE, bbB 5 c 12 13), (qD, bbB 3 a 5 7), (qC, bbB 3 b 9 12), (qB, bbB 2 a 5 9), (qA, bbB 1 0 0 5)] t2 mb2 qM m ad c) y) := Lib.hid hT
    clear hT
    have hx : (Region.binds .any { on := 69, ground := .data } = true → vs 69 = .bool true) ∧ (Region.binds .any { on := 72, ground := .data } = true → vs 72 = .bool true) ∧ True := hd
    have h69 : vs 69 = .bool true := hx.1 rfl
    have h72 : vs 72 = .bool true := hx.2.1 rfl
    clear hx
    clear hd
    dsimp only
    rw [show vs 69 = _ from h69, show vs 72 = _ from h72]
    clear h69 h72
    go_wp2_with fail
    exact ⟨rfl, _, rfl, HT.out, rfl⟩
   ·intro vs y hT hd
    have HT : Hid ((fun y9 => E17 w y9 t mb (K17 a b c d e) [(qE, bbB 5 c 12 13), (qD, bbB 3 a 5 7), (qC, bbB 3 b 9 12), (qB, bbB 2 a 5 9), (qA, bbB 1 0 0 5)] t2 mb2 qM m ad c) y) := Lib.hid hT
    clear hT
    have hx : (Region.binds .any { on := 73, ground := .data } = true → vs 73 = .bool true) ∧ (Region.binds .any { on := 71, ground := .chain } = true → vs 71 = .int .i64 6) ∧ True := hd
    have h73 : vs 73 = .bool true := hx.1 rfl
    clear hx
    clear hd
    dsimp only
    rw [show vs 73 = _ from h73]
    clear h73
    go_wp2_with fail
    exact ⟨rfl, _, rfl, HT.out, rfl⟩
   ·intro vs y hT hd
    have HT : Hid ((fun y9 => E17 w y9 t mb (K17 a b c d e) [(qE, bbB 5 c 12 13), (qD, bbB 3 a 5 7), (qC, bbB 3 b 9 12), (qB, bbB 2 a 5 9), (qA, bbB 1 0 0 5)] t2 mb2 qM m ad c) y) := Lib.hid hT
    clear hT
    have hx : (Region.binds .any { on := 74, ground := .guard } = true → vs 74 = .bool true) ∧ True := hd
    have h74 : vs 74 = .bool true := hx.1 rfl
    clear hx
    clear hd
    dsimp only
    rw [show vs 74 = _ from h74]
    clear h74
    go_wp2_with fail
    exact ⟨rfl, _, rfl, HT.out, rfl⟩
   ·intro vs y hT hd
    have HT : Hid ((fun y9 => E17 w y9 t mb (K17 a b c d e) [(qE, bbB 5 c 12 13), (qD, bbB 3 a 5 7), (qC, bbB 3 b 9 12), (qB, bbB 2 a 5 9), (qA, bbB 1 0 0 5)] t2 mb2 qM m ad c) y) := Lib.hid hT
    clear hT
    have hx : (Region.binds .any { on := 74, ground := .guard } = true → vs 74 = .bool true) ∧ True := hd
    have h74 : vs 74 = .bool true := hx.1 rfl
    clear hx
    clear hd
    dsimp only
    rw [show vs 74 = _ from h74]
    clear h74
    have HR : Hid (y.rangeAt qA 0 (bbB 1 0 0 5).z.C.toList) := Lib.hid (HT.out.S.cell (by simp))
    go_wp2_with (refine ltload_want (by rfl) 33 (.tmp 2) rfl qA 0 rfl (bbB 1 0 0 5).z.C.toList _ HR.out hub rfl SIA.out ?_; simp only [Array.toArray_toList])
    exact ⟨rfl, _, rfl, HT.out, rfl⟩
   ·intro vs y hT hd
    have HT : Hid ((fun y9 => E17 w y9 t mb (K17 a b c d e) [(qE, bbB 5 c 12 13), (qD, bbB 3 a 5 7), (qC, bbB 3 b 9 12), (qB, bbB 2 a 5 9), (qA, bbB 1 0 0 5)] t2 mb2 qM m ad c) y) := Lib.hid hT
    clear hT
    have hx : (Region.binds .any { on := 75, ground := .data } = true → vs 75 = .pointer (some ⟨t, 0, none⟩)) ∧ (Region.binds .any { on := 76, ground := .data } = true → vs 76 = .agg (bbB 1 0 0 5).z.C) ∧ (Region.binds .any { on := 74, ground := .chain } = true → vs 74 = .bool true) ∧ (Region.binds .any { on := 74, ground := .guard } = true → vs 74 = .bool true) ∧ True := hd
    have h75 : vs 75 = .pointer (some ⟨t, 0, none⟩) := hx.1 rfl
    have h76 : vs 76 = .agg (bbB 1 0 0 5).z.C := hx.2.1 rfl
    have h74 : vs 74 = .bool true := hx.2.2.2.1 rfl
    clear hx
    clear hd
    dsimp only
    rw [show vs 75 = _ from h75, show vs 76 = _ from h76, show vs 74 = _ from h74]
    clear h75 h76 h74
    go_wp2_with (go_at_call 9; refine (add17_6 H y (HT.out.S.std HS.out) HT.out.S.T).mono ?_; rintro e9 z ⟨rfl, T9, k9⟩)
    exact ⟨rfl, _, rfl, HT.out.kp k9 T9, rfl⟩
   ·intro vs y hT hd
    have HT : Hid ((fun y9 => E17 w y9 t mb (K17 a b c d e) [(qE, bbB 5 c 12 13), (qD, bbB 3 a 5 7), (qC, bbB 3 b 9 12), (qB, bbB 2 a 5 9), (qA, bbB 1 0 0 5)] t2 mb2 qM m ad c) y) := Lib.hid hT
    clear hT
    have hx : (Region.binds .any { on := 77, ground := .data } = true → vs 77 = .int .i64 5) ∧ (Region.binds .any { on := 74, ground := .guard } = true → vs 74 = .bool true) ∧ True := hd
    have h77 : vs 77 = .int .i64 5 := hx.1 rfl
    have h74 : vs 74 = .bool true := hx.2.1 rfl
    clear hx
    clear hd
    dsimp only
    rw [show vs 77 = _ from h77, show vs 74 = _ from h74]
    clear h77 h74
    go_wp2_with fail
    exact ⟨rfl, _, rfl, HT.out, rfl⟩
   ·intro vs y hT hd
    have HT : Hid ((fun y9 => E17 w y9 t mb (K17 a b c d e) [(qE, bbB 5 c 12 13), (qD, bbB 3 a 5 7), (qC, bbB 3 b 9 12), (qB, bbB 2 a 5 9), (qA, bbB 1 0 0 5)] t2 mb2 qM m ad c) y) := Lib.hid hT
    clear hT
    have hx : (Region.binds .any { on := 74, ground := .data } = true → vs 74 = .bool true) ∧ (Region.binds .any { on := 78, ground := .data } = true → vs 78 = .bool true) ∧ True := hd
    have h74 : vs 74 = .bool true := hx.1 rfl
    have h78 : vs 78 = .bool true := hx.2.1 rfl
    clear hx
    clear hd
    dsimp only
    rw [show vs 74 = _ from h74, show vs 78 = _ from h78]
    clear h74 h78
    go_wp2_with fail
    exact ⟨rfl, _, rfl, HT.out, rfl⟩
   ·intro vs y hT hd
    have HT : Hid ((fun y9 => E17 w y9 t mb (K17 a b c d e) [(qE, bbB 5 c 12 13), (qD, bbB 3 a 5 7), (qC, bbB 3 b 9 12), (qB, bbB 2 a 5 9), (qA, bbB 1 0 0 5)] t2 mb2 qM m ad c) y) := Lib.hid hT
    clear hT
    have hx : (Region.binds .any { on := 79, ground := .data } = true → vs 79 = .bool true) ∧ (Region.binds .any { on := 77, ground := .chain } = true → vs 77 = .int .i64 5) ∧ True := hd
    have h79 : vs 79 = .bool true := hx.1 rfl
    clear hx
    clear hd
    dsimp only
    rw [show vs 79 = _ from h79]
    clear h79
    go_wp2_with fail
    exact ⟨rfl, _, rfl, HT.out, rfl⟩
   ·intro vs y hT hd
    have HT : Hid ((fun y9 => E17 w y9 t mb (K17 a b c d e) [(qE, bbB 5 c 12 13), (qD, bbB 3 a 5 7), (qC, bbB 3 b 9 12), (qB, bbB 2 a 5 9), (qA, bbB 1 0 0 5)] t2 mb2 qM m ad c) y) := Lib.hid hT
    clear hT
    have hx : (Region.binds .any { on := 80, ground := .guard } = true → vs 80 = .bool true) ∧ True := hd
    have h80 : vs 80 = .bool true := hx.1 rfl
    clear hx
    clear hd
    dsimp only
    rw [show vs 80 = _ from h80]
    clear h80
    go_wp2_with fail
    exact ⟨rfl, _, rfl, HT.out, rfl⟩
   ·intro vs y hT hd
    have HT : Hid ((fun y9 => E17 w y9 t mb (K17 a b c d e) [(qE, bbB 5 c 12 13), (qD, bbB 3 a 5 7), (qC, bbB 3 b 9 12), (qB, bbB 2 a 5 9), (qA, bbB 1 0 0 5)] t2 mb2 qM m ad c) y) := Lib.hid hT
    clear hT
    have hx : (Region.binds .any { on := 80, ground := .guard } = true → vs 80 = .bool true) ∧ True := hd
    have h80 : vs 80 = .bool true := hx.1 rfl
    clear hx
    clear hd
    dsimp only
    rw [show vs 80 = _ from h80]
    clear h80
    have HR : Hid (y.rangeAt qA 0 (bbB 1 0 0 5).z.C.toList) := Lib.hid (HT.out.S.cell (by simp))
    go_wp2_with (refine ltload_want (by rfl) 33 (.tmp 2) rfl qA 0 rfl (bbB 1 0 0 5).z.C.toList _ HR.out hub rfl SIA.out ?_; simp only [Array.toArray_toList])
    exact ⟨rfl, _, rfl, HT.out, rfl⟩
   ·intro vs y hT hd
    have HT : Hid ((fun y9 => E17 w y9 t mb (K17 a b c d e) [(qE, bbB 5 c 12 13), (qD, bbB 3 a 5 7), (qC, bbB 3 b 9 12), (qB, bbB 2 a 5 9), (qA, bbB 1 0 0 5)] t2 mb2 qM m ad c) y) := Lib.hid hT
    clear hT
    have hx : (Region.binds .any { on := 82, ground := .data } = true → vs 82 = .agg (bbB 1 0 0 5).z.C) ∧ (Region.binds .any { on := 80, ground := .chain } = true → vs 80 = .bool true) ∧ (Region.binds .any { on := 80, ground := .guard } = true → vs 80 = .bool true) ∧ True := hd
    have h82 : vs 82 = .agg (bbB 1 0 0 5).z.C := hx.1 rfl
    have h80 : vs 80 = .bool true := hx.2.2.1 rfl
    clear hx
    clear hd
    dsimp only
    rw [show vs 82 = _ from h82, show vs 80 = _ from h80]
    clear h82 h80
    go_wp2_with (go_at_call 10; refine (CDA.out y (HT.out.S.std HS.out)).mono ?_; rintro e9 z ⟨rfl, gz⟩)
    exact ⟨rfl, _, rfl, HT.out.gr gz, rfl⟩
   ·intro vs y hT hd
    have HT : Hid ((fun y9 => E17 w y9 t mb (K17 a b c d e) [(qE, bbB 5 c 12 13), (qD, bbB 3 a 5 7), (qC, bbB 3 b 9 12), (qB, bbB 2 a 5 9), (qA, bbB 1 0 0 5)] t2 mb2 qM m ad c) y) := Lib.hid hT
    clear hT
    have hx : (Region.binds .any { on := 83, ground := .data } = true → vs 83 = .int .u64 (a : Nat)) ∧ (Region.binds .any { on := 83, ground := .chain } = true → vs 83 = .int .u64 (a : Nat)) ∧ (Region.binds .any { on := 80, ground := .guard } = true → vs 80 = .bool true) ∧ True := hd
    have h83 : vs 83 = .int .u64 (a : Nat) := hx.1 rfl
    have h80 : vs 80 = .bool true := hx.2.2.1 rfl
    clear hx
    clear hd
    dsimp only
    rw [show vs 83 = _ from h83, show vs 80 = _ from h80]
    clear h83 h80
    go_wp2_with (go_at_call 8; refine (lawB_ok 1 a 5 6 y).mono ?_; rintro e9 z ⟨rfl, gz⟩)
    exact ⟨rfl, _, rfl, HT.out.gr gz, rfl⟩
   ·intro vs y hT hd
    have HT : Hid ((fun y9 => E17 w y9 t mb (K17 a b c d e) [(qE, bbB 5 c 12 13), (qD, bbB 3 a 5 7), (qC, bbB 3 b 9 12), (qB, bbB 2 a 5 9), (qA, bbB 1 0 0 5)] t2 mb2 qM m ad c) y) := Lib.hid hT
    clear hT
    have hx : (Region.binds .any { on := 81, ground := .data } = true → vs 81 = .pointer (some ⟨t, 0, none⟩)) ∧ (Region.binds .any { on := 84, ground := .data } = true → vs 84 = .agg (bbB 1 a 5 6).z.C) ∧ (Region.binds .any { on := 84, ground := .chain } = true → vs 84 = .agg (bbB 1 a 5 6).z.C) ∧ (Region.binds .any { on := 80, ground := .guard } = true → vs 80 = .bool true) ∧ True := hd
    have h81 : vs 81 = .pointer (some ⟨t, 0, none⟩) := hx.1 rfl
    have h84 : vs 84 = .agg (bbB 1 a 5 6).z.C := hx.2.1 rfl
    have h80 : vs 80 = .bool true := hx.2.2.2.1 rfl
    clear hx
    clear hd
    dsimp only
    rw [show vs 81 = _ from h81, show vs 84 = _ from h84, show vs 80 = _ from h80]
    clear h81 h84 h80
    go_wp2_with (go_at_call 9; refine (add17_7 H y (HT.out.S.std HS.out) HT.out.S.T).mono ?_; rintro e9 z ⟨rfl, T9, k9⟩)
    exact ⟨rfl, _, rfl, HT.out.kp k9 T9, rfl⟩
   ·intro vs y hT hd
    have HT : Hid ((fun y9 => E17 w y9 t mb (K17 a b c d e) [(qE, bbB 5 c 12 13), (qD, bbB 3 a 5 7), (qC, bbB 3 b 9 12), (qB, bbB 2 a 5 9), (qA, bbB 1 0 0 5)] t2 mb2 qM m ad c) y) := Lib.hid hT
    clear hT
    have hx : (Region.binds .any { on := 85, ground := .data } = true → vs 85 = .int .i64 12) ∧ (Region.binds .any { on := 80, ground := .guard } = true → vs 80 = .bool true) ∧ True := hd
    have h85 : vs 85 = .int .i64 12 := hx.1 rfl
    have h80 : vs 80 = .bool true := hx.2.1 rfl
    clear hx
    clear hd
    dsimp only
    rw [show vs 85 = _ from h85, show vs 80 = _ from h80]
    clear h85 h80
    go_wp2_with fail
    exact ⟨rfl, _, rfl, HT.out, rfl⟩
   ·intro vs y hT hd
    have HT : Hid ((fun y9 => E17 w y9 t mb (K17 a b c d e) [(qE, bbB 5 c 12 13), (qD, bbB 3 a 5 7), (qC, bbB 3 b 9 12), (qB, bbB 2 a 5 9), (qA, bbB 1 0 0 5)] t2 mb2 qM m ad c) y) := Lib.hid hT
    clear hT
    have hx : (Region.binds .any { on := 80, ground := .data } = true → vs 80 = .bool true) ∧ (Region.binds .any { on := 86, ground := .data } = true → vs 86 = .bool true) ∧ True := hd
    have h80 : vs 80 = .bool true := hx.1 rfl
    have h86 : vs 86 = .bool true := hx.2.1 rfl
    clear hx
    clear hd
    dsimp only
    rw [show vs 80 = _ from h80, show vs 86 = _ from h86]
    clear h80 h86
    go_wp2_with fail
    exact ⟨rfl, _, rfl, HT.out, rfl⟩
   ·intro vs y hT hd
    have HT : Hid ((fun y9 => E17 w y9 t mb (K17 a b c d e) [(qE, bbB 5 c 12 13), (qD, bbB 3 a 5 7), (qC, bbB 3 b 9 12), (qB, bbB 2 a 5 9), (qA, bbB 1 0 0 5)] t2 mb2 qM m ad c) y) := Lib.hid hT
    clear hT
    have hx : (Region.binds .any { on := 87, ground := .data } = true → vs 87 = .bool true) ∧ (Region.binds .any { on := 85, ground := .chain } = true → vs 85 = .int .i64 12) ∧ True := hd
    have h87 : vs 87 = .bool true := hx.1 rfl
    clear hx
    clear hd
    dsimp only
    rw [show vs 87 = _ from h87]
    clear h87
    go_wp2_with fail
    exact ⟨rfl, _, rfl, HT.out, rfl⟩
   ·intro vs y hT hd
    have HT : Hid ((fun y9 => E17 w y9 t mb (K17 a b c d e) [(qE, bbB 5 c 12 13), (qD, bbB 3 a 5 7), (qC, bbB 3 b 9 12), (qB, bbB 2 a 5 9), (qA, bbB 1 0 0 5)] t2 mb2 qM m ad c) y) := Lib.hid hT
    clear hT
    have hx : (Region.binds .any { on := 88, ground := .guard } = true → vs 88 = .bool true) ∧ True := hd
    have h88 : vs 88 = .bool true := hx.1 rfl
    clear hx
    clear hd
    dsimp only
    rw [show vs 88 = _ from h88]
    clear h88
    go_wp2_with fail
    exact ⟨rfl, _, rfl, HT.out, rfl⟩
   ·intro vs y hT hd
    have HT : Hid ((fun y9 => E17 w y9 t mb (K17 a b c d e) [(qE, bbB 5 c 12 13), (qD, bbB 3 a 5 7), (qC, bbB 3 b 9 12), (qB, bbB 2 a 5 9), (qA, bbB 1 0 0 5)] t2 mb2 qM m ad c) y) := Lib.hid hT
    clear hT
    have hx : (Region.binds .any { on := 88, ground := .guard } = true → vs 88 = .bool true) ∧ True := hd
    have h88 : vs 88 = .bool true := hx.1 rfl
    clear hx
    clear hd
    dsimp only
    rw [show vs 88 = _ from h88]
    clear h88
    have HR : Hid (y.rangeAt qA 0 (bbB 1 0 0 5).z.C.toList) := Lib.hid (HT.out.S.cell (by simp))
    go_wp2_with (refine ltload_want (by rfl) 33 (.tmp 2) rfl qA 0 rfl (bbB 1 0 0 5).z.C.toList _ HR.out hub rfl SIA.out ?_; simp only [Array.toArray_toList])
    exact ⟨rfl, _, rfl, HT.out, rfl⟩
   ·intro vs y hT hd
    have HT : Hid ((fun y9 => E17 w y9 t mb (K17 a b c d e) [(qE, bbB 5 c 12 13), (qD, bbB 3 a 5 7), (qC, bbB 3 b 9 12), (qB, bbB 2 a 5 9), (qA, bbB 1 0 0 5)] t2 mb2 qM m ad c) y) := Lib.hid hT
    clear hT
    have hx : (Region.binds .any { on := 90, ground := .data } = true → vs 90 = .agg (bbB 1 0 0 5).z.C) ∧ (Region.binds .any { on := 88, ground := .chain } = true → vs 88 = .bool true) ∧ (Region.binds .any { on := 88, ground := .guard } = true → vs 88 = .bool true) ∧ True := hd
    have h90 : vs 90 = .agg (bbB 1 0 0 5).z.C := hx.1 rfl
    have h88 : vs 88 = .bool true := hx.2.2.1 rfl
    clear hx
    clear hd
    dsimp only
    rw [show vs 90 = _ from h90, show vs 88 = _ from h88]
    clear h90 h88
    go_wp2_with (go_at_call 10; refine (CDA.out y (HT.out.S.std HS.out)).mono ?_; rintro e9 z ⟨rfl, gz⟩)
    exact ⟨rfl, _, rfl, HT.out.gr gz, rfl⟩
   ·intro vs y hT hd
    have HT : Hid ((fun y9 => E17 w y9 t mb (K17 a b c d e) [(qE, bbB 5 c 12 13), (qD, bbB 3 a 5 7), (qC, bbB 3 b 9 12), (qB, bbB 2 a 5 9), (qA, bbB 1 0 0 5)] t2 mb2 qM m ad c) y) := Lib.hid hT
    clear hT
    have hx : (Region.binds .any { on := 91, ground := .data } = true → vs 91 = .int .u64 (a : Nat)) ∧ (Region.binds .any { on := 91, ground := .chain } = true → vs 91 = .int .u64 (a : Nat)) ∧ (Region.binds .any { on := 88, ground := .guard } = true → vs 88 = .bool true) ∧ True := hd
    have h91 : vs 91 = .int .u64 (a : Nat) := hx.1 rfl
    have h88 : vs 88 = .bool true := hx.2.2.1 rfl
    clear hx
    clear hd
    dsimp only
    rw [show vs 91 = _ from h91, show vs 88 = _ from h88]
    clear h91 h88
    go_wp2_with (go_at_call 8; refine (lawB_ok 9 a 6 7 y).mono ?_; rintro e9 z ⟨rfl, gz⟩)
    exact ⟨rfl, _, rfl, HT.out.gr gz, rfl⟩
   ·intro vs y hT hd
    have HT : Hid ((fun y9 => E17 w y9 t mb (K17 a b c d e) [(qE, bbB 5 c 12 13), (qD, bbB 3 a 5 7), (qC, bbB 3 b 9 12), (qB, bbB 2 a 5 9), (qA, bbB 1 0 0 5)] t2 mb2 qM m ad c) y) := Lib.hid hT
    clear hT
    have hx : (Region.binds .any { on := 89, ground := .data } = true → vs 89 = .pointer (some ⟨t, 0, none⟩)) ∧ (Region.binds .any { on := 92, ground := .data } = true → vs 92 = .agg (bbB 9 a 6 7).z.C) ∧ (Region.binds .any { on := 92, ground := .chain } = true → vs 92 = .agg (bbB 9 a 6 7).z.C) ∧ (Region.binds .any { on := 88, ground := .guard } = true → vs 88 = .bool true) ∧ True := hd
    have h89 : vs 89 = .pointer (some ⟨t, 0, none⟩) := hx.1 rfl
    have h92 : vs 92 = .agg (bbB 9 a 6 7).z.C := hx.2.1 rfl
    have h88 : vs 88 = .bool true := hx.2.2.2.1 rfl
    clear hx
    clear hd
    dsimp only
    rw [show vs 89 = _ from h89, show vs 92 = _ from h92, show vs 88 = _ from h88]
    clear h89 h92 h88
    go_wp2_with (go_at_call 9; refine (add17_8 H y (HT.out.S.std HS.out) HT.out.S.T).mono ?_; rintro e9 z ⟨rfl, T9, k9⟩)
    exact ⟨rfl, _, rfl, HT.out.kp k9 T9, rfl⟩
   ·intro vs y hT hd
    have HT : Hid ((fun y9 => E17 w y9 t mb (K17 a b c d e) [(qE, bbB 5 c 12 13), (qD, bbB 3 a 5 7), (qC, bbB 3 b 9 12), (qB, bbB 2 a 5 9), (qA, bbB 1 0 0 5)] t2 mb2 qM m ad c) y) := Lib.hid hT
    clear hT
    have hx : (Region.binds .any { on := 93, ground := .data } = true → vs 93 = .int .i64 10) ∧ (Region.binds .any { on := 88, ground := .guard } = true → vs 88 = .bool true) ∧ True := hd
    have h93 : vs 93 = .int .i64 10 := hx.1 rfl
    have h88 : vs 88 = .bool true := hx.2.1 rfl
    clear hx
    clear hd
    dsimp only
    rw [show vs 93 = _ from h93, show vs 88 = _ from h88]
    clear h93 h88
    go_wp2_with fail
    exact ⟨rfl, _, rfl, HT.out, rfl⟩
   ·intro vs y hT hd
    have HT : Hid ((fun y9 => E17 w y9 t mb (K17 a b c d e) [(qE, bbB 5 c 12 13), (qD, bbB 3 a 5 7), (qC, bbB 3 b 9 12), (qB, bbB 2 a 5 9), (qA, bbB 1 0 0 5)] t2 mb2 qM m ad c) y) := Lib.hid hT
    clear hT
    have hx : (Region.binds .any { on := 88, ground := .data } = true → vs 88 = .bool true) ∧ (Region.binds .any { on := 94, ground := .data } = true → vs 94 = .bool true) ∧ True := hd
    have h88 : vs 88 = .bool true := hx.1 rfl
    have h94 : vs 94 = .bool true := hx.2.1 rfl
    clear hx
    clear hd
    dsimp only
    rw [show vs 88 = _ from h88, show vs 94 = _ from h94]
    clear h88 h94
    go_wp2_with fail
    exact ⟨rfl, _, rfl, HT.out, rfl⟩
  ·intro vs wF hT hJ
   have j0 : vs 0 = .int .i64 11 := hJ 0 (by decide)
   have j1 : vs 1 = .bool true := hJ 1 (by decide)
   have j2 : vs 2 = .bool true := hJ 2 (by decide)
   have j3 : vs 3 = .int .i64 0 := hJ 3 (by decide)
   have j4 : vs 4 = .bool true := hJ 4 (by decide)
   have j5 : vs 5 = .bool true := hJ 5 (by decide)
   have j6 : vs 6 = .bool true := hJ 6 (by decide)
   have j7 : vs 7 = .bool true := hJ 7 (by decide)
   have j8 : vs 8 = .bool true := hJ 8 (by decide)
   have j9 : vs 9 = .bool true := hJ 9 (by decide)
   have j10 : vs 10 = .int .u64 (a : Nat) := hJ 10 (by decide)
   have j11 : vs 11 = .agg (bbB 1 0 0 5).z.C := hJ 11 (by decide)
   have j12 : vs 12 = .int .u64 (a : Nat) := hJ 12 (by decide)
   have j13 : vs 13 = .bool true := hJ 13 (by decide)
   have j14 : vs 14 = .bool true := hJ 14 (by decide)
   have j15 : vs 15 = .bool true := hJ 15 (by decide)
   have j16 : vs 16 = .bool false := hJ 16 (by decide)
   have j17 : vs 17 = .bool true := hJ 17 (by decide)
   have j18 : vs 18 = .bool true := hJ 18 (by decide)
   have j19 : vs 19 = .bool true := hJ 19 (by decide)
   have j20 : vs 20 = .bool true := hJ 20 (by decide)
   have j21 : vs 21 = .bool true := hJ 21 (by decide)
   have j22 : vs 22 = .bool true := hJ 22 (by decide)
   have j23 : vs 23 = .pointer (some ⟨qM, 6, none⟩) := hJ 23 (by decide)
   have j24 : vs 24 = .int .i64 7 := hJ 24 (by decide)
   have j25 : vs 25 = .bool true := hJ 25 (by decide)
   have j26 : vs 26 = .bool true := hJ 26 (by decide)
   have j27 : vs 27 = .bool true := hJ 27 (by decide)
   have j28 : vs 28 = .slice (some ad) 4 cp := hJ 28 (by decide)
   have j29 : vs 29 = .pointer (some (ad.add 0)) := hJ 29 (by decide)
   have j30 : vs 30 = .int .u64 0 := hJ 30 (by decide)
   have j31 : vs 31 = .bool true := hJ 31 (by decide)
   have j32 : vs 32 = .bool true := hJ 32 (by decide)
   have j33 : vs 33 = .bool true := hJ 33 (by decide)
   have j34 : vs 34 = .slice (some ad) 4 cp := hJ 34 (by decide)
   have j35 : vs 35 = .pointer (some (ad.add 3)) := hJ 35 (by decide)
   have j36 : vs 36 = .int .u64 (c : Nat) := hJ 36 (by decide)
   have j37 : vs 37 = .agg (bbB 3 b 9 12).z.C := hJ 37 (by decide)
   have j38 : vs 38 = .int .u64 (c : Nat) := hJ 38 (by decide)
   have j39 : vs 39 = .bool true := hJ 39 (by decide)
   have j40 : vs 40 = .bool true := hJ 40 (by decide)
   have j41 : vs 41 = .bool true := hJ 41 (by decide)
   have j42 : vs 42 = .pointer (some ⟨t, 0, none⟩) := hJ 42 (by decide)
   have j43 : vs 43 = .agg (bbB 3 b 9 12).z.C := hJ 43 (by decide)
   have j44 : vs 44 = .int .u64 (c : Nat) := hJ 44 (by decide)
   have j45 : vs 45 = .agg (bbB 1 0 0 5).z.C := hJ 45 (by decide)
   have j46 : vs 46 = .int .u64 (a : Nat) := hJ 46 (by decide)
   have j47 : vs 47 = .bool true := hJ 47 (by decide)
   have j48 : vs 48 = .bool true := hJ 48 (by decide)
   have j49 : vs 49 = .bool true := hJ 49 (by decide)
   have j50 : vs 50 = .pointer (some ⟨t, 0, none⟩) := hJ 50 (by decide)
   have j51 : vs 51 = .agg (bbB 3 a 5 7).z.C := hJ 51 (by decide)
   have j52 : vs 52 = .int .u64 (d : Nat) := hJ 52 (by decide)
   have j53 : vs 53 = .agg (bbB 2 a 5 9).z.C := hJ 53 (by decide)
   have j54 : vs 54 = .int .u64 (b : Nat) := hJ 54 (by decide)
   have j55 : vs 55 = .bool false := hJ 55 (by decide)
   have j56 : vs 56 = .bool true := hJ 56 (by decide)
   have j57 : vs 57 = .bool true := hJ 57 (by decide)
   have j58 : vs 58 = .bool true := hJ 58 (by decide)
   have j59 : vs 59 = .pointer (some ⟨t, 0, none⟩) := hJ 59 (by decide)
   have j60 : vs 60 = .agg (bbB 3 a 5 7).z.C := hJ 60 (by decide)
   have j61 : vs 61 = .int .u64 (d : Nat) := hJ 61 (by decide)
   have j62 : vs 62 = .bool true := hJ 62 (by decide)
   have j63 : vs 63 = .bool true := hJ 63 (by decide)
   have j64 : vs 64 = .bool true := hJ 64 (by decide)
   have j65 : vs 65 = .pointer (some ⟨t, 0, none⟩) := hJ 65 (by decide)
   have j66 : vs 66 = .int .i64 6 := hJ 66 (by decide)
   have j67 : vs 67 = .bool true := hJ 67 (by decide)
   have j68 : vs 68 = .bool true := hJ 68 (by decide)
   have j69 : vs 69 = .bool true := hJ 69 (by decide)
   have j70 : vs 70 = .pointer (some ⟨t2, 0, none⟩) := hJ 70 (by decide)
   have j71 : vs 71 = .int .i64 6 := hJ 71 (by decide)
   have j72 : vs 72 = .bool true := hJ 72 (by decide)
   have j73 : vs 73 = .bool true := hJ 73 (by decide)
   have j74 : vs 74 = .bool true := hJ 74 (by decide)
   have j75 : vs 75 = .pointer (some ⟨t, 0, none⟩) := hJ 75 (by decide)
   have j76 : vs 76 = .agg (bbB 1 0 0 5).z.C := hJ 76 (by decide)
   have j77 : vs 77 = .int .i64 5 := hJ 77 (by decide)
   have j78 : vs 78 = .bool true := hJ 78 (by decide)
   have j79 : vs 79 = .bool true := hJ 79 (by decide)
   have j80 : vs 80 = .bool true := hJ 80 (by decide)
   have j81 : vs 81 = .pointer (some ⟨t, 0, none⟩) := hJ 81 (by decide)
   have j82 : vs 82 = .agg (bbB 1 0 0 5).z.C := hJ 82 (by decide)
   have j83 : vs 83 = .int .u64 (a : Nat) := hJ 83 (by decide)
   have j84 : vs 84 = .agg (bbB 1 a 5 6).z.C := hJ 84 (by decide)
   have j85 : vs 85 = .int .i64 12 := hJ 85 (by decide)
   have j86 : vs 86 = .bool true := hJ 86 (by decide)
   have j87 : vs 87 = .bool true := hJ 87 (by decide)
   have j88 : vs 88 = .bool true := hJ 88 (by decide)
   have j89 : vs 89 = .pointer (some ⟨t, 0, none⟩) := hJ 89 (by decide)
   have j90 : vs 90 = .agg (bbB 1 0 0 5).z.C := hJ 90 (by decide)
   have j91 : vs 91 = .int .u64 (a : Nat) := hJ 91 (by decide)
   have j92 : vs 92 = .agg (bbB 9 a 6 7).z.C := hJ 92 (by decide)
   have j93 : vs 93 = .int .i64 10 := hJ 93 (by decide)
   have j94 : vs 94 = .bool true := hJ 94 (by decide)
   have j95 : vs 95 = .bool true := hJ 95 (by decide)
   clear hJ
   simp only [actOf, tk1, tk0, dr1, dr0, Act.put, si1, st1, st0, Nat.reduceAdd]
   rw [j95]
   have GG : Grew w wF := hT.S.G
   clear hT E0 j0 j1 j2 j3 j4 j5 j6 j7 j8 j9 j10 j11 j12 j13 j14 j15 j16 j17 j18 j19 j20 j21 j22 j23 j24 j25 j26 j27 j28 j29 j30 j31 j32 j33 j34 j35 j36 j37 j38 j39 j40 j41 j42 j43 j44 j45 j46 j47 j48 j49 j50 j51 j52 j53 j54 j55 j56 j57 j58 j59 j60 j61 j62 j63 j64 j65 j66 j67 j68 j69 j70 j71 j72 j73 j74 j75 j76 j77 j78 j79 j80 j81 j82 j83 j84 j85 j86 j87 j88 j89 j90 j91 j92 j93 j94 j95
   go_wp2_with fail
   go_ret
   exact ⟨rfl, GG⟩
end Go.Proofs.YtbohmmcmlabcdaaDoor

namespace Go.Proofs.YtbohmmcmlabcdaaDoor
set_option linter.unusedSimpArgs false
set_option linter.unusedVariables false
open Go.RowKit Go.Maps
set_option linter.unusedVariables false
set_option linter.unnecessarySimpa false
set_option linter.unusedSimpArgs false
theorem i64_eqF {a b : Int} (h : a = b) : Value.int .i64 a = .int .i64 b := by rw [h]
theorem u64_eqF {a b : Nat} (h : a = b) : Value.int .u64 (a : Nat) = .int .u64 (b : Nat) := by rw [h]
def uL (k : Nat) : List Nat := (List.range (k + 1)).map fs
theorem uL_snoc (k : Nat) : u64L (uL (k + 1)) = u64L (uL k) ++ [.int .u64 (fs (k + 1) : Nat)] := by simp [uL, u64L, List.range_succ]
theorem uL_len (k : Nat) : (uL k).length = k + 1 := by simp [uL]
theorem uL_get (k i : Nat) (h : i < (uL k).length) : (uL k)[i] = fs i := by simp [uL]
set_option maxRecDepth 100000 in
set_option maxHeartbeats 8000000 in
theorem treeForks_law (sn an bn : Int) (h10 : 0 ≤ sn) (h11 : sn ≤ 255) (h20 : 0 ≤ an) (h21 : an ≤ 255) (h30 : 0 ≤ bn) (h31 : bn ≤ 255) (w : World) (hS : Std w) :
 Calls Tryd.prog 3 #[.int .u8 sn, .int .u8 an, .int .u8 bn] w fun e w' => e = .returned (.bool true) ∧ Grew w w' := by
 obtain ⟨i0, hi, hz0, hz1, hz2⟩ := info_parts infoD
 have hub := Tryd.underlying33
 have HS := Lib.hid hS
 have CK := Lib.hid (known17_ok w hS)
 clear hS
 obtain ⟨S, hSn⟩ : ∃ N : Nat, sn % 8 = (N : Int) := ⟨(sn % 8).toNat, by omega⟩
 obtain ⟨P, hPn⟩ : ∃ N : Nat, 1 + an % 6 = (N : Int) := ⟨(1 + an % 6).toNat, by omega⟩
 obtain ⟨Q, hQn⟩ : ∃ N : Nat, 1 + bn % 6 = (N : Int) := ⟨(1 + bn % 6).toNat, by omega⟩
 have hS8 : S < 8 := by omega
 have hP1 : 0 < P := by omega
 have hP7 : P < 7 := by omega
 have hQ1 : 0 < Q := by omega
 have hQ7 : Q < 7 := by omega
 have HSPQ := Lib.hid (And.intro hS8 (And.intro hP1 (And.intro hP7 (And.intro hQ1 hQ7))))
 clear hS8 hP1 hP7 hQ1 hQ7
 go_enter Tryd.func3, Tryd.ntmps3
 go_wp2_with fail
 refine (CK.out).mono ?_
 rintro e w1 ⟨rfl, g1⟩
 go_wp2_with fail
 refine (newB w1).mono ?_
 rintro e w2 ⟨t, mb, rfl, T2, htw, hmw, g2⟩
 have G2 := grew_trans g1 g2
 obtain ⟨B0, hB0⟩ : ∃ b, w2.heap.size = b := ⟨_, rfl⟩
 have HTL : Hid (t < B0 ∧ mb < B0 ∧ w.heap.size ≤ t ∧ w.heap.size ≤ mb ∧ w.heap.size ≤ B0) := Lib.hid (by have := T2.lt; have := g1.size; have := G2.size; omega)
 have HT2 : Hid (TreeB w2 t mb (KF 0 0 0)) := Lib.hid T2
 have HG2 := Lib.hid G2
 have hB02 : B0 ≤ w2.heap.size := by omega
 clear CK g1 g2 htw hmw hB0 T2 G2
 go_wp2_with (at_builtin; refine wpList_append_rd rfl (.tmp 46) (.tmp 47) 27 rfl B0 26 i0 (.int .u64 0) 8 Tryd.underlying27 hi hz0 hz1 hz2 rfl _ (0) _ rfl (World.ownsRow_nil _ _ _ _) (w2.heap.size + 1) (some ⟨w2.heap.size, 0, none⟩) 1 1 [.int .u64 0] rfl rfl (rd_new w2 26 #[.int .u64 0] (0, 0)) (one_cell rfl) (by unfold maxLen; omega) (by omega) (by simp; omega) ?_; intro v' w9 hown9 hgr9 hob9)
 have ga := grew_alloc (grew_refl w2) (.cells #[.int .u64 0] 26)
 have k9 : Kp (fun i => B0 ≤ i) (w2.alloc (.cells #[.int .u64 0] 26)) w9 := kp_grown (kp_refl _ _) hgr9 (fun g h => by cases h)
 have hTl := HTL.out
 have HT9 := Lib.hid ((HT2.out.gr ga).kp k9 (fun (h : B0 ≤ t) => by omega) (fun (h : B0 ≤ mb) => by omega))
 have HG9 : Hid (Grew w w9) := Lib.hid (below_kp (grew_alloc HG2.out _) k9 (by rw [alloc_size]; have := HG2.out.size; omega) (fun i (h : B0 ≤ i) => by omega))
 have HS9 : Hid (B0 ≤ w9.heap.size) := Lib.hid (Nat.le_trans hB02 (Nat.le_trans (by rw [alloc_size]; omega) k9.size))
 have HR9 : Hid (w9.ownsRow B0 26 1 v' (0 + 1) (u64L (uL 0))) := Lib.hid hown9
 clear ga k9 hTl hown9 hgr9 hob9 HT2 HG2 hB02
 go_loopw [11, 12, 13, 14, 15] (fun dv lv vv uv iv wr => ∃ (k : Nat) (pl : Value), pl = uv ∧ dv = .int .u64 (fs k : Nat) ∧ lv = .int .i64 (10 * (k : Int)) ∧ vv = .int .i64 (k : Int) ∧ k ≤ S ∧ iv = .int .i64 (k : Int) ∧ wr.ownsRow B0 26 1 pl (k + 1) (u64L (uL k)) ∧ TreeB wr t mb (KF k 0 0) ∧ Grew w wr ∧ B0 ≤ wr.heap.size) (fun _ _ _ _ iv _ => S - (Go.RowKit.intOf iv).toNat)
 case atStart => exact ⟨0, _, rfl, rfl, rfl, rfl, Nat.zero_le _, rfl, HR9.out, HT9.out, HG9.out, HS9.out⟩
 case round =>
  clear HT9 HG9 HS9 HR9
  obtain ⟨k, pl, hpl, rfl, rfl, rfl, hk, rfl, hrow, TK, hg, hBw⟩ := hrel
  subst hpl
  by_cases hlt : k < S
  ·have hk7 : k < 7 := by have := HSPQ.out; omega
   have e1 : decide (k < S) = true := decide_eq_true hlt
   have e2 : IntKind.i64.wrap ((k : Int) + 1) = (k : Int) + 1 := IntWalk.i64_in _ (by omega)
   have e3 : IntKind.i64.wrap (10 * (k : Int) + 10) = 10 * (k : Int) + 10 := IntWalk.i64_in _ (by omega)
   have HLT := Lib.hid hlt
   have HK7 := Lib.hid hk7
   have HROW := Lib.hid hrow
   have HTK := Lib.hid TK
   have HGW := Lib.hid hg
   have HBW := Lib.hid hBw
   clear hlt hk hk7 hrow TK hg hBw
   go_wp2_with fail
   refine (lawB_ok ((k : Int) + 1) (fs k) (10 * (k : Int)) (10 * (k : Int) + 10) wr).mono ?_
   rintro e w5 ⟨rfl, g5⟩
   rw [show bbB ((k : Int) + 1) (fs k) (10 * (k : Int)) (10 * (k : Int) + 10) = stmB k from rfl]
   have CD := Lib.hid (fun W hW => bdig17 (stm_ok k HK7.out) (stm_dig k HK7.out) W hW)
   obtain ⟨w6, hw6, ht6, g6, z6⟩ := ltput_any w5 33 (#[.int .i64 0, .int .u64 0, .int .i64 0, .int .u64 0, .slice none 0 0, .int .i64 0, .int .i64 0, .slice none 0 0] : Array Value) (stmB k).z.C rfl
   have HW6 := Lib.hid hw6
   have HT6 := Lib.hid ht6
   have SIG : Hid ((Tryd.prog.info? 33).map (·.size) = some (stmB k).z.C.size) := Lib.hid nb_info
   have SIL : Hid ((Tryd.prog.info? 33).map (·.size) = some (stmB k).z.C.toList.length) := Lib.hid nb_info
   have HOG := Lib.hid (stmB k).z.one
   have g56 := grew_trans g5 g6
   have G6 := grew_trans HGW.out g56
   have CA := Lib.hid (addF_stem k HK7.out w6 (HS.out.grew G6) (HTK.out.gr g56))
   have HZ6 := Lib.hid z6
   have HG6 := Lib.hid G6
   have HG56 := Lib.hid g56
   have HW5 : Hid (B0 ≤ w5.heap.size) := Lib.hid (Nat.le_trans HBW.out g5.size)
   have HM6 : Hid (w6.rangeAt w5.heap.size 0 (stmB k).z.C.toList) := Lib.hid z6.cell
   clear hw6 ht6 z6 G6 g56 g5 g6
   go_wp2_with (first
    | (with_reducible refine wpList_store_mid rfl 33 (.tmp 16) (.tmp 61) rfl w5.heap.size 0 (stmB k).z.C rfl rfl HT6.out SIG.out HOG.out ?_; rw [HW6.out])
    | (with_reducible refine wpList_load_mid rfl 33 (.tmp 16) rfl w5.heap.size 0 rfl (stmB k).z.C.toList _ HM6.out hub rfl SIL.out ?_; simp only [Array.toArray_toList]))
   refine (CA.out).mono ?_
   rintro e w7 ⟨rfl, T7, k7⟩
   have hTl := HTL.out
   have hW5 := HW5.out
   have z7 := HZ6.out.kp k7 (fun e => by have e : w5.heap.size = mb := e; omega)
   have HM7 : Hid (w7.rangeAt w5.heap.size 0 (stmB k).z.C.toList) := Lib.hid z7.cell
   have G7 : Grew w w7 := below_kp HG6.out k7 HG6.out.size (fun i e => by have e' : i = mb := e; omega)
   have row7 := ownsRow_kp (ownsRow_gr HROW.out HG56.out) k7 (fun g h1 h2 => by have h2 : g = mb := h2; have := (ownsRow_lt HROW.out g h1).1; omega)
   have hs7 : B0 ≤ w7.heap.size := Nat.le_trans (Nat.le_trans HBW.out HG56.out.size) k7.size
   have HT7 : Hid (TreeB w7 t mb (KF (k + 1) 0 0)) := Lib.hid T7
   have HG7 := Lib.hid G7
   have HR7 := Lib.hid row7
   have HS7 := Lib.hid hs7
   clear CA HZ6 HG6 HG56 HW5 HM6 HW6 HT6 SIG HOG T7 k7 z7 G7 row7 hs7 hTl hW5 HTK HGW HROW HBW
   go_wp2_with (with_reducible refine wpList_load_mid rfl 33 (.tmp 16) rfl w5.heap.size 0 rfl (stmB k).z.C.toList _ HM7.out hub rfl SIL.out ?_; simp only [Array.toArray_toList])
   refine (CD.out w7 (HS.out.grew HG7.out)).mono ?_
   rintro e w8 ⟨rfl, g8⟩
   have HT8 := Lib.hid (HT7.out.gr g8)
   have HG8 := Lib.hid (grew_trans HG7.out g8)
   have HR8 := Lib.hid (ownsRow_gr HR7.out g8)
   have HS8 : Hid (B0 ≤ w8.heap.size) := Lib.hid (Nat.le_trans HS7.out g8.size)
   clear HT7 HG7 HR7 HS7 g8 CD HM7 SIL
   have hk7 := HK7.out
   have hs8 := HS8.out
   have hrow8 := HR8.out
   go_wp2_with (at_builtin; refine wpList_append_rd rfl (.tmp 70) (.tmp 72) 27 rfl B0 26 i0 (.int .u64 0) 8 Tryd.underlying27 hi hz0 hz1 hz2 rfl _ (k + 1) _ rfl (hrow8.alloc _) (w8.heap.size + 1) (some ⟨w8.heap.size, 0, none⟩) 1 1 [.int .u64 (fs (k + 1) : Nat)] rfl rfl (rd_new w8 26 #[.int .u64 (fs (k + 1) : Nat)] (0, 0)) (one_cell rfl) (by unfold maxLen; omega) (by omega) (by simp; omega) ?_; intro v' w9 hown9 hgr9 hob9)
   have ga := grew_alloc (grew_refl w8) (.cells #[.int .u64 (fs (k + 1) : Nat)] 26)
   have hown8 := ownsRow_lt HR8.out
   have k9 : Kp (fun i => B0 ≤ i) (w8.alloc (.cells #[.int .u64 (fs (k + 1) : Nat)] 26)) w9 := kp_grown (kp_refl _ _) hgr9 (fun g h => .inl (hown8 g h).1)
   have hTl := HTL.out
   have HT9 := Lib.hid ((HT8.out.gr ga).kp k9 (fun (h : B0 ≤ t) => by omega) (fun (h : B0 ≤ mb) => by omega))
   have HG9 : Hid (Grew w w9) := Lib.hid (below_kp (grew_alloc HG8.out _) k9 (by rw [alloc_size]; have := HG8.out.size; omega) (fun i (h : B0 ≤ i) => by omega))
   have HS9 : Hid (B0 ≤ w9.heap.size) := Lib.hid (Nat.le_trans hs8 (Nat.le_trans (by rw [alloc_size]; omega) k9.size))
   have HR9 : Hid (w9.ownsRow B0 26 1 v' (k + 1 + 1) (u64L (uL (k + 1)))) := Lib.hid (by rw [uL_snoc]; exact hown9)
   clear ga k9 hTl hown9 hgr9 hob9 HT8 HG8 HR8 HS8 hrow8 hown8 hs8
   go_roundw
   case rel => exact ⟨k + 1, _, rfl, rfl, i64_eqF (by omega), i64_eqF (by omega), HLT.out, i64_eqF (by omega), HR9.out, HT9.out, HG9.out, HS9.out⟩
   case measure => have := HLT.out; simp [Go.RowKit.intOf]; omega
  ·obtain rfl : k = S := by omega
   have e1 : decide (k < k) = false := by simp
   obtain ⟨UA, uc, rfl, hRd0, _, _⟩ := own_rd hrow
   clear hlt hk hRd0
   have HROW0 := Lib.hid hrow
   have HTK0 := Lib.hid TK
   have HGW0 := Lib.hid hg
   have HBW0 := Lib.hid hBw
   clear hrow TK hg hBw
   go_wp2_with fail
   go_loopw [17, 19, 21] (fun dv lv iv wr => ∃ (j : Nat), dv = .int .u64 (f1 k j : Nat) ∧ lv = .int .i64 (10 * (k : Int) + 3 * (j : Int)) ∧ j ≤ P ∧ iv = .int .i64 (j : Int) ∧ wr.ownsRow B0 26 1 (.slice UA (k + 1) uc) (k + 1) (u64L (uL k)) ∧ TreeB wr t mb (KF k j 0) ∧ Grew w wr ∧ B0 ≤ wr.heap.size) (fun _ _ iv _ => P - (Go.RowKit.intOf iv).toNat)
   case atStart => exact ⟨0, u64_eqF (f1_zero k HSPQ.out.1).symm, i64_eqF (by omega), Nat.zero_le _, rfl, HROW0.out, HTK0.out, HGW0.out, HBW0.out⟩
   case round =>
    clear HROW0 HTK0 HGW0 HBW0
    obtain ⟨j, rfl, rfl, hj, rfl, hrow, TK, hg, hBw⟩ := hrel
    by_cases hlt : j < P
    ·have hj6 : j < 6 := by have := HSPQ.out; omega
     have e1 : decide (j < P) = true := decide_eq_true hlt
     have hk8 := HSPQ.out.1
     have e2 : IntKind.i64.wrap ((j : Int) + 1) = (j : Int) + 1 := IntWalk.i64_in _ (by omega)
     have e3 : IntKind.i64.wrap ((k : Int) + 1) = (k : Int) + 1 := IntWalk.i64_in _ (by omega)
     have e4 : IntKind.i64.wrap (2 * (j : Int)) = 2 * (j : Int) := IntWalk.i64_in _ (by omega)
     have e5 : IntKind.i64.wrap ((k : Int) + 1 + 2 * (j : Int)) = (k : Int) + 1 + 2 * (j : Int) := IntWalk.i64_in _ (by omega)
     have e6 : IntKind.i64.wrap (10 * (k : Int) + 3 * (j : Int) + 3) = 10 * (k : Int) + 3 * (j : Int) + 3 := IntWalk.i64_in _ (by omega)
     have HLT := Lib.hid hlt
     have HJ6 := Lib.hid hj6
     have HROW := Lib.hid hrow
     have HTK := Lib.hid TK
     have HGW := Lib.hid hg
     have HBW := Lib.hid hBw
     clear hlt hj hj6 hk8 hrow TK hg hBw
     go_wp2_with fail
     refine (lawB_ok ((k : Int) + 1 + 2 * (j : Int)) (f1 k j) (10 * (k : Int) + 3 * (j : Int)) (10 * (k : Int) + 3 * (j : Int) + 3) wr).mono ?_
     rintro e w5 ⟨rfl, g5⟩
     rw [show bbB ((k : Int) + 1 + 2 * (j : Int)) (f1 k j) (10 * (k : Int) + 3 * (j : Int)) (10 * (k : Int) + 3 * (j : Int) + 3) = oneB k j from rfl]
     have CD := Lib.hid (fun W hW => bdig17 (oneQ_ok k j HSPQ.out.1 HJ6.out) (oneQ_dig k j HSPQ.out.1 HJ6.out) W hW)
     obtain ⟨w6, hw6, ht6, g6, z6⟩ := ltput_any w5 33 (#[.int .i64 0, .int .u64 0, .int .i64 0, .int .u64 0, .slice none 0 0, .int .i64 0, .int .i64 0, .slice none 0 0] : Array Value) (oneB k j).z.C rfl
     have HW6 := Lib.hid hw6
     have HT6 := Lib.hid ht6
     have SIG : Hid ((Tryd.prog.info? 33).map (·.size) = some (oneB k j).z.C.size) := Lib.hid nb_info
     have SIL : Hid ((Tryd.prog.info? 33).map (·.size) = some (oneB k j).z.C.toList.length) := Lib.hid nb_info
     have HOG := Lib.hid (oneB k j).z.one
     have g56 := grew_trans g5 g6
     have G6 := grew_trans HGW.out g56
     have CA := Lib.hid (addF_one k j HSPQ.out.1 HJ6.out w6 (HS.out.grew G6) (HTK.out.gr g56))
     have HZ6 := Lib.hid z6
     have HG6 := Lib.hid G6
     have HG56 := Lib.hid g56
     have HW5 : Hid (B0 ≤ w5.heap.size) := Lib.hid (Nat.le_trans HBW.out g5.size)
     have HM6 : Hid (w6.rangeAt w5.heap.size 0 (oneB k j).z.C.toList) := Lib.hid z6.cell
     clear hw6 ht6 z6 G6 g56 g5 g6
     go_wp2_with (first
      | (with_reducible refine wpList_store_mid rfl 33 (.tmp 22) (.tmp 92) rfl w5.heap.size 0 (oneB k j).z.C rfl rfl HT6.out SIG.out HOG.out ?_; rw [HW6.out])
      | (with_reducible refine wpList_load_mid rfl 33 (.tmp 22) rfl w5.heap.size 0 rfl (oneB k j).z.C.toList _ HM6.out hub rfl SIL.out ?_; simp only [Array.toArray_toList]))
     refine (CA.out).mono ?_
     rintro e w7 ⟨rfl, T7, k7⟩
     have hTl := HTL.out
     have hW5 := HW5.out
     have z7 := HZ6.out.kp k7 (fun e => by have e : w5.heap.size = mb := e; omega)
     have HM7 : Hid (w7.rangeAt w5.heap.size 0 (oneB k j).z.C.toList) := Lib.hid z7.cell
     have G7 : Grew w w7 := below_kp HG6.out k7 HG6.out.size (fun i e => by have e' : i = mb := e; omega)
     have row7 := ownsRow_kp (ownsRow_gr HROW.out HG56.out) k7 (fun g h1 h2 => by have h2 : g = mb := h2; have := (ownsRow_lt HROW.out g h1).1; omega)
     have hs7 : B0 ≤ w7.heap.size := Nat.le_trans (Nat.le_trans HBW.out HG56.out.size) k7.size
     have HT7 : Hid (TreeB w7 t mb (KF k (j + 1) 0)) := Lib.hid T7
     have HG7 := Lib.hid G7
     have HR7 := Lib.hid row7
     have HS7 := Lib.hid hs7
     clear CA HZ6 HG6 HG56 HW5 HM6 HW6 HT6 SIG HOG T7 k7 z7 G7 row7 hs7 hTl hW5 HTK HGW HROW HBW
     go_wp2_with (with_reducible refine wpList_load_mid rfl 33 (.tmp 22) rfl w5.heap.size 0 rfl (oneB k j).z.C.toList _ HM7.out hub rfl SIL.out ?_; simp only [Array.toArray_toList])
     refine (CD.out w7 (HS.out.grew HG7.out)).mono ?_
     rintro e w8 ⟨rfl, g8⟩
     have HT8 := Lib.hid (HT7.out.gr g8)
     have HG8 := Lib.hid (grew_trans HG7.out g8)
     have HR8 := Lib.hid (ownsRow_gr HR7.out g8)
     have HS8 : Hid (B0 ≤ w8.heap.size) := Lib.hid (Nat.le_trans HS7.out g8.size)
     clear HT7 HG7 HR7 HS7 g8 CD HM7 SIL
     go_wp2_with fail
     go_roundw
     case rel => exact ⟨j + 1, rfl, i64_eqF (by omega), HLT.out, i64_eqF (by omega), HR8.out, HT8.out, HG8.out, HS8.out⟩
     case measure => have := HLT.out; simp [Go.RowKit.intOf]; omega
    ·obtain rfl : j = P := by omega
     have e1 : decide (j < j) = false := by simp
     have HROW0 := Lib.hid hrow
     have HTK0 := Lib.hid TK
     have HGW0 := Lib.hid hg
     have HBW0 := Lib.hid hBw
     clear hlt hj hrow TK hg hBw
     go_wp2_with fail
     go_loopw [18, 20, 23] (fun dv lv iv wr => ∃ (q : Nat), dv = .int .u64 (f2 k q : Nat) ∧ lv = .int .i64 (10 * (k : Int) + 4 * (q : Int)) ∧ q ≤ Q ∧ iv = .int .i64 (q : Int) ∧ wr.ownsRow B0 26 1 (.slice UA (k + 1) uc) (k + 1) (u64L (uL k)) ∧ TreeB wr t mb (KF k j q) ∧ Grew w wr ∧ B0 ≤ wr.heap.size) (fun _ _ iv _ => Q - (Go.RowKit.intOf iv).toNat)
     case atStart => exact ⟨0, u64_eqF (f2_zero k HSPQ.out.1).symm, i64_eqF (by omega), Nat.zero_le _, rfl, HROW0.out, HTK0.out, HGW0.out, HBW0.out⟩
     case round =>
      clear HROW0 HTK0 HGW0 HBW0
      obtain ⟨q, rfl, rfl, hq, rfl, hrow, TK, hg, hBw⟩ := hrel
      by_cases hlt : q < Q
      ·have hq6 : q < 6 := by have := HSPQ.out; omega
       have e1 : decide (q < Q) = true := decide_eq_true hlt
       have hk8 := HSPQ.out.1
       have e2 : IntKind.i64.wrap ((q : Int) + 1) = (q : Int) + 1 := IntWalk.i64_in _ (by omega)
       have e3 : IntKind.i64.wrap ((k : Int) + 2) = (k : Int) + 2 := IntWalk.i64_in _ (by omega)
       have e4 : IntKind.i64.wrap (2 * (q : Int)) = 2 * (q : Int) := IntWalk.i64_in _ (by omega)
       have e5 : IntKind.i64.wrap ((k : Int) + 2 + 2 * (q : Int)) = (k : Int) + 2 + 2 * (q : Int) := IntWalk.i64_in _ (by omega)
       have e6 : IntKind.i64.wrap (10 * (k : Int) + 4 * (q : Int) + 4) = 10 * (k : Int) + 4 * (q : Int) + 4 := IntWalk.i64_in _ (by omega)
       have HLT := Lib.hid hlt
       have HJ6 := Lib.hid hq6
       have HROW := Lib.hid hrow
       have HTK := Lib.hid TK
       have HGW := Lib.hid hg
       have HBW := Lib.hid hBw
       clear hlt hq hq6 hk8 hrow TK hg hBw
       go_wp2_with fail
       refine (lawB_ok ((k : Int) + 2 + 2 * (q : Int)) (f2 k q) (10 * (k : Int) + 4 * (q : Int)) (10 * (k : Int) + 4 * (q : Int) + 4) wr).mono ?_
       rintro e w5 ⟨rfl, g5⟩
       rw [show bbB ((k : Int) + 2 + 2 * (q : Int)) (f2 k q) (10 * (k : Int) + 4 * (q : Int)) (10 * (k : Int) + 4 * (q : Int) + 4) = twoB k q from rfl]
       have CD := Lib.hid (fun W hW => bdig17 (twoQ_ok k q HSPQ.out.1 HJ6.out) (twoQ_dig k q HSPQ.out.1 HJ6.out) W hW)
       obtain ⟨w6, hw6, ht6, g6, z6⟩ := ltput_any w5 33 (#[.int .i64 0, .int .u64 0, .int .i64 0, .int .u64 0, .slice none 0 0, .int .i64 0, .int .i64 0, .slice none 0 0] : Array Value) (twoB k q).z.C rfl
       have HW6 := Lib.hid hw6
       have HT6 := Lib.hid ht6
       have SIG : Hid ((Tryd.prog.info? 33).map (·.size) = some (twoB k q).z.C.size) := Lib.hid nb_info
       have SIL : Hid ((Tryd.prog.info? 33).map (·.size) = some (twoB k q).z.C.toList.length) := Lib.hid nb_info
       have HOG := Lib.hid (twoB k q).z.one
       have g56 := grew_trans g5 g6
       have G6 := grew_trans HGW.out g56
       have CA := Lib.hid (addF_two k j q HSPQ.out.1 HSPQ.out.2.2.1 HJ6.out w6 (HS.out.grew G6) (HTK.out.gr g56))
       have HZ6 := Lib.hid z6
       have HG6 := Lib.hid G6
       have HG56 := Lib.hid g56
       have HW5 : Hid (B0 ≤ w5.heap.size) := Lib.hid (Nat.le_trans HBW.out g5.size)
       have HM6 : Hid (w6.rangeAt w5.heap.size 0 (twoB k q).z.C.toList) := Lib.hid z6.cell
       clear hw6 ht6 z6 G6 g56 g5 g6
       go_wp2_with (first
        | (with_reducible refine wpList_store_mid rfl 33 (.tmp 24) (.tmp 115) rfl w5.heap.size 0 (twoB k q).z.C rfl rfl HT6.out SIG.out HOG.out ?_; rw [HW6.out])
        | (with_reducible refine wpList_load_mid rfl 33 (.tmp 24) rfl w5.heap.size 0 rfl (twoB k q).z.C.toList _ HM6.out hub rfl SIL.out ?_; simp only [Array.toArray_toList]))
       refine (CA.out).mono ?_
       rintro e w7 ⟨rfl, T7, k7⟩
       have hTl := HTL.out
       have hW5 := HW5.out
       have z7 := HZ6.out.kp k7 (fun e => by have e : w5.heap.size = mb := e; omega)
       have HM7 : Hid (w7.rangeAt w5.heap.size 0 (twoB k q).z.C.toList) := Lib.hid z7.cell
       have G7 : Grew w w7 := below_kp HG6.out k7 HG6.out.size (fun i e => by have e' : i = mb := e; omega)
       have row7 := ownsRow_kp (ownsRow_gr HROW.out HG56.out) k7 (fun g h1 h2 => by have h2 : g = mb := h2; have := (ownsRow_lt HROW.out g h1).1; omega)
       have hs7 : B0 ≤ w7.heap.size := Nat.le_trans (Nat.le_trans HBW.out HG56.out.size) k7.size
       have HT7 : Hid (TreeB w7 t mb (KF k j (q + 1))) := Lib.hid T7
       have HG7 := Lib.hid G7
       have HR7 := Lib.hid row7
       have HS7 := Lib.hid hs7
       clear CA HZ6 HG6 HG56 HW5 HM6 HW6 HT6 SIG HOG T7 k7 z7 G7 row7 hs7 hTl hW5 HTK HGW HROW HBW
       go_wp2_with (with_reducible refine wpList_load_mid rfl 33 (.tmp 24) rfl w5.heap.size 0 rfl (twoB k q).z.C.toList _ HM7.out hub rfl SIL.out ?_; simp only [Array.toArray_toList])
       refine (CD.out w7 (HS.out.grew HG7.out)).mono ?_
       rintro e w8 ⟨rfl, g8⟩
       have HT8 := Lib.hid (HT7.out.gr g8)
       have HG8 := Lib.hid (grew_trans HG7.out g8)
       have HR8 := Lib.hid (ownsRow_gr HR7.out g8)
       have HS8 : Hid (B0 ≤ w8.heap.size) := Lib.hid (Nat.le_trans HS7.out g8.size)
       clear HT7 HG7 HR7 HS7 g8 CD HM7 SIL
       go_wp2_with fail
       go_roundw
       case rel => exact ⟨q + 1, rfl, i64_eqF (by omega), HLT.out, i64_eqF (by omega), HR8.out, HT8.out, HG8.out, HS8.out⟩
       case measure => have := HLT.out; simp [Go.RowKit.intOf]; omega
      ·obtain rfl : q = Q := by omega
       have e1 : decide (q < q) = false := by simp
       have hx := HSPQ.out
       obtain ⟨_, _, hs0, _, hlen, hRd⟩ := own_rd hrow
       injection hs0 with hs1 hs2 hs3
       subst hs1
       subst hs3
       obtain ⟨ad, rfl, hab, _⟩ := rd_u64 hRd 0 (by rw [uL_len]; omega)
       have HCU : Hid (∀ i, i < k + 1 → wr.cell? (ad.add i) = some (.int .u64 (fs i : Nat))) := Lib.hid (fun i hi => by
        obtain ⟨ad2, e, _, h⟩ := rd_u64 hRd i (by rw [uL_len]; exact hi)
        injection e with e
        subst e
        rwa [uL_get] at h)
       have HAB := Lib.hid hab
       have E12 := Lib.hid (fun W (h : TreeB W t mb (KF k j q)) => extF_12 hx.1 hx.2.1 hx.2.2.1 hx.2.2.2.1 hx.2.2.2.2 W h)
       have E21 := Lib.hid (fun W (h : TreeB W t mb (KF k j q)) => extF_21 hx.1 hx.2.1 hx.2.2.1 hx.2.2.2.1 hx.2.2.2.2 W h)
       have E1 := Lib.hid (fun i hi W (h : TreeB W t mb (KF k j q)) => extF_1 hx.1 hx.2.1 hx.2.2.1 hx.2.2.2.1 hx.2.2.2.2 i hi W h)
       have E2 := Lib.hid (fun i hi W (h : TreeB W t mb (KF k j q)) => extF_2 hx.1 hx.2.1 hx.2.2.1 hx.2.2.2.1 hx.2.2.2.2 i hi W h)
       have EL := Lib.hid (fun W (h : TreeB W t mb (KF k j q)) => lenF hx.1 hx.2.1 hx.2.2.1 hx.2.2.2.1 hx.2.2.2.2 W h)
       have P1 := Lib.hid (fun W (h : TreeB W t mb (KF k j q)) => pathF_1 hx.1 hx.2.1 hx.2.2.1 hx.2.2.2.1 hx.2.2.2.2 W h)
       have P2 := Lib.hid (fun W (h : TreeB W t mb (KF k j q)) => pathF_2 hx.1 hx.2.1 hx.2.2.1 hx.2.2.2.1 hx.2.2.2.2 W h)
       have M1 := Lib.hid (fun W (h : TreeB W t mb (KF k j q)) => comF_1 hx.1 hx.2.1 hx.2.2.1 hx.2.2.2.1 hx.2.2.2.2 W h)
       have M2 := Lib.hid (fun W (h : TreeB W t mb (KF k j q)) => comF_2 hx.1 hx.2.1 hx.2.2.1 hx.2.2.2.1 hx.2.2.2.2 W h)
       have HTK := Lib.hid TK
       have HG0 := Lib.hid hg
       have HGX : Hid (Grew wr wr) := Lib.hid (grew_refl wr)
       have f1 : IntKind.i64.wrap (1 + (k : Int)) = 1 + (k : Int) := IntWalk.i64_in _ (by omega)
       have f2 : IntKind.i64.wrap (1 + (k : Int) + (j : Int)) = 1 + (k : Int) + (j : Int) := IntWalk.i64_in _ (by omega)
       have f3 : IntKind.i64.wrap (1 + (k : Int) + (j : Int) + (q : Int)) = 1 + (k : Int) + (j : Int) + (q : Int) := IntWalk.i64_in _ (by omega)
       have f4 : IntKind.i64.wrap (1 + (k : Int) + (q : Int)) = 1 + (k : Int) + (q : Int) := IntWalk.i64_in _ (by omega)
       clear hlt hq hrow TK hg hBw hlen hRd hab
       go_wp2_with fail
       refine (E12.out wr HTK.out).mono ?_
       rintro e wa ⟨rfl, ga⟩
       have HA := Lib.hid ga
       clear ga
       go_wp2_with fail
       refine (E21.out wa (HTK.out.gr HA.out)).mono ?_
       rintro e wb ⟨rfl, gb⟩
       have HB := Lib.hid (grew_trans HA.out gb)
       clear gb HA
       go_wp2_with fail
       refine (EL.out wb (HTK.out.gr HB.out)).mono ?_
       rintro e wc ⟨rfl, gc⟩
       have HC := Lib.hid (grew_trans HB.out gc)
       clear gc HB
       go_wp2_with fail
       refine (P1.out wc (HTK.out.gr HC.out)).mono ?_
       rintro e wd ⟨PB, pc, rfl, gd⟩
       have HD := Lib.hid (grew_trans HC.out gd)
       clear gd HC
       have f6 : (((1 + k + j : Nat) : Int) != 1 + (k : Int) + (j : Int)) = false := by simp
       go_wp2_with fail
       refine (P2.out wd (HTK.out.gr HD.out)).mono ?_
       rintro e we ⟨PB2, pc2, rfl, ge⟩
       have HE := Lib.hid (grew_trans HD.out ge)
       clear ge HD
       go_wp2_with fail
       have HLK : Hid (k ≤ 7) := Lib.hid (by omega)
       have HTE := Lib.hid (HTK.out.gr HE.out)
       have HGE := Lib.hid (grew_trans HG0.out HE.out)
       have HCE : Hid (∀ i, i < k + 1 → we.cell? (ad.add i) = some (.int .u64 (fs i : Nat))) := Lib.hid (fun i hi => cellA_gr (HCU.out i hi) (by rw [addr_block]; exact HAB.out) HE.out)
       have HBE : Hid (ad.block < we.heap.size) := Lib.hid (Nat.lt_of_lt_of_le HAB.out HE.out.size)
       clear hx HTK HG0 HGX HE HCU HAB E12 E21 EL P1 P2
       go_loopw [25] (fun iv wr => ∃ i : Nat, i ≤ k + 1 ∧ iv = .int .i64 (i : Int) ∧ Grew we wr) (fun iv _ => k + 1 - (Go.RowKit.intOf iv).toNat)
       case atStart => exact ⟨0, Nat.zero_le _, rfl, grew_refl _⟩
       case round =>
        obtain ⟨i, hik, rfl, hge⟩ := hrel
        by_cases hlt : i < k + 1
        ·have e1 : decide (i < k + 1) = true := decide_eq_true hlt
         have e2 : IntKind.i64.wrap ((i : Int) + 1) = ((i + 1 : Nat) : Int) := by have := HLK.out; rw [IntWalk.i64_in _ (by omega)]; omega
         have hi0 : (0 : Int) ≤ (i : Int) := by omega
         have hi1 : (i : Int) < ((k + 1 : Nat) : Int) := by omega
         have hc := cellA_gr (HCE.out i hlt) (by rw [addr_block]; exact HBE.out) hge
         have HLT := Lib.hid hlt
         have HGE2 := Lib.hid hge
         clear hlt hik
         go_wp2_with fail
         refine (E1.out i (Nat.le_of_lt_succ HLT.out) wr (HTE.out.gr HGE2.out)).mono ?_
         rintro e wg ⟨rfl, gg⟩
         have hge3 := grew_trans HGE2.out gg
         have hc3 := cellA_gr (HCE.out i HLT.out) (by rw [addr_block]; exact HBE.out) hge3
         have HGE3 := Lib.hid hge3
         clear hge3 gg hc hge
         go_wp2_with fail
         refine (E2.out i (Nat.le_of_lt_succ HLT.out) wg (HTE.out.gr HGE3.out)).mono ?_
         rintro e wh ⟨rfl, gh⟩
         have HGE4 := Lib.hid (grew_trans HGE3.out gh)
         clear gh hc3
         go_wp2_with fail
         go_roundw
         case rel => exact ⟨i + 1, HLT.out, by go_num, HGE4.out⟩
         case measure => have := HLT.out; simp [Go.RowKit.intOf]; omega
        ·obtain rfl : i = k + 1 := by omega
         have e1 : decide (k + 1 < k + 1) = false := by simp
         have HTR := Lib.hid (HTE.out.gr hge)
         have HGR := Lib.hid (grew_trans HGE.out hge)
         clear hlt hik hge HTE HGE HCE HBE E1 E2
         go_wp2_with fail
         refine (M1.out wr HTR.out).mono ?_
         rintro e wg ⟨v1, rfl, gg⟩
         have HTG := Lib.hid (HTR.out.gr gg)
         have HGG := Lib.hid (grew_trans HGR.out gg)
         clear gg HTR HGR M1
         obtain ⟨zb, hzb⟩ : ∃ b, decide (j = 1 ∧ 2 ≤ k) = b := ⟨_, rfl⟩
         rw [hzb]
         have HZB := Lib.hid hzb
         clear hzb
         go_wp2_with fail
         refine (M2.out wg HTG.out).mono ?_
         rintro e wh ⟨v2, rfl, gh⟩
         have HGH := Lib.hid (grew_trans HGG.out gh)
         clear gh HTG HGG M2
         by_cases hj1 : j = 1
         ·have b1 : ((j : Int) == 1) = true := by simp [hj1]
          by_cases hk2 : 2 ≤ k
          ·have b2 : decide ((2 : Int) ≤ (k : Int)) = true := decide_eq_true (by omega)
           obtain rfl : zb = true := by rw [← HZB.out]; exact decide_eq_true ⟨hj1, hk2⟩
           clear hj1 hk2
           go_wp2_with fail
           go_ret
           exact ⟨rfl, HGH.out⟩
          ·have b2 : decide ((2 : Int) ≤ (k : Int)) = false := decide_eq_false (by omega)
           obtain rfl : zb = false := by rw [← HZB.out]; exact decide_eq_false (fun h => hk2 h.2)
           clear hj1 hk2
           go_wp2_with fail
           go_ret
           exact ⟨rfl, HGH.out⟩
         ·have b1 : ((j : Int) == 1) = false := by simp; omega
          obtain rfl : zb = false := by rw [← HZB.out]; exact decide_eq_false (fun h => hj1 h.1)
          clear hj1
          go_wp2_with fail
          go_ret
          exact ⟨rfl, HGH.out⟩
end Go.Proofs.YtbohmmcmlabcdaaDoor
