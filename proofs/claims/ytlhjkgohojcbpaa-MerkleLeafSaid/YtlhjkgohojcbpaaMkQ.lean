/- The statements of layer 4: MerkleLeaf. -/
import Derived.Test.YtlhjkgohojcbpaaMkN
import Derived.Deep.QuietTactic
import Derived.BigQuiet
import Derived.IntWalk
namespace Go.Proofs.Ytlhjkgohojcbpaa
open Go.RowKit
set_option linter.unusedVariables false
set_option maxRecDepth 100000 in
set_option maxHeartbeats 1600000 in
theorem bk_rd {w : World} {g : Nat} {t : TypeId} {cur : Array Value} {n : Nat} {xs : List Value} (h : Bk w g t cur) (hx : cur.toList.take n = xs) : Rd w w.heap.size (some ⟨g, 0, none⟩) xs := by
  intro k hk
  subst hx
  have hk2 : k < cur.size := by simp at hk; omega
  refine ⟨_, rfl, h.lt, ?_⟩
  have ha : (⟨g, 0, none⟩ : Addr).add k = ⟨g, k, none⟩ := by
    unfold Addr.add
    split
    · rename_i h0; subst h0; rfl
    · simp
  rw [ha, h.cell, Array.getElem?_eq_getElem hk2]
  simp
theorem own_open {w : World} {base : Nat} {e : TypeId} {n g cap : Nat} {xs : List Value} (h : w.ownsRow base e 1 (.slice (some ⟨g, 0, none⟩) n cap) n xs) : base ≤ g ∧ ∃ cur, Bk w g e cur ∧ n ≤ cap ∧ cur.size = cap ∧ cur.toList.take n = xs := by
  obtain ⟨_, hq | ⟨g2, cap2, cur, hq, hg2, hbk, hk2, _, hcs, htk⟩⟩ := h
  · cases hq.1
  · injection hq with hq1 hq2 hq3
    injection hq1 with hq1
    injection hq1 with hq1
    subst hq1 hq3
    exact ⟨hg2, cur, hbk, hk2, by rw [hcs, Nat.mul_one], by rw [← htk, Nat.mul_one]⟩
theorem merkleLeaf_law (s : Nat) (ht at_ : Int) (x : Nat) (w : World) (hs : s < 18446744073709551616) (hx : x < 18446744073709551616) (h0 : 0 ≤ ht ∧ ht ≤ 255) (ha : 0 ≤ at_ ∧ at_ ≤ 255) :
    Calls Try.prog 12 #[.int .u64 s, .int .u8 ht, .int .u8 at_, .int .u64 x] w fun e w' => e = .returned (.bool true) ∧ Grew w w' := by
  obtain ⟨i0, hi0, hz0, hz1, hz2⟩ := info_parts infoD
  obtain ⟨ho, hh⟩ : ∃ ho : Nat, ht % 7 = ho := ⟨(ht % 7).toNat, by omega⟩
  have hh8 : ho ≤ 8 := by omega
  obtain ⟨n, hn⟩ : ∃ n : Nat, 2 ^ ho = n := ⟨_, rfl⟩
  have hn2 := pow_nat8 ho hh8
  have hok := leavesOk_pow ho hh8
  rw [hn] at hn2 hok
  have hpw : wrap64 (2 ^ ho) = (n : Int) := by
    have : (2 : Int) ^ ho = (n : Int) := by rw [← hn]; simp
    rw [this]; unfold wrap64; omega
  have HOK := Lib.hid hok
  have HN := Lib.hid hn
  clear hok hn
  have hn0 : (0 : Int) < (n : Int) := by omega
  go_enter Try.func12, Try.ntmps12
  go_wp2_with (refine (mkknown_any _).mono ?_; rintro e w1 ⟨rfl, hb1⟩)
  rw [hpw, hh]
  have HH := Lib.hid hh
  have HPW := Lib.hid hpw
  clear hh hpw
  go_loopw [10, 11] (fun pv iv wr => ∃ (k : Nat) (p : Value), p = pv ∧ k ≤ n ∧ iv = .int .i64 k ∧ wr.ownsRow w1.heap.size 24 1 p k (u64L (leafL s k)) ∧ Grew w1 wr) (fun _ iv _ => n - (intOf iv).toNat)
  case atStart => exact ⟨0, _, rfl, Nat.zero_le _, rfl, World.ownsRow_nil _ _ _ _, Below.refl _ _⟩
  case round =>
    obtain ⟨k, p, hp, hk, rfl, hown, hbw⟩ := hrel
    subst hp
    by_cases hlt : k < n
    · have hzs := hbw.size
      have HA := Lib.hid (leafL_succ s k)
      have C := two_any ⟨#[120]⟩ (s : Int) (k : Int) (by decide) (u64_nat hs) ⟨by omega, by omega⟩
      rw [Int.toNat_natCast, Int.toNat_natCast, show (⟨#[120]⟩ : ByteArray).data.toList = tagX from rfl] at C
      have C2 := Lib.hid C
      clear C
      generalize twoN tagX s k = z at *
      go_wp2_with fail
      refine (C2.out _).mono ?_
      rintro e w' ⟨rfl, rfl⟩
      go_wp2_with (at_builtin; refine wpList_append_lies _ rfl _ _ _ rfl w1.heap.size 24 i0 _ 1 8 Try.underlying56 hi0 hz0 hz1 hz2 rfl (by omega) p k (u64L (leafL s k)) rfl (hown.alloc _) ⟨wr.heap.size, 0, none⟩ 1 1 [.int .u64 (z : Int)] rfl rfl (World.news_of_block (cs := #[.int .u64 (z : Int)]) (t := 24) (fr := (0, 0)) (heap_alloc_new wr _)) (by simp [Value.oneCell']) (by omega) (by unfold maxLen; omega) (by omega) (by simp; omega) (wr.heap.size + 1) (by simp) ?_; intro gg cap w2 hown2 hgrow hat hlt2)
      have hb2 : Grew w1 w2 := (hbw.alloc hzs _).grown hgrow (by simp; omega) (fun g hg => own_base hown _ hg)
      go_wp2_with fail
      go_roundw
      case rel => exact ⟨k + 1, _, rfl, by omega, by go_num, by rw [HA.out, show u64L (leafL s k ++ [z]) = u64L (leafL s k) ++ [.int .u64 (z : Int)] by simp [u64L]]; exact hown2, hb2⟩
      case measure => simp [intOf]; omega
    · obtain rfl : k = n := by omega
      obtain ⟨A3, c3, rfl, hn1, hn3, hrd⟩ := own_rd hown
      have hll := leafL_length s k
      have hlb := leafL_lt s k
      obtain ⟨l, hl⟩ : ∃ l, leafL s k = l := ⟨_, rfl⟩
      rw [hl] at hrd hll hlb
      obtain ⟨ad, rfl, hbl, hc0⟩ := rd_u64 hrd 0 (by omega)
      have HR := Lib.hid hrd
      have HB := Lib.hid hlb
      clear hlb hrd hown hl hc0
      obtain ⟨i, hi⟩ : ∃ i : Nat, at_ % (k : Int) = i := ⟨(at_ % (k : Int)).toNat, by have := Int.emod_nonneg at_ (show (k : Int) ≠ 0 by omega); omega⟩
      have hilt : i < k := by have := Int.emod_lt_of_pos at_ hn0; omega
      have T3 := fun W h1 h2 h3 h4 => root_ok (some ad) c3 wr.heap.size l h1 h2 HB.out W h3 h4
      have T4 := fun W h0 h1 h2 h3 h4 => path_ok (some ad) c3 wr.heap.size l i h0 h1 h2 HB.out W h3 h4
      rw [hll] at T3 T4
      have T3 := Lib.hid T3
      have T4 := Lib.hid T4
      go_wp2_with fail
      refine (T3.out _ (by omega) HOK.out HR.out (Nat.le_refl _)).mono ?_
      rintro e w3 ⟨rfl, hb3⟩
      have HR3 := Lib.hid (HR.out.below hb3)
      try rw [hi]
      have HI := Lib.hid hi
      clear hi
      go_wp2_with fail
      refine (T4.out _ hilt (by omega) HOK.out HR3.out hb3.size).mono ?_
      rintro e w4 ⟨Ap, cp, rfl, hrp, _, hb4⟩
      have hb34 := grew_trans hb3 hb4
      have HR4 := Lib.hid (HR.out.below hb34)
      have hbb : Grew w w4 := grew_trans hb1 (grew_trans hbw hb34)
      have hP := path_pow ho hh8 l i (by rw [hll]; exact HN.out.symm) (by omega)
      have hCS := climb_set ho hh8 l i x (by rw [hll]; exact HN.out.symm) (by omega)
      have hPl := pathN_lt l i HB.out
      have hR := rootN_lt l HB.out
      have hSl : ∀ n ∈ l.set i x, n < 18446744073709551616 := by
        intro n hn
        rcases List.mem_or_eq_of_mem_set hn with h' | h'
        · exact HB.out n h'
        · rw [h']; exact hx
      have hS := rootN_lt (l.set i x) hSl
      have hnews : ∀ (j : Nat) (u : Value), (u64L l)[j]? = some u → (w4.alloc (.cells #[] 24)).cell? (ad.add j) = some u := by
        intro j u hj
        obtain ⟨hj1, hj2⟩ := List.getElem?_eq_some_iff.1 hj
        obtain ⟨ad', had', hb', hc'⟩ := HR4.out j hj1
        injection had' with had'
        subst had'
        have := hb34.size
        rw [World.cell?_alloc_lt w4 _ _ (by rw [blk_add]; omega), hc', hj2]
      have hone : ∀ u ∈ u64L l, u.oneCell' = true := by
        intro u hu
        obtain ⟨n, _, rfl⟩ := List.mem_map.1 hu
        rfl
      have hmade : (w4.alloc (.cells #[] 24)).ownsRow w.heap.size 24 1 (.slice (some ⟨w4.heap.size, 0, none⟩) 0 0) 0 [] := World.ownsRow_made w4 #[] 0 hbb.size (by decide) rfl
      have HNW := Lib.hid hnews
      have HON := Lib.hid hone
      have hzb := hbb.size
      clear hnews hone
      go_wp2_with (at_builtin; refine wpList_append_lies _ rfl _ _ _ rfl w.heap.size 24 i0 _ 1 8 Try.underlying56 hi0 hz0 hz1 hz2 rfl (by omega) _ 0 [] rfl hmade ad k c3 (u64L l) rfl (by rw [u64L_length, hll]; omega) HNW.out HON.out (by omega) (by unfold maxLen; omega) (by omega) (by simp; omega) (w4.heap.size + 1) (by simp) ?_; intro gg cap w5 hown2 hgrow hat hlt2; simp only [Nat.zero_add, List.nil_append] at hown2; obtain ⟨hgw, cur, hbk, hkc, hcs, htk⟩ := own_open hown2; have hicur : i < cur.size := (by omega); have hci : w5.cell? ⟨gg, i, none⟩ = some cur[i] := (by rw [hbk.cell, Array.getElem?_eq_getElem hicur]); have hfi := hbk.frozen i; have HTK := Lib.hid htk; have HCS := Lib.hid hcs; clear htk hcs)
      have hb5 : Grew w w5 := (hbb.alloc hzb _).grown hgrow (by simp; omega) (fun g hg => by have h' : some w4.heap.size = some g := hg; injection h' with h'; omega)
      have hb45 : Grew w4 w5 := ((Below.refl _ _).alloc (Nat.le_refl _) _).grown hgrow (by simp) (fun g hg => by have h' : some w4.heap.size = some g := hg; injection h' with h'; omega)
      have hrp5 := hrp.below hb45
      have hgw4 : w4.heap.size ≤ gg := by
        rcases hat with h' | h'
        · have h'' : some w4.heap.size = some gg := h'; injection h'' with h''; omega
        · omega
      have hbs := hbk.set_ i (.int .u64 (x : Int))
      have hrs : Rd (w5.setCell ⟨gg, i, none⟩ (.int .u64 (x : Int))) (w5.setCell ⟨gg, i, none⟩ (.int .u64 (x : Int))).heap.size (some ⟨gg, 0, none⟩) (u64L (l.set i x)) := by
        refine bk_rd (n := k) hbs ?_
        rw [Array.toList_setIfInBounds, List.take_set, HTK.out]
        simp [u64L, List.map_set]
      have hrp6 := hrp5.setCell (p := ⟨gg, i, none⟩) hgw4 (.int .u64 (x : Int))
      have hb6 := hb5.setCell (p := ⟨gg, i, none⟩) hgw (.int .u64 (x : Int))
      have hz6 : w4.heap.size ≤ (w5.setCell ⟨gg, i, none⟩ (.int .u64 (x : Int))).heap.size := by have := hb45.size; simpa [World.setCell] using this
      clear hci hfi hbs hicur
      generalize w5.setCell ⟨gg, i, none⟩ (.int .u64 (x : Int)) = w6 at *
      have T5 := fun W h1 h2 h3 h4 => root_ok (some ⟨gg, 0, none⟩) cap w6.heap.size (l.set i x) h1 h2 hSl W h3 h4
      rw [List.length_set, hll] at T5
      refine (T5 _ (by omega) HOK.out hrs (Nat.le_refl _)).mono ?_
      rintro e w7 ⟨rfl, hb7⟩
      have hrp7 := hrp6.below (hb7.mono hz6)
      have CC := fun W h => climb_any x i Ap cp w4.heap.size (pathN l i) (by omega) (by omega) hx hPl W h
      have VV := fun W h => ver_any (rootN l) x (i : Int) Ap cp w4.heap.size (pathN l i) (by omega) (by omega) hx hPl W h
      have hV : verN (rootN l) x (i : Int) (pathN l i) = (climbN x i (pathN l i) == rootN l) := by
        rw [verN_yes (by rw [hP.1]; have := HN.out; refine ⟨hh8, by omega, ?_⟩; rw [show (2 : Int) ^ ho = ((2 ^ ho : Nat) : Int) by simp]; omega), Int.toNat_natCast]
      rw [hCS] at CC hV
      rw [hP.1] at CC VV
      rw [hV] at VV
      have CC := Lib.hid CC
      have VV := Lib.hid VV
      have HRP := Lib.hid hrp7
      have hbf := grew_trans hb6 hb7
      clear hP hCS hV hPl hrp7 T5 hSl hrs hrp6
      generalize rootN (l.set i x) = S at *
      generalize rootN l = R at *
      by_cases he : S = R
      · subst he
        go_wp2_with fail
        refine (CC.out _ HRP.out).mono ?_
        rintro e w' ⟨rfl, rfl⟩
        go_wp2_with fail
        refine (VV.out _ HRP.out).mono ?_
        rintro e w' ⟨rfl, rfl⟩
        rw [show (S == S) = true by simp]
        go_wp2_with fail
        go_ret
        exact ⟨rfl, hbf⟩
      · have hf : ((S : Int) == (R : Int)) = false := by rw [beq_eq_false_iff_ne]; omega
        go_wp2_with fail
        refine (CC.out _ HRP.out).mono ?_
        rintro e w' ⟨rfl, rfl⟩
        go_wp2_with fail
        refine (VV.out _ HRP.out).mono ?_
        rintro e w' ⟨rfl, rfl⟩
        rw [show (S == R) = false by simpa using he]
        go_wp2_with fail
        go_ret
        exact ⟨rfl, hbf⟩
end Go.Proofs.Ytlhjkgohojcbpaa
