/- FieldNums. -/
import Derived.Test.YthbphlbjjoddeaaDoorFkn
namespace Go.Proofs.YthbphlbjjoddeaaDoor
open Go.RowKit
set_option linter.unusedVariables false
theorem ba_mk (s : ByteArray) : (⟨s.data.toList.toArray⟩ : ByteArray) = s := by apply ByteArray.ext; simp
set_option maxRecDepth 100000 in
set_option maxHeartbeats 4000000 in
theorem fieldNums_law (A : Option Addr) (c : Nat) (l : List Int) (hp : ∀ x ∈ l, in64 x) (s : ByteArray) (hs : s.size ≤ 9223372036854775807) (w : World) (hS : Std w) (hr : Rd w w.heap.size A (i64L l)) (hlm : l.length ≤ 9223372036854775807) :
    Calls Tryd.prog 5 #[.slice A l.length c, .string s] w fun e w' => e = .returned (.bool true) ∧ Grew w w' := by
  have hg8 : 3 < w.heap.size := by obtain ⟨m, hm⟩ := hS.mx; exact cell_lt hm
  have CK := Lib.hid (fknown_ok w hS hg8)
  by_cases hbig : 100 < l.length
  · have hbi : (100 : Int) < (l.length : Int) := by omega
    clear hg8 hS
    go_enter Tryd.func5, Tryd.ntmps5
    go_wp2_with (first | (go_at_call 14; refine (CK.out).mono ?_; rintro e w1 ⟨rfl, hg1⟩))
    go_ret
    exact ⟨rfl, hg1⟩
  · have hbi : ¬ (100 : Int) < (l.length : Int) := by omega
    by_cases hbs : 300 < s.size
    · have hbi2 : (300 : Int) < (s.size : Int) := by omega
      clear hg8 hS
      go_enter Tryd.func5, Tryd.ntmps5
      go_wp2_with (first | (go_at_call 14; refine (CK.out).mono ?_; rintro e w1 ⟨rfl, hg1⟩))
      go_ret
      exact ⟨rfl, hg1⟩
    · have hbi2 : ¬ (300 : Int) < (s.size : Int) := by omega
      have HL := Lib.hid (show l.length ≤ 100 by omega)
      have HZ := Lib.hid (show s.size ≤ 300 by omega)
      have HPP := Lib.hid hp
      have HSS := Lib.hid hS
      have HG8 := Lib.hid hg8
      clear hg8 hS hbig hbs hp
      have hnl := nums_len l HPP.out
      obtain ⟨v, ev, hpn⟩ : ∃ v ev, pnums s.data.toList = (v, ev) := ⟨_, _, rfl⟩
      obtain ⟨x, ex, hpx⟩ : ∃ x ex, pnum s.data.toList = (x, ex) := ⟨_, _, rfl⟩
      have hpl : ∀ y ∈ v, in64 y := by
        have := pnums_i64 (s := s.data.toList)
        rw [hpn] at this
        exact this
      have hvl : v.length ≤ 301 := by
        have h1 : (pnums s.data.toList).1.length ≤ (splitC s.data.toList).length := by
          unfold pnums
          split
          · simp
          · simp only
            split
            · simp
            · split
              · simp
              · simp
        have h2 := splitC_len s.data.toList
        rw [hpn] at h1
        rw [ba_len] at h2
        have h3 := HZ.out
        simp only at h1
        omega
      have HPN := Lib.hid hpn
      have HPX := Lib.hid hpx
      have HPL := Lib.hid hpl
      have HNL := Lib.hid hnl
      clear hpn hpx hpl hnl
      go_enter Tryd.func5, Tryd.ntmps5
      go_wp2_with (go_at_call 14; refine (CK.out).mono ?_; rintro e w1 ⟨rfl, g1⟩)
      refine (nums_ok A c l (by have := HL.out; omega) HPP.out w1 (HSS.out.grew g1) (hr.grew g1)).mono ?_
      rintro e w2 ⟨rfl, gg⟩
      have g2 := grew_trans g1 gg
      clear g1 gg
      go_wp2_with fail
      refine (parseNums_ok ⟨(nums l).toArray⟩ (by show (nums l).toArray.size ≤ _; have := HNL.out; have := HL.out; simp; omega) w2 (HSS.out.grew g2) (Nat.lt_of_lt_of_le HG8.out g2.size)).mono ?_
      rw [show (⟨(nums l).toArray⟩ : ByteArray).data.toList = nums l from rfl, pnums_nums l (fun n hn => HPP.out n hn)]
      rintro e w3 ⟨⟨v3, rfl, o3⟩, gg⟩
      have g3 := grew_trans g2 gg
      obtain ⟨A3, c3, rfl, _, _, r3⟩ := own_rd o3
      clear g2 gg o3
      go_wp2_with fail
      refine (parseNums_ok s (by have := HZ.out; omega) w3 (HSS.out.grew g3) (Nat.lt_of_lt_of_le HG8.out g3.size)).mono ?_
      rw [HPN.out]
      rintro e w4 ⟨⟨v4, rfl, o4⟩, gg⟩
      have g4 := grew_trans g3 gg
      have r3 := r3.grew gg
      obtain ⟨A4, c4, rfl, _, _, r4⟩ := own_rd o4
      clear g3 gg o4
      go_wp2_with fail
      refine (rparseNums_ok s (by have := HZ.out; omega) w4).mono ?_
      rw [HPN.out]
      rintro e w5 ⟨⟨v5, rfl, o5⟩, gg⟩
      have g5 := grew_trans g4 gg
      have r3 := r3.grew gg
      have r4 := r4.grew gg
      obtain ⟨A5, c5, rfl, _, _, r5⟩ := own_rd o5
      clear g4 gg o5
      go_wp2_with fail
      refine (parseNum_ok s (by have := HZ.out; omega) w5 (HSS.out.grew g5)).mono ?_
      rw [HPX.out]
      rintro e w6 ⟨rfl, gg⟩
      have g6 := grew_trans g5 gg
      have r3 := r3.grew gg
      have r4 := r4.grew gg
      have r5 := r5.grew gg
      clear g5 gg
      go_wp2_with fail
      have cR := rparse_ok s (by have := HZ.out; omega) w6
      unfold pnumRes at cR
      rw [HPX.out] at cR
      refine cR.mono ?_
      clear cR
      rintro e w' ⟨rfl, hw⟩
      have hw := hw.symm
      subst hw
      go_wp2_with fail
      refine (rnums_ok A c l (by have := HL.out; omega) HPP.out w6 (hr.grew g6)).mono ?_
      rintro e w7 ⟨rfl, gg⟩
      have g7 := grew_trans g6 gg
      have r3 := r3.grew gg
      have r4 := r4.grew gg
      have r5 := r5.grew gg
      clear g6 gg
      go_wp2_with fail
      have cI := ints_any A3 A c3 c _ _ l l (by have := HL.out; omega) (by have := HL.out; omega) w7 r3 (hr.grew g7)
      rw [decide_eq_true rfl] at cI
      refine cI.mono ?_
      clear cI
      rintro e w8 ⟨rfl, n8, hw⟩
      have gg : Grew w7 w8 := by rw [hw]; exact grew_drewN (grew_refl w7) n8
      have g8 := grew_trans g7 gg
      have r4 := r4.grew gg
      have r5 := r5.grew gg
      clear g7 gg hw
      go_wp2_with fail
      have cI := ints_any A4 A5 c4 c5 _ _ v v (by omega) (by omega) w8 r4 r5
      rw [decide_eq_true rfl] at cI
      refine cI.mono ?_
      clear cI
      rintro e w9 ⟨rfl, n9, hw⟩
      have gg : Grew w8 w9 := by rw [hw]; exact grew_drewN (grew_refl w8) n9
      have g9 := grew_trans g8 gg
      have r4 := r4.grew gg
      have r5 := r5.grew gg
      clear g8 gg hw
      by_cases hev : ev = 0
      · have hns : nums v = s.data.toList := by
          have := nums_pnums (s := s.data.toList) (by rw [HPN.out]; exact hev)
          rwa [HPN.out] at this
        go_wp2_with fail
        have cN := nums_ok A4 c4 v (by omega) HPL.out w9 (HSS.out.grew g9) r4
        rw [hns, ba_mk] at cN
        refine cN.mono ?_
        clear cN hns
        rintro e w10 ⟨rfl, gg⟩
        have g10 := grew_trans g9 gg
        have r4 := r4.grew gg
        have r5 := r5.grew gg
        clear g9 gg
        go_wp2_with fail
        refine (mapTwice_ok A4 c4 v (by omega) HPL.out w10 (HSS.out.grew g10) r4).mono ?_
        rintro e w11 ⟨v11, rfl, o11, gg⟩
        have g11 := grew_trans g10 gg
        have r5 := r5.grew gg
        obtain ⟨A11, c11, rfl, _, _, r11⟩ := own_rd o11
        clear g10 gg o11 r4
        go_wp2_with fail
        refine (doubled_ok A5 c5 v (by omega) w11 r5).mono ?_
        rintro e w12 ⟨v12, rfl, o12, gg⟩
        have g12 := grew_trans g11 gg
        have r11 := r11.grew gg
        obtain ⟨A12, c12, rfl, _, _, r12⟩ := own_rd o12
        clear g11 gg o12 r5
        go_wp2_with fail
        have cI := ints_any A11 A12 c11 c12 _ _ (v.map tw) (v.map tw) (by rw [List.length_map]; omega) (by rw [List.length_map]; omega) w12 r11 r12
        rw [decide_eq_true rfl, List.length_map] at cI
        refine cI.mono ?_
        clear cI
        rintro e w13 ⟨rfl, n13, hw⟩
        have gg : Grew w12 w13 := by rw [hw]; exact grew_drewN (grew_refl w12) n13
        have g13 := grew_trans g12 gg
        clear g12 gg hw
        go_wp2_with fail
        go_ret
        exact ⟨rfl, g13⟩
      · have hevb : (ev == 0) = false := by simpa using hev
        obtain ⟨w10, hw10⟩ : ∃ w10, w9 = w10 := ⟨_, rfl⟩
        subst hw10
        have g10 := g9
        clear g9
        go_wp2_with fail
        refine (mapTwice_ok A4 c4 v (by omega) HPL.out w9 (HSS.out.grew g10) r4).mono ?_
        rintro e w11 ⟨v11, rfl, o11, gg⟩
        have g11 := grew_trans g10 gg
        have r5 := r5.grew gg
        obtain ⟨A11, c11, rfl, _, _, r11⟩ := own_rd o11
        clear g10 gg o11 r4
        go_wp2_with fail
        refine (doubled_ok A5 c5 v (by omega) w11 r5).mono ?_
        rintro e w12 ⟨v12, rfl, o12, gg⟩
        have g12 := grew_trans g11 gg
        have r11 := r11.grew gg
        obtain ⟨A12, c12, rfl, _, _, r12⟩ := own_rd o12
        clear g11 gg o12 r5
        go_wp2_with fail
        have cI := ints_any A11 A12 c11 c12 _ _ (v.map tw) (v.map tw) (by rw [List.length_map]; omega) (by rw [List.length_map]; omega) w12 r11 r12
        rw [decide_eq_true rfl, List.length_map] at cI
        refine cI.mono ?_
        clear cI
        rintro e w13 ⟨rfl, n13, hw⟩
        have gg : Grew w12 w13 := by rw [hw]; exact grew_drewN (grew_refl w12) n13
        have g13 := grew_trans g12 gg
        clear g12 gg hw
        go_wp2_with fail
        go_ret
        exact ⟨rfl, g13⟩
end Go.Proofs.YthbphlbjjoddeaaDoor
