/- FieldJoins. -/
import Derived.Test.YthbphlbjjoddeaaDoorFkn
import Derived.Test.YthbphlbjjoddeaaDoorFdI
namespace Go.Proofs.YthbphlbjjoddeaaDoor
open Go.RowKit
set_option linter.unusedVariables false
theorem bys_inj {a b : List ByteArray} (h : bys a = bys b) : a = b := by
  have := congrArg txt h
  rwa [bys_txt, bys_txt] at this
theorem short_len {l : List ByteArray} (h : shortB l = true) : l.length ≤ 100 ∧ (joinF (bys l)).length ≤ 40100 := by
  simp only [shortB, Bool.and_eq_true, List.all_eq_true, decide_eq_true_eq] at h
  obtain ⟨h1, h2⟩ := h
  refine ⟨h1, ?_⟩
  have key : (joinF (bys l)).length ≤ l.length * 401 := by
    clear h1
    induction l with
    | nil => simp [bys, joinF]
    | cons s l ih =>
      have h3 := h2 s List.mem_cons_self
      have h4 := ih (fun x hx => h2 x (List.mem_cons_of_mem _ hx))
      have h5 := fld_len s.data.toList
      rw [ba_len] at h5
      rw [show bys (s :: l) = s.data.toList :: bys l from rfl, joinF_cons]
      simp only [List.length_cons, List.length_append, Nat.succ_mul]
      omega
  have : l.length * 401 ≤ 100 * 401 := Nat.mul_le_mul_right _ h1
  omega
theorem bys_length (l : List ByteArray) : (bys l).length = l.length := by simp [bys]
set_option maxRecDepth 100000 in
set_option maxHeartbeats 4000000 in
theorem fieldJoins_law (A A' : Option Addr) (c c' : Nat) (a b : List ByteArray) (w : World) (hS : Std w) (hr : Rd w w.heap.size A (strL a)) (hr' : Rd w w.heap.size A' (strL b)) :
    Calls Tryd.prog 3 #[.slice A a.length c, .slice A' b.length c'] w fun e w' => e = .returned (.bool true) ∧ Grew w w' := by
  have hg8 : 3 < w.heap.size := by obtain ⟨m, hm⟩ := hS.mx; exact cell_lt hm
  have CK := Lib.hid (fknown_ok w hS hg8)
  have HR := Lib.hid hr
  have HR' := Lib.hid hr'
  clear hg8 hS hr hr'
  go_enter Tryd.func3, Tryd.ntmps3
  go_wp2_with (go_at_call 14; refine (CK.out).mono ?_; rintro e w1 ⟨rfl, g1⟩)
  have cS := short_ok A c a w1 (HR.out.grew g1)
  cases hsa : shortB a with
  | false =>
    rw [hsa] at cS
    clear hsa
    refine cS.mono ?_
    rintro e w' ⟨rfl, hw⟩
    have hw := hw.symm
    subst hw
    go_wp2_with fail
    go_ret
    exact ⟨rfl, g1⟩
  | true =>
    have HSA := Lib.hid (short_len hsa)
    rw [hsa] at cS
    clear hsa
    refine cS.mono ?_
    rintro e w' ⟨rfl, hw⟩
    have hw := hw.symm
    subst hw
    clear cS
    go_wp2_with fail
    have cS := short_ok A' c' b w1 (HR'.out.grew g1)
    cases hsb : shortB b with
    | false =>
      rw [hsb] at cS
      clear hsb
      refine cS.mono ?_
      rintro e w' ⟨rfl, hw⟩
      have hw := hw.symm
      subst hw
      go_wp2_with fail
      go_ret
      exact ⟨rfl, g1⟩
    | true =>
      have HSB := Lib.hid (short_len hsb)
      rw [hsb] at cS
      clear hsb
      refine cS.mono ?_
      rintro e w' ⟨rfl, hw⟩
      have hw := hw.symm
      subst hw
      clear cS
      obtain ⟨SA, hSA⟩ : ∃ SA : ByteArray, SA = ⟨(joinF (bys a)).toArray⟩ := ⟨_, rfl⟩
      obtain ⟨SB, hSB⟩ : ∃ SB : ByteArray, SB = ⟨(joinF (bys b)).toArray⟩ := ⟨_, rfl⟩
      have cJ := fun W h => join_ok A c a (by have := HSA.out.1; omega) (by have := HSA.out.2; omega) W h
      have cJ' := fun W h => join_ok A' c' b (by have := HSB.out.1; omega) (by have := HSB.out.2; omega) W h
      have cR := fun W h => rjoin_ok A c a (by have := HSA.out.1; omega) (by have := HSA.out.2; omega) W h
      rw [← hSA] at cJ cR
      rw [← hSB] at cJ'
      have CR := Lib.hid cR
      have CJ' := Lib.hid cJ'
      clear cR cJ'
      have HSAE := Lib.hid hSA
      have HSBE := Lib.hid hSB
      have hsz : SA.size ≤ 100000000 := by rw [hSA]; show (joinF (bys a)).toArray.size ≤ _; have := HSA.out.2; simp; omega
      have HSP := Lib.hid (fun W => split_some (s := SA) (l := bys a) (by rw [hSA]; exact split_join _) (by rw [bys_length]; have := HSA.out.1; omega) hsz W)
      clear hSA hSB hsz
      go_wp2_with fail
      refine (cJ w1 (HR.out.grew g1)).mono ?_
      rintro e w2 ⟨rfl, gg⟩
      have g2 := grew_trans g1 gg
      clear g1 gg cJ
      go_wp2_with fail
      refine (CJ'.out w2 (HR'.out.grew g2)).mono ?_
      rintro e w3 ⟨rfl, gg⟩
      have g3 := grew_trans g2 gg
      clear g2 gg
      go_wp2_with fail
      refine (HSP.out w3).mono ?_
      rintro e w4 ⟨⟨v4, rfl, o4⟩, gg⟩
      have g4 := grew_trans g3 gg
      obtain ⟨A4, c4, rfl, _, _, r4⟩ := own_rd o4
      rw [bys_txt] at r4
      clear g3 gg o4
      go_wp2_with fail
      refine (CR.out w4 (HR.out.grew g4)).mono ?_
      rintro e w5 ⟨rfl, gg⟩
      have g5 := grew_trans g4 gg
      have r5 := r4.grew gg
      clear g4 gg r4
      go_wp2_with fail
      have cN := names_any A4 A c4 c _ _ a a (by have := HSA.out.1; omega) (by have := HSA.out.1; omega) w5 r5 (HR.out.grew g5)
      rw [decide_eq_true rfl, ← bys_length a] at cN
      rw [← bys_length a]
      refine cN.mono ?_
      clear cN
      rintro e w6 ⟨rfl, n6, hw⟩
      have gg : Grew w5 w6 := by rw [hw]; exact grew_drewN (grew_refl w5) n6
      have g6 := grew_trans g5 gg
      rw [bys_length a]
      clear g5 gg hw r5
      have cN := names_any A A' c c' _ _ a b (by have := HSA.out.1; omega) (by have := HSB.out.1; omega) w6 (HR.out.grew g6) (HR'.out.grew g6)
      by_cases hab : a = b
      · have hS : (SA.toList == SB.toList) = true := by
          rw [HSAE.out, HSBE.out, hab]; simp
        rw [decide_eq_true hab] at cN
        have CN := Lib.hid cN
        clear cN hab
        go_wp2_with fail
        refine (CN.out).mono ?_
        rintro e w7 ⟨rfl, n7, hw⟩
        have gg : Grew w6 w7 := by rw [hw]; exact grew_drewN (grew_refl w6) n7
        have g7 := grew_trans g6 gg
        clear g6 gg hw
        go_wp2_with fail
        go_ret
        exact ⟨by simp, g7⟩
      · have hS : (SA.toList == SB.toList) = false := by
          rw [HSAE.out, HSBE.out, ByteArray.toList_eq, ByteArray.toList_eq, beq_eq_false_iff_ne]
          intro h
          exact hab (bys_inj (join_inj h))
        rw [decide_eq_false hab] at cN
        have CN := Lib.hid cN
        clear cN hab
        go_wp2_with fail
        refine (CN.out).mono ?_
        rintro e w7 ⟨rfl, n7, hw⟩
        have gg : Grew w6 w7 := by rw [hw]; exact grew_drewN (grew_refl w6) n7
        have g7 := grew_trans g6 gg
        clear g6 gg hw
        go_wp2_with fail
        go_ret
        exact ⟨by simp, g7⟩
end Go.Proofs.YthbphlbjjoddeaaDoor
