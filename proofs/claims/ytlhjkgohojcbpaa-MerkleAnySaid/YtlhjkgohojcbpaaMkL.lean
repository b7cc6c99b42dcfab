/- The statements of layer 4: MerkleAny. -/
import Derived.Test.YtlhjkgohojcbpaaMkK
import Derived.Test.YtlhjkgohojcbpaaLaw
namespace Go.Proofs.Ytlhjkgohojcbpaa
open Go.RowKit
set_option linter.unusedVariables false
noncomputable def rtN (l : List Nat) : Nat := if leavesOk l.length then rootN l else 0
def rtE (l : List Nat) : Int := if leavesOk l.length then 0 else 1
def ptOk (l : List Nat) (i : Int) : Bool := leavesOk l.length && decide (0 ≤ i ∧ i < l.length)
noncomputable def ptL (l : List Nat) (i : Int) : List Nat := if ptOk l i then pathN l i.toNat else []
def ptE (l : List Nat) (i : Int) : Int := if ptOk l i then 0 else 1
theorem rtN_lt (l : List Nat) (h : ∀ n ∈ l, n < 18446744073709551616) : rtN l < 18446744073709551616 := by
  unfold rtN; split
  · exact rootN_lt l h
  · decide
theorem ptL_lt (l : List Nat) (i : Int) (h : ∀ n ∈ l, n < 18446744073709551616) : ∀ n ∈ ptL l i, n < 18446744073709551616 := by
  unfold ptL; split
  · exact pathN_lt l _ h
  · intro n hn; cases hn
theorem ptL_length (l : List Nat) (i : Int) : (ptL l i).length ≤ 9 := by
  unfold ptL; split
  · exact pathN_length l _
  · simp
def RetPA (w : World) (l : List Nat) (er : Int) (e : Ending) (w' : World) : Prop := ∃ A c, e = .returned (.tuple #[.slice A l.length c, .int .i64 er]) ∧ Rd w' w'.heap.size A (u64L l) ∧ Grew w w'
theorem root_any (A : Option Addr) (c B : Nat) (l : List Nat) (hl : l.length ≤ 1048576) (hb : ∀ n ∈ l, n < 18446744073709551616) (w : World) (hr : Rd w B A (u64L l)) (hB : B ≤ w.heap.size) :
    Calls Try.prog 30 #[.slice A l.length c] w fun e w' => e = .returned (.tuple #[.int .u64 (rtN l : Nat), .int .i64 (rtE l)]) ∧ Grew w w' := by
  unfold rtN rtE
  cases hk : leavesOk l.length with
  | true => exact root_ok A c B l hl hk hb w hr hB
  | false => exact (root_no A c l hl hk w).mono fun e w' h => ⟨h.1, h.2 ▸ Below.refl _ _⟩
theorem path_any (A : Option Addr) (c B : Nat) (l : List Nat) (i : Int) (hi64 : -9223372036854775808 ≤ i ∧ i ≤ 9223372036854775807) (hl : l.length ≤ 1048576) (hb : ∀ n ∈ l, n < 18446744073709551616) (w : World) (hr : Rd w B A (u64L l)) (hB : B ≤ w.heap.size) :
    Calls Try.prog 33 #[.slice A l.length c, .int .i64 i] w (RetPA w (ptL l i) (ptE l i)) := by
  unfold ptL ptE
  cases hk : ptOk l i with
  | true =>
    have hk' := hk
    unfold ptOk at hk'
    simp only [Bool.and_eq_true, decide_eq_true_eq] at hk'
    obtain ⟨j, rfl⟩ : ∃ j : Nat, i = j := ⟨i.toNat, by omega⟩
    refine (path_ok A c B l j (by omega) hl hk'.1 hb w hr hB).mono ?_
    rintro e w' ⟨A', c', rfl, h1, _, h2⟩
    exact ⟨A', c', rfl, h1, h2⟩
  | false =>
    have hk' : leavesOk l.length = false ∨ i < 0 ∨ (l.length : Int) ≤ i := by
      cases hq : leavesOk l.length with
      | false => exact .inl rfl
      | true =>
        unfold ptOk at hk
        rw [hq, Bool.true_and, decide_eq_false_iff_not] at hk
        omega
    refine (path_no A c l i hi64 hl hk' w).mono ?_
    rintro e w' ⟨rfl, rfl⟩
    exact ⟨none, 0, rfl, Rd.nil_ _ _ _, Below.refl _ _⟩
theorem refroot_any (A : Option Addr) (c B : Nat) (l : List Nat) (hl : l.length ≤ 1048576) (hb : ∀ n ∈ l, n < 18446744073709551616) (w : World) (hr : Rd w B A (u64L l)) (hB : B ≤ w.heap.size) :
    Calls Try.prog 32 #[.slice A l.length c] w fun e w' => e = .returned (.tuple #[.int .u64 (rtN l : Nat), .int .i64 (rtE l)]) ∧ Grew w w' := by
  unfold rtN rtE
  cases hk : leavesOk l.length with
  | true => exact refroot_ok A c B l hl hk hb w hr hB
  | false => exact (refroot_no A c l hl hk w).mono fun e w' h => ⟨h.1, h.2 ▸ Below.refl _ _⟩
theorem refpath_any (A : Option Addr) (c B : Nat) (l : List Nat) (i : Int) (hi64 : -9223372036854775808 ≤ i ∧ i ≤ 9223372036854775807) (hl : l.length ≤ 1048576) (hb : ∀ n ∈ l, n < 18446744073709551616) (w : World) (hr : Rd w B A (u64L l)) (hB : B ≤ w.heap.size) :
    Calls Try.prog 34 #[.slice A l.length c, .int .i64 i] w (RetPA w (ptL l i) (ptE l i)) := by
  unfold ptL ptE
  cases hk : ptOk l i with
  | true =>
    have hk' := hk
    unfold ptOk at hk'
    simp only [Bool.and_eq_true, decide_eq_true_eq] at hk'
    obtain ⟨j, rfl⟩ : ∃ j : Nat, i = j := ⟨i.toNat, by omega⟩
    refine (refpath_ok A c B l j (by omega) hl hk'.1 hb w hr hB).mono ?_
    rintro e w' ⟨A', c', rfl, h1, _, h2⟩
    exact ⟨A', c', rfl, h1, h2⟩
  | false =>
    have hk' : leavesOk l.length = false ∨ i < 0 ∨ (l.length : Int) ≤ i := by
      cases hq : leavesOk l.length with
      | false => exact .inl rfl
      | true =>
        unfold ptOk at hk
        rw [hq, Bool.true_and, decide_eq_false_iff_not] at hk
        omega
    refine (refpath_no A c l i hi64 hl hk' w).mono ?_
    rintro e w' ⟨rfl, rfl⟩
    exact ⟨none, 0, rfl, Rd.nil_ _ _ _, Below.refl _ _⟩
theorem ints_nat {w : World} {B : Nat} {A : Option Addr} {zs : List Int} (hr : Rd w B A (zs.map (Value.int .u64))) (hz : ∀ z ∈ zs, 0 ≤ z ∧ z ≤ 18446744073709551615) :
    ∃ l : List Nat, zs.length = l.length ∧ Rd w B A (u64L l) ∧ ∀ n ∈ l, n < 18446744073709551616 := by
  refine ⟨zs.map Int.toNat, by simp, ?_, ?_⟩
  · have e : u64L (zs.map Int.toNat) = zs.map (Value.int .u64) := by
      unfold u64L
      rw [List.map_map]
      apply List.map_congr_left
      intro z hz'
      have := hz z hz'
      simp only [Function.comp]
      congr 1
      omega
    rw [e]; exact hr
  · intro n hn
    obtain ⟨z, hz', rfl⟩ := List.mem_map.1 hn
    have := hz z hz'
    omega
theorem merkleAny_big (A : Option Addr) (c : Nat) (l : List Nat) (i : Int) (A' : Option Addr) (c' : Nat) (l' : List Nat) (leaf : Int) (w : World) (h : 600 < l.length) :
    Calls Try.prog 9 #[.slice A l.length c, .int .i64 i, .slice A' l'.length c', .int .u64 leaf] w fun e w' => e = .returned (.bool true) ∧ Grew w w' := by
  have h' : (600 : Int) < (l.length : Int) := by omega
  go_enter Try.func9, Try.ntmps9
  go_wp2_with (refine (mkknown_any _).mono ?_; rintro e w1 ⟨rfl, hb1⟩)
  go_ret
  exact ⟨rfl, hb1⟩
theorem merkleAny_big2 (A : Option Addr) (c : Nat) (l : List Nat) (i : Int) (A' : Option Addr) (c' : Nat) (l' : List Nat) (leaf : Int) (w : World) (h : ¬ 600 < l.length) (h2 : 30 < l'.length) :
    Calls Try.prog 9 #[.slice A l.length c, .int .i64 i, .slice A' l'.length c', .int .u64 leaf] w fun e w' => e = .returned (.bool true) ∧ Grew w w' := by
  have h' : ¬ (600 : Int) < (l.length : Int) := by omega
  have h2' : (30 : Int) < (l'.length : Int) := by omega
  go_enter Try.func9, Try.ntmps9
  go_wp2_with (refine (mkknown_any _).mono ?_; rintro e w1 ⟨rfl, hb1⟩)
  go_ret
  exact ⟨rfl, hb1⟩
set_option maxRecDepth 100000 in
set_option maxHeartbeats 1600000 in
theorem merkleAny_law (A : Option Addr) (c : Nat) (l : List Nat) (i : Int) (A' : Option Addr) (c' : Nat) (l' : List Nat) (leaf : Nat) (w : World) (h : l.length ≤ 600) (h2 : l'.length ≤ 30) (hi64 : -9223372036854775808 ≤ i ∧ i ≤ 9223372036854775807)
    (hx : leaf < 18446744073709551616) (hb : ∀ n ∈ l, n < 18446744073709551616) (hb' : ∀ n ∈ l', n < 18446744073709551616) (hr : Rd w w.heap.size A (u64L l)) (hr' : Rd w w.heap.size A' (u64L l')) :
    Calls Try.prog 9 #[.slice A l.length c, .int .i64 i, .slice A' l'.length c', .int .u64 leaf] w fun e w' => e = .returned (.bool true) ∧ Grew w w' := by
  have HB := Lib.hid hb
  have HB' := Lib.hid hb'
  have HR := Lib.hid hr
  have HR' := Lib.hid hr'
  have hrt := rtN_lt l hb
  have hpl := ptL_length l i
  have g1 : ¬ (600 : Int) < (l.length : Int) := by omega
  have g2 : ¬ (30 : Int) < (l'.length : Int) := by omega
  clear hb hb' hr hr'
  go_enter Try.func9, Try.ntmps9
  go_wp2_with (refine (mkknown_any _).mono ?_; rintro e w1 ⟨rfl, hb1⟩)
  have R1 := Lib.hid (HR.out.below hb1)
  refine (mkto_any A c w.heap.size l (by omega) _ R1.out hb1.size).mono ?_
  rintro e w2 ⟨A2, c2, rfl, hr2, _, hb2⟩
  go_wp2_with fail
  refine (root_any A2 c2 w2.heap.size l (by omega) HB.out _ hr2 (Nat.le_refl _)).mono ?_
  rintro e w3 ⟨rfl, hb3⟩
  have hbb3 := grew_trans hb1 (grew_trans hb2 hb3)
  have R3 := Lib.hid (HR.out.below hbb3)
  go_wp2_with fail
  refine (refroot_any A c w.heap.size l (by omega) HB.out _ R3.out hbb3.size).mono ?_
  rintro e w4 ⟨rfl, hb4⟩
  have hbb4 := grew_trans hbb3 hb4
  have R4 := Lib.hid (HR.out.below hbb4)
  go_wp2_with fail
  refine (mkto_any A c w.heap.size l (by omega) _ R4.out hbb4.size).mono ?_
  rintro e w5 ⟨A5, c5, rfl, hr5, _, hb5⟩
  go_wp2_with fail
  refine (path_any A5 c5 w5.heap.size l i hi64 (by omega) HB.out _ hr5 (Nat.le_refl _)).mono ?_
  rintro e w6 ⟨A6, c6, rfl, hr6, hb6⟩
  have hbb6 := grew_trans hbb4 (grew_trans hb5 hb6)
  have R6 := Lib.hid (HR.out.below hbb6)
  go_wp2_with fail
  refine (refpath_any A c w.heap.size l i hi64 (by omega) HB.out _ R6.out hbb6.size).mono ?_
  rintro e w7 ⟨A7, c7, rfl, hr7, hb7⟩
  have hbb7 := grew_trans hbb6 hb7
  have hr67 := hr6.below (hb7.mono (Nat.le_refl _))
  generalize ptE l i = er at *
  generalize rtE l = er2 at *
  generalize rtN l = rt at *
  generalize ptL l i = pt at *
  go_wp2_with fail
  refine (mkof_any A6 c6 w6.heap.size pt (by omega) _ hr67 hb7.size).mono ?_
  rintro e w8 ⟨A8, c8, rfl, hr8, _, hb8⟩
  have hz8 := hb8.size
  have hr78 := (hr7.below hb8).more hz8
  have hbb8 := grew_trans hbb7 hb8
  go_wp2_with fail
  refine (mksame_any A8 A7 c8 c7 w8.heap.size pt (by omega) _ hr8 hr78).mono ?_
  rintro e w9 ⟨rfl, hb9⟩
  have hbb9 := grew_trans hbb8 hb9
  have R9 := Lib.hid (HR'.out.below hbb9)
  by_cases hi0 : 0 ≤ i
  · obtain ⟨j, rfl⟩ : ∃ j : Nat, i = j := ⟨i.toNat, by omega⟩
    have hj : j < 9223372036854775808 := by omega
    go_wp2_with fail
    refine (mkto_any A' c' w.heap.size l' (by omega) _ R9.out hbb9.size).mono ?_
    rintro e wa ⟨Aa, ca, rfl, hra, _, hba⟩
    have hbba := grew_trans hbb9 hba
    have RA := Lib.hid (HR'.out.below hbba)
    go_wp2_with fail
    refine (climb_any leaf j Aa ca wa.heap.size l' hj (by omega) hx HB'.out _ hra).mono ?_
    rintro e w' ⟨rfl, rfl⟩
    have hcl := climbN_lt l' leaf j hx
    have CR := Lib.hid (fun W h => refclimb_any leaf j A' c' w.heap.size l' hj (by omega) hx HB'.out W h)
    generalize climbN leaf j l' = y at *
    go_wp2_with fail
    refine (CR.out _ RA.out).mono ?_
    rintro e w' ⟨rfl, rfl⟩
    go_wp2_with fail
    refine (mkto_any A' c' w.heap.size l' (by omega) _ RA.out hbba.size).mono ?_
    rintro e wb ⟨Ab, cb, rfl, hrb, _, hbn⟩
    have hbbb := grew_trans hbba hbn
    have RB := Lib.hid (HR'.out.below hbbb)
    have V1 := Lib.hid (ver_any rt leaf (j : Int) Ab cb wb.heap.size l' (by omega) hi64 hx HB'.out _ hrb)
    have V2 := Lib.hid (refver_any rt leaf (j : Int) A' c' w.heap.size l' (by omega) hi64 hx HB'.out _ RB.out)
    generalize verN rt leaf (j : Int) l' = vb at *
    go_wp2_with fail
    refine V1.out.mono ?_
    rintro e w' ⟨rfl, rfl⟩
    go_wp2_with fail
    refine V2.out.mono ?_
    rintro e w' ⟨rfl, rfl⟩
    go_wp2_with fail
    go_ret
    exact ⟨ret_bool (by simp), hbbb⟩
  · go_wp2_with fail
    refine (mkto_any A' c' w.heap.size l' (by omega) _ R9.out hbb9.size).mono ?_
    rintro e wb ⟨Ab, cb, rfl, hrb, _, hbn⟩
    have hbbb := grew_trans hbb9 hbn
    have RB := Lib.hid (HR'.out.below hbbb)
    have V1 := Lib.hid (ver_any rt leaf (i : Int) Ab cb wb.heap.size l' (by omega) hi64 hx HB'.out _ hrb)
    have V2 := Lib.hid (refver_any rt leaf (i : Int) A' c' w.heap.size l' (by omega) hi64 hx HB'.out _ RB.out)
    generalize verN rt leaf (i : Int) l' = vb at *
    go_wp2_with fail
    refine V1.out.mono ?_
    rintro e w' ⟨rfl, rfl⟩
    go_wp2_with fail
    refine V2.out.mono ?_
    rintro e w' ⟨rfl, rfl⟩
    go_wp2_with fail
    go_ret
    exact ⟨ret_bool (by simp), hbbb⟩
end Go.Proofs.Ytlhjkgohojcbpaa
