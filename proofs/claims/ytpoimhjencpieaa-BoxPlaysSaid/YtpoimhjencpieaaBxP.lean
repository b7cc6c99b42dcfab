/- BoxPlays. -/
import Derived.Test.YtpoimhjencpieaaBxR
import Derived.Test.YtpoimhjencpieaaAct
namespace Go.Proofs.Ytpoimhjencpieaa
open Go.Conc Go.RowKit
set_option linter.unusedVariables false
set_option maxRecDepth 100000 in
theorem bplays_big (a b : Int) (A : Option Addr) (c : Nat) (l : List (Int × Int)) (W : World) (h : 300 < l.length) :
    Calls Try.prog 8 #[.int .i64 a, .int .i64 b, .slice A l.length c] W fun e w' => e = .returned (.bool true) ∧ Grew W w' := by
  have h1' : (300 : Int) < (l.length : Int) := by omega
  go_enter Try.func8, Try.ntmps8
  go_wp2_with fail
  refine (bknown_any _).mono ?_
  rintro e w1 ⟨rfl, hg1⟩
  go_wp2_with fail
  go_ret
  exact ⟨rfl, hg1⟩
set_option maxRecDepth 100000 in
theorem bplays_bad (a b : Int) (hbad : (a < 1 ∨ 256 < a) ∨ (b < 1 ∨ 256 < b)) (A : Option Addr) (c : Nat) (l : List (Int × Int)) (W : World) (h : l.length ≤ 300) :
    Calls Try.prog 8 #[.int .i64 a, .int .i64 b, .slice A l.length c] W fun e w' => e = .returned (.bool true) ∧ Grew W w' := by
  have h1' : ¬ (300 : Int) < (l.length : Int) := by omega
  have HB := Lib.hid hbad
  have hcases : a < 1 ∨ (¬ a < 1 ∧ 256 < a) ∨ (¬ a < 1 ∧ ¬ 256 < a ∧ b < 1) ∨ (¬ a < 1 ∧ ¬ 256 < a ∧ ¬ b < 1 ∧ 256 < b) := by omega
  clear hbad
  rcases hcases with hc | ⟨hc, hc2⟩ | ⟨hc, hc2, hc3⟩ | ⟨hc, hc2, hc3, hc4⟩
  all_goals
    go_enter Try.func8, Try.ntmps8
    go_wp2_with fail
    refine (bknown_any _).mono ?_
    rintro e w1 ⟨rfl, hg1⟩
    go_wp2_with fail
    refine (bnew_bad a b HB.out _).mono ?_
    rintro e w2 ⟨rfl, rfl⟩
    go_wp2_with fail
    go_ret
    exact ⟨rfl, hg1⟩
set_option maxRecDepth 100000 in
set_option maxHeartbeats 16000000 in
theorem bplays_law (k1 k2 : Nat) (hk1 : 1 ≤ k1 ∧ k1 ≤ 256) (hk2 : 1 ≤ k2 ∧ k2 ≤ 256) (A0 : Option Addr) (c0 : Nat) (acts : List (Int × Int)) (W : World) (hla : acts.length ≤ 300) (hr : RdA W W.heap.size A0 acts) :
    Calls Try.prog 8 #[.int .i64 (k1 : Int), .int .i64 (k2 : Int), .slice A0 acts.length c0] W fun e w' => e = .returned (.bool true) ∧ Grew W w' := by
  have h1' : ¬ (300 : Int) < (acts.length : Int) := by omega
  have n1 : ¬ (k1 : Int) < 1 := by omega
  have n2 : ¬ (256 : Int) < (k1 : Int) := by omega
  have n3 : ¬ (k2 : Int) < 1 := by omega
  have n4 : ¬ (256 : Int) < (k2 : Int) := by omega
  have HR := Lib.hid hr
  clear hr
  go_enter Try.func8, Try.ntmps8
  go_wp2_with fail
  refine (bknown_any _).mono ?_
  rintro e w1 ⟨rfl, hg1⟩
  go_wp2_with fail
  refine (bnew_ok k1 k2 (by omega) (by omega) _).mono ?_
  rintro e w2 ⟨g0, a0, b0, rfl, lg, l1, l2, hb2, hg2⟩
  rw [Int.toNat_natCast, Int.toNat_natCast] at hb2
  have hz1 := hg1.size
  have HB2 := Lib.hid hb2
  have HW2 := Lib.hid (RW.start (grew_trans hg1 hg2) (Nat.le_trans hz1 lg) (Nat.le_trans hz1 l1) (Nat.le_trans hz1 l2))
  clear hb2 hg1 hg2 lg l1 l2 hz1 n1 n2 n3 n4
  go_wp2_with fail
  go_loopw [7, 9, 10, 11] (fun pv xv yv iv wr => ∃ (k g c1 c2 : Nat) (X Y : List Int) (Ax : Option Addr) (cx : Nat) (Ay : Option Addr) (cy : Nat), k ≤ acts.length ∧ iv = .int .i64 k ∧ pv = .pointer (some ⟨g, 0, none⟩) ∧ xv = .slice Ax X.length cx ∧ yv = .slice Ay Y.length cy ∧ Hid (BoxI wr g c1 c2 k1 k2 X Y) ∧ Hid (RW W wr g c1 c2 X Y Ax cx Ay cy)) (fun _ _ _ i _ => acts.length - (intOf i).toNat)
  case atStart => exact ⟨0, g0, a0, b0, [], [], none, 0, none, 0, Nat.zero_le _, rfl, rfl, rfl, rfl, HB2, HW2⟩
  case round =>
    clear HB2 HW2
    obtain ⟨k, g, c1, c2, X, Y, Ax, cx, Ay, cy, hk, rfl, rfl, rfl, rfl, HB, HQ⟩ := hrel
    have hXm : X.length ≤ 256 := by have := HB.out.l1; have := HB.out.m1; omega
    have hYm : Y.length ≤ 256 := by have := HB.out.l2; have := HB.out.m2; omega
    by_cases hlt : k < acts.length
    · obtain ⟨ad, rfl, hbl, hc0, hc1⟩ := HR.out.below HQ.out.gr k hlt
      generalize acts[k].1 = op at *
      generalize acts[k].2 = n at *
      have hi0 : (0 : Int) ≤ (k : Int) := by omega
      have hi1 : (k : Int) < (acts.length : Int) := by omega
      have e4 : IntKind.i64.wrap ((k : Int) + 1) = (k : Int) + 1 := IntWalk.i64_in _ (by omega)
      by_cases h1 : op = 1
      · subst h1
        by_cases hroom : Y.length < k2
        · skip
          as_aux_lemma =>
            have hq1 : (Y.length : Int) < (k2 : Int) := by omega
            go_wp2_with fail
            refine (bput2 g c1 c2 k1 k2 X Y n _ HB.out hroom).mono ?_
            rintro e w4 ⟨rfl, hb4, hk4⟩
            have hq4 := HQ.out.kp hk4 (fun i hi => .inr hi)
            obtain ⟨A', c', w5, hr5, hq5, hb5⟩ := hq4.putY hb4 (by omega) n
            have HB5 := Lib.hid hb5
            have HQ5 := Lib.hid hq5
            have HR5 := Lib.hid hr5
            clear hb4 hk4 hq4 hb5 hq5 HB HQ hroom hr5
            go_wp2_with (at_builtin; refine wpList_append_is (by rfl) (.tmp 93) (.tmp 95) 22 rfl _ _ _ rfl rfl HR5.out ?_)
            clear HR5
            obtain ⟨T, hT⟩ : ∃ T, Y ++ [n] = T := ⟨_, rfl⟩
            have hlen : T.length = Y.length + 1 := by rw [← hT]; simp
            rw [hT] at HB5 HQ5
            rw [← hlen]
            have hTm : T.length ≤ 257 := by omega
            clear hT hlen
            have HBT := HB5
            have HQT := HQ5
            clear HB5 HQ5
            refine (blen g c1 c2 k1 k2 X T _ HBT.out).mono ?_
            rintro e w' ⟨rfl, nb, rfl⟩
            have HBU := Lib.hid (HBT.out.kp (kp_drewN (kp_refl (fun _ => False) _) nb) id id id)
            have HQU := Lib.hid (HQT.out.kp (kp_drewN (kp_refl (fun _ => False) _) nb) (fun _ h => h.elim))
            clear HBT HQT
            go_wp2_with fail
            refine (ball_ok g c1 c2 k1 k2 X T _ HBU.out).mono ?_
            rintro e wa ⟨va, rfl, hoa, hba, hka⟩
            obtain ⟨Aa, da, rfl, _, _, ra⟩ := own_rd hoa
            have HBV := Lib.hid hba
            have HQV := Lib.hid (HQU.out.kp hka (fun i hi => hi))
            have RA := Lib.hid ra
            clear hba hka hoa ra HBU HQU
            obtain ⟨A8, c8, w8, A9, c9, w9, hr8, hr9, r9, g9⟩ := two_app wa Ax cx X A' c' T HQV.out.qx.rd HQV.out.qy.rd (by first | omega | simp) (by first | omega | simp)
            have R9 := Lib.hid r9
            have G9 := Lib.hid g9
            have HR8 := Lib.hid hr8
            have HR9 := Lib.hid hr9
            clear r9 g9 hr8 hr9
            go_wp2_with (first
              | (at_builtin; refine wpList_append_is (by rfl) (.tmp 200) (.tmp 201) 22 rfl _ _ _ rfl rfl HR8.out ?_)
              | (at_builtin; refine wpList_append_is (by rfl) (.tmp 202) (.tmp 203) 22 rfl _ _ _ rfl rfl HR9.out ?_))
            clear HR8 HR9
            refine (ints_same2 Aa A9 da c9 _ _ _ _ (X ++ T) (by simp) (by simp) (by rw [List.length_append]; first | omega | simp) _ (RA.out.below G9.out) R9.out).mono ?_
            rintro e w' ⟨rfl, nz, rfl⟩
            have HBZ := Lib.hid ((HBV.out.grew G9.out).kp (kp_drewN (kp_refl (fun _ => False) _) nz) id id id)
            have HQZ := Lib.hid ((HQV.out.grew G9.out).kp (kp_drewN (kp_refl (fun _ => False) _) nz) (fun _ h => h.elim))
            clear HBV HQV RA R9 G9
            go_wp2_with fail
            go_roundw
            case rel => exact ⟨k + 1, g, c1, c2, X, T, Ax, cx, A', c', by omega, by go_num, rfl, rfl, rfl, HBZ, HQZ⟩
            case measure => simp [intOf]; omega
        · skip
          as_aux_lemma =>
            have hq1 : ¬ (Y.length : Int) < (k2 : Int) := by omega
            go_wp2_with fail
            refine (bput2_full g c1 c2 k1 k2 X Y n _ HB.out (by omega)).mono ?_
            rintro e w4 ⟨rfl, rfl⟩
            have HBT := HB
            have HQT := HQ
            clear HB HQ hroom
            go_wp2_with fail
            refine (blen g c1 c2 k1 k2 X Y _ HBT.out).mono ?_
            rintro e w' ⟨rfl, nb, rfl⟩
            have HBU := Lib.hid (HBT.out.kp (kp_drewN (kp_refl (fun _ => False) _) nb) id id id)
            have HQU := Lib.hid (HQT.out.kp (kp_drewN (kp_refl (fun _ => False) _) nb) (fun _ h => h.elim))
            clear HBT HQT
            go_wp2_with fail
            refine (ball_ok g c1 c2 k1 k2 X Y _ HBU.out).mono ?_
            rintro e wa ⟨va, rfl, hoa, hba, hka⟩
            obtain ⟨Aa, da, rfl, _, _, ra⟩ := own_rd hoa
            have HBV := Lib.hid hba
            have HQV := Lib.hid (HQU.out.kp hka (fun i hi => hi))
            have RA := Lib.hid ra
            clear hba hka hoa ra HBU HQU
            obtain ⟨A8, c8, w8, A9, c9, w9, hr8, hr9, r9, g9⟩ := two_app wa Ax cx X Ay cy Y HQV.out.qx.rd HQV.out.qy.rd (by first | omega | simp) (by first | omega | simp)
            have R9 := Lib.hid r9
            have G9 := Lib.hid g9
            have HR8 := Lib.hid hr8
            have HR9 := Lib.hid hr9
            clear r9 g9 hr8 hr9
            go_wp2_with (first
              | (at_builtin; refine wpList_append_is (by rfl) (.tmp 200) (.tmp 201) 22 rfl _ _ _ rfl rfl HR8.out ?_)
              | (at_builtin; refine wpList_append_is (by rfl) (.tmp 202) (.tmp 203) 22 rfl _ _ _ rfl rfl HR9.out ?_))
            clear HR8 HR9
            refine (ints_same2 Aa A9 da c9 _ _ _ _ (X ++ Y) (by simp) (by simp) (by rw [List.length_append]; first | omega | simp) _ (RA.out.below G9.out) R9.out).mono ?_
            rintro e w' ⟨rfl, nz, rfl⟩
            have HBZ := Lib.hid ((HBV.out.grew G9.out).kp (kp_drewN (kp_refl (fun _ => False) _) nz) id id id)
            have HQZ := Lib.hid ((HQV.out.grew G9.out).kp (kp_drewN (kp_refl (fun _ => False) _) nz) (fun _ h => h.elim))
            clear HBV HQV RA R9 G9
            go_wp2_with fail
            go_roundw
            case rel => exact ⟨k + 1, g, c1, c2, X, Y, Ax, cx, Ay, cy, by omega, by go_num, rfl, rfl, rfl, HBZ, HQZ⟩
            case measure => simp [intOf]; omega
      · by_cases h2 : op = 2
        · subst h2
          by_cases hroom : X.length < k1
          · skip
            as_aux_lemma =>
              have hq1 : (X.length : Int) < (k1 : Int) := by omega
              go_wp2_with fail
              refine (bput1 g c1 c2 k1 k2 X Y n _ HB.out hroom).mono ?_
              rintro e w4 ⟨rfl, hb4, hk4⟩
              have hq4 := HQ.out.kp hk4 (fun i hi => .inl hi)
              obtain ⟨A', c', w5, hr5, hq5, hb5⟩ := hq4.putX hb4 (by omega) n
              have HB5 := Lib.hid hb5
              have HQ5 := Lib.hid hq5
              have HR5 := Lib.hid hr5
              clear hb4 hk4 hq4 hb5 hq5 HB HQ hroom hr5
              go_wp2_with (at_builtin; refine wpList_append_is (by rfl) (.tmp 119) (.tmp 121) 22 rfl _ _ _ rfl rfl HR5.out ?_)
              clear HR5
              obtain ⟨T, hT⟩ : ∃ T, X ++ [n] = T := ⟨_, rfl⟩
              have hlen : T.length = X.length + 1 := by rw [← hT]; simp
              rw [hT] at HB5 HQ5
              rw [← hlen]
              have hTm : T.length ≤ 257 := by omega
              clear hT hlen
              have HBT := HB5
              have HQT := HQ5
              clear HB5 HQ5
              refine (blen g c1 c2 k1 k2 T Y _ HBT.out).mono ?_
              rintro e w' ⟨rfl, nb, rfl⟩
              have HBU := Lib.hid (HBT.out.kp (kp_drewN (kp_refl (fun _ => False) _) nb) id id id)
              have HQU := Lib.hid (HQT.out.kp (kp_drewN (kp_refl (fun _ => False) _) nb) (fun _ h => h.elim))
              clear HBT HQT
              go_wp2_with fail
              refine (ball_ok g c1 c2 k1 k2 T Y _ HBU.out).mono ?_
              rintro e wa ⟨va, rfl, hoa, hba, hka⟩
              obtain ⟨Aa, da, rfl, _, _, ra⟩ := own_rd hoa
              have HBV := Lib.hid hba
              have HQV := Lib.hid (HQU.out.kp hka (fun i hi => hi))
              have RA := Lib.hid ra
              clear hba hka hoa ra HBU HQU
              obtain ⟨A8, c8, w8, A9, c9, w9, hr8, hr9, r9, g9⟩ := two_app wa A' c' T Ay cy Y HQV.out.qx.rd HQV.out.qy.rd (by first | omega | simp) (by first | omega | simp)
              have R9 := Lib.hid r9
              have G9 := Lib.hid g9
              have HR8 := Lib.hid hr8
              have HR9 := Lib.hid hr9
              clear r9 g9 hr8 hr9
              go_wp2_with (first
                | (at_builtin; refine wpList_append_is (by rfl) (.tmp 200) (.tmp 201) 22 rfl _ _ _ rfl rfl HR8.out ?_)
                | (at_builtin; refine wpList_append_is (by rfl) (.tmp 202) (.tmp 203) 22 rfl _ _ _ rfl rfl HR9.out ?_))
              clear HR8 HR9
              refine (ints_same2 Aa A9 da c9 _ _ _ _ (T ++ Y) (by simp) (by simp) (by rw [List.length_append]; first | omega | simp) _ (RA.out.below G9.out) R9.out).mono ?_
              rintro e w' ⟨rfl, nz, rfl⟩
              have HBZ := Lib.hid ((HBV.out.grew G9.out).kp (kp_drewN (kp_refl (fun _ => False) _) nz) id id id)
              have HQZ := Lib.hid ((HQV.out.grew G9.out).kp (kp_drewN (kp_refl (fun _ => False) _) nz) (fun _ h => h.elim))
              clear HBV HQV RA R9 G9
              go_wp2_with fail
              go_roundw
              case rel => exact ⟨k + 1, g, c1, c2, T, Y, A', c', Ay, cy, by omega, by go_num, rfl, rfl, rfl, HBZ, HQZ⟩
              case measure => simp [intOf]; omega
          · skip
            as_aux_lemma =>
              have hq1 : ¬ (X.length : Int) < (k1 : Int) := by omega
              go_wp2_with fail
              refine (bput1_full g c1 c2 k1 k2 X Y n _ HB.out (by omega)).mono ?_
              rintro e w4 ⟨rfl, rfl⟩
              have HBT := HB
              have HQT := HQ
              clear HB HQ hroom
              go_wp2_with fail
              refine (blen g c1 c2 k1 k2 X Y _ HBT.out).mono ?_
              rintro e w' ⟨rfl, nb, rfl⟩
              have HBU := Lib.hid (HBT.out.kp (kp_drewN (kp_refl (fun _ => False) _) nb) id id id)
              have HQU := Lib.hid (HQT.out.kp (kp_drewN (kp_refl (fun _ => False) _) nb) (fun _ h => h.elim))
              clear HBT HQT
              go_wp2_with fail
              refine (ball_ok g c1 c2 k1 k2 X Y _ HBU.out).mono ?_
              rintro e wa ⟨va, rfl, hoa, hba, hka⟩
              obtain ⟨Aa, da, rfl, _, _, ra⟩ := own_rd hoa
              have HBV := Lib.hid hba
              have HQV := Lib.hid (HQU.out.kp hka (fun i hi => hi))
              have RA := Lib.hid ra
              clear hba hka hoa ra HBU HQU
              obtain ⟨A8, c8, w8, A9, c9, w9, hr8, hr9, r9, g9⟩ := two_app wa Ax cx X Ay cy Y HQV.out.qx.rd HQV.out.qy.rd (by first | omega | simp) (by first | omega | simp)
              have R9 := Lib.hid r9
              have G9 := Lib.hid g9
              have HR8 := Lib.hid hr8
              have HR9 := Lib.hid hr9
              clear r9 g9 hr8 hr9
              go_wp2_with (first
                | (at_builtin; refine wpList_append_is (by rfl) (.tmp 200) (.tmp 201) 22 rfl _ _ _ rfl rfl HR8.out ?_)
                | (at_builtin; refine wpList_append_is (by rfl) (.tmp 202) (.tmp 203) 22 rfl _ _ _ rfl rfl HR9.out ?_))
              clear HR8 HR9
              refine (ints_same2 Aa A9 da c9 _ _ _ _ (X ++ Y) (by simp) (by simp) (by rw [List.length_append]; first | omega | simp) _ (RA.out.below G9.out) R9.out).mono ?_
              rintro e w' ⟨rfl, nz, rfl⟩
              have HBZ := Lib.hid ((HBV.out.grew G9.out).kp (kp_drewN (kp_refl (fun _ => False) _) nz) id id id)
              have HQZ := Lib.hid ((HQV.out.grew G9.out).kp (kp_drewN (kp_refl (fun _ => False) _) nz) (fun _ h => h.elim))
              clear HBV HQV RA R9 G9
              go_wp2_with fail
              go_roundw
              case rel => exact ⟨k + 1, g, c1, c2, X, Y, Ax, cx, Ay, cy, by omega, by go_num, rfl, rfl, rfl, HBZ, HQZ⟩
              case measure => simp [intOf]; omega
        · by_cases h3 : op = 3
          · subst h3
            match X, Y, hXm, hYm, HB, HQ with
            | z :: X, Y, hXm, hYm, HB, HQ =>
              have hXm : X.length ≤ 256 := by simp at hXm; omega
              by_cases hcap : cx = 1
              · subst hcap
                as_aux_lemma =>
                  obtain ⟨adX, rfl, hbX, hzX⟩ := rd_i64 HQ.out.qx.rd 0 (by simp)
                  have hzX : _ = some (Value.int .i64 z) := hzX
                  rw [addr_zero] at hzX
                  go_wp2_with fail
                  refine (btake1 g c1 c2 k1 k2 z X Y _ HB.out).mono ?_
                  rintro e w4 ⟨rfl, hb4, hk4⟩
                  have hq4 := HQ.out.kp hk4 (fun i hi => .inl hi)
                  have hzc := HQ.out.qx
                  have hz4 : w4.cell? adX = some (.int .i64 z) := by
                    obtain ⟨ad2, hh, _, hc4⟩ := rd_i64 hq4.qx.rd 0 (by simp)
                    cases hh
                    have hc4 : _ = some (Value.int .i64 z) := hc4
                    rwa [addr_zero] at hc4
                  have HBT := Lib.hid hb4
                  have HQT := Lib.hid (hq4.dropX1.2)
                  obtain rfl : X = [] := hq4.dropX1.1
                  clear hb4 hk4 hq4 HB HQ hzc hbX hzX
                  go_wp2_with fail
                  clear hz4
                  refine (blen g c1 c2 k1 k2 [] Y _ HBT.out).mono ?_
                  rintro e w' ⟨rfl, nb, rfl⟩
                  have HBU := Lib.hid (HBT.out.kp (kp_drewN (kp_refl (fun _ => False) _) nb) id id id)
                  have HQU := Lib.hid (HQT.out.kp (kp_drewN (kp_refl (fun _ => False) _) nb) (fun _ h => h.elim))
                  clear HBT HQT
                  go_wp2_with fail
                  refine (ball_ok g c1 c2 k1 k2 [] Y _ HBU.out).mono ?_
                  rintro e wa ⟨va, rfl, hoa, hba, hka⟩
                  obtain ⟨Aa, da, rfl, _, _, ra⟩ := own_rd hoa
                  have HBV := Lib.hid hba
                  have HQV := Lib.hid (HQU.out.kp hka (fun i hi => hi))
                  have RA := Lib.hid ra
                  clear hba hka hoa ra HBU HQU
                  obtain ⟨A8, c8, w8, A9, c9, w9, hr8, hr9, r9, g9⟩ := two_app wa (some adX) 0 [] Ay cy Y HQV.out.qx.rd HQV.out.qy.rd (by first | omega | simp) (by first | omega | simp)
                  have R9 := Lib.hid r9
                  have G9 := Lib.hid g9
                  have HR8 := Lib.hid hr8
                  have HR9 := Lib.hid hr9
                  clear r9 g9 hr8 hr9
                  go_wp2_with (first
                    | (at_builtin; refine wpList_append_is (by rfl) (.tmp 200) (.tmp 201) 22 rfl _ _ _ rfl rfl HR8.out ?_)
                    | (at_builtin; refine wpList_append_is (by rfl) (.tmp 202) (.tmp 203) 22 rfl _ _ _ rfl rfl HR9.out ?_))
                  clear HR8 HR9
                  refine (ints_same2 Aa A9 da c9 _ _ _ _ ([] ++ Y) (by simp) (by simp) (by rw [List.length_append]; first | omega | simp) _ (RA.out.below G9.out) R9.out).mono ?_
                  rintro e w' ⟨rfl, nz, rfl⟩
                  have HBZ := Lib.hid ((HBV.out.grew G9.out).kp (kp_drewN (kp_refl (fun _ => False) _) nz) id id id)
                  have HQZ := Lib.hid ((HQV.out.grew G9.out).kp (kp_drewN (kp_refl (fun _ => False) _) nz) (fun _ h => h.elim))
                  clear HBV HQV RA R9 G9
                  go_wp2_with fail
                  go_roundw
                  case rel => exact ⟨k + 1, g, c1, c2, [], Y, (some adX), 0, Ay, cy, by omega, by go_num, rfl, rfl, rfl, HBZ, HQZ⟩
                  case measure => simp [intOf]; omega
              · skip
                as_aux_lemma =>
                  obtain ⟨adX, rfl, hbX, hzX⟩ := rd_i64 HQ.out.qx.rd 0 (by simp)
                  have hzX : _ = some (Value.int .i64 z) := hzX
                  rw [addr_zero] at hzX
                  go_wp2_with fail
                  refine (btake1 g c1 c2 k1 k2 z X Y _ HB.out).mono ?_
                  rintro e w4 ⟨rfl, hb4, hk4⟩
                  have hq4 := HQ.out.kp hk4 (fun i hi => .inl hi)
                  have hzc := HQ.out.qx
                  have hz4 : w4.cell? adX = some (.int .i64 z) := by
                    obtain ⟨ad2, hh, _, hc4⟩ := rd_i64 hq4.qx.rd 0 (by simp)
                    cases hh
                    have hc4 : _ = some (Value.int .i64 z) := hc4
                    rwa [addr_zero] at hc4
                  have HBT := Lib.hid hb4
                  have HQT := Lib.hid (hq4.dropX hcap)
                  clear hb4 hk4 hq4 HB HQ hzc hbX hzX
                  go_wp2_with fail
                  clear hz4
                  refine (blen g c1 c2 k1 k2 X Y _ HBT.out).mono ?_
                  rintro e w' ⟨rfl, nb, rfl⟩
                  have HBU := Lib.hid (HBT.out.kp (kp_drewN (kp_refl (fun _ => False) _) nb) id id id)
                  have HQU := Lib.hid (HQT.out.kp (kp_drewN (kp_refl (fun _ => False) _) nb) (fun _ h => h.elim))
                  clear HBT HQT
                  go_wp2_with fail
                  refine (ball_ok g c1 c2 k1 k2 X Y _ HBU.out).mono ?_
                  rintro e wa ⟨va, rfl, hoa, hba, hka⟩
                  obtain ⟨Aa, da, rfl, _, _, ra⟩ := own_rd hoa
                  have HBV := Lib.hid hba
                  have HQV := Lib.hid (HQU.out.kp hka (fun i hi => hi))
                  have RA := Lib.hid ra
                  clear hba hka hoa ra HBU HQU
                  obtain ⟨A8, c8, w8, A9, c9, w9, hr8, hr9, r9, g9⟩ := two_app wa (some ⟨adX.block, adX.off + 1, none⟩) (cx - 1) X Ay cy Y HQV.out.qx.rd HQV.out.qy.rd (by first | omega | simp) (by first | omega | simp)
                  have R9 := Lib.hid r9
                  have G9 := Lib.hid g9
                  have HR8 := Lib.hid hr8
                  have HR9 := Lib.hid hr9
                  clear r9 g9 hr8 hr9
                  go_wp2_with (first
                    | (at_builtin; refine wpList_append_is (by rfl) (.tmp 200) (.tmp 201) 22 rfl _ _ _ rfl rfl HR8.out ?_)
                    | (at_builtin; refine wpList_append_is (by rfl) (.tmp 202) (.tmp 203) 22 rfl _ _ _ rfl rfl HR9.out ?_))
                  clear HR8 HR9
                  refine (ints_same2 Aa A9 da c9 _ _ _ _ (X ++ Y) (by simp) (by simp) (by rw [List.length_append]; first | omega | simp) _ (RA.out.below G9.out) R9.out).mono ?_
                  rintro e w' ⟨rfl, nz, rfl⟩
                  have HBZ := Lib.hid ((HBV.out.grew G9.out).kp (kp_drewN (kp_refl (fun _ => False) _) nz) id id id)
                  have HQZ := Lib.hid ((HQV.out.grew G9.out).kp (kp_drewN (kp_refl (fun _ => False) _) nz) (fun _ h => h.elim))
                  clear HBV HQV RA R9 G9
                  go_wp2_with fail
                  go_roundw
                  case rel => exact ⟨k + 1, g, c1, c2, X, Y, (some ⟨adX.block, adX.off + 1, none⟩), (cx - 1), Ay, cy, by omega, by go_num, rfl, rfl, rfl, HBZ, HQZ⟩
                  case measure => simp [intOf]; omega
            | [], z :: Y, hXm, hYm, HB, HQ =>
              have hYm : Y.length ≤ 256 := by simp at hYm; omega
              by_cases hcap : cy = 1
              · subst hcap
                as_aux_lemma =>
                  obtain ⟨adY, rfl, hbY, hzY⟩ := rd_i64 HQ.out.qy.rd 0 (by simp)
                  have hzY : _ = some (Value.int .i64 z) := hzY
                  rw [addr_zero] at hzY
                  go_wp2_with fail
                  refine (btake2 g c1 c2 k1 k2 z Y _ HB.out).mono ?_
                  rintro e w4 ⟨rfl, hb4, hk4⟩
                  have hq4 := HQ.out.kp hk4 (fun i hi => .inr hi)
                  have hzc := HQ.out.qy
                  have hz4 : w4.cell? adY = some (.int .i64 z) := by
                    obtain ⟨ad2, hh, _, hc4⟩ := rd_i64 hq4.qy.rd 0 (by simp)
                    cases hh
                    have hc4 : _ = some (Value.int .i64 z) := hc4
                    rwa [addr_zero] at hc4
                  have HBT := Lib.hid hb4
                  have HQT := Lib.hid (hq4.dropY1.2)
                  obtain rfl : Y = [] := hq4.dropY1.1
                  clear hb4 hk4 hq4 HB HQ hzc hbY hzY
                  go_wp2_with fail
                  clear hz4
                  refine (blen g c1 c2 k1 k2 [] [] _ HBT.out).mono ?_
                  rintro e w' ⟨rfl, nb, rfl⟩
                  have HBU := Lib.hid (HBT.out.kp (kp_drewN (kp_refl (fun _ => False) _) nb) id id id)
                  have HQU := Lib.hid (HQT.out.kp (kp_drewN (kp_refl (fun _ => False) _) nb) (fun _ h => h.elim))
                  clear HBT HQT
                  go_wp2_with fail
                  refine (ball_ok g c1 c2 k1 k2 [] [] _ HBU.out).mono ?_
                  rintro e wa ⟨va, rfl, hoa, hba, hka⟩
                  obtain ⟨Aa, da, rfl, _, _, ra⟩ := own_rd hoa
                  have HBV := Lib.hid hba
                  have HQV := Lib.hid (HQU.out.kp hka (fun i hi => hi))
                  have RA := Lib.hid ra
                  clear hba hka hoa ra HBU HQU
                  obtain ⟨A8, c8, w8, A9, c9, w9, hr8, hr9, r9, g9⟩ := two_app wa Ax cx [] (some adY) 0 [] HQV.out.qx.rd HQV.out.qy.rd (by first | omega | simp) (by first | omega | simp)
                  have R9 := Lib.hid r9
                  have G9 := Lib.hid g9
                  have HR8 := Lib.hid hr8
                  have HR9 := Lib.hid hr9
                  clear r9 g9 hr8 hr9
                  go_wp2_with (first
                    | (at_builtin; refine wpList_append_is (by rfl) (.tmp 200) (.tmp 201) 22 rfl _ _ _ rfl rfl HR8.out ?_)
                    | (at_builtin; refine wpList_append_is (by rfl) (.tmp 202) (.tmp 203) 22 rfl _ _ _ rfl rfl HR9.out ?_))
                  clear HR8 HR9
                  refine (ints_same2 Aa A9 da c9 _ _ _ _ ([] ++ []) (by simp) (by simp) (by rw [List.length_append]; first | omega | simp) _ (RA.out.below G9.out) R9.out).mono ?_
                  rintro e w' ⟨rfl, nz, rfl⟩
                  have HBZ := Lib.hid ((HBV.out.grew G9.out).kp (kp_drewN (kp_refl (fun _ => False) _) nz) id id id)
                  have HQZ := Lib.hid ((HQV.out.grew G9.out).kp (kp_drewN (kp_refl (fun _ => False) _) nz) (fun _ h => h.elim))
                  clear HBV HQV RA R9 G9
                  go_wp2_with fail
                  go_roundw
                  case rel => exact ⟨k + 1, g, c1, c2, [], [], Ax, cx, (some adY), 0, by omega, by go_num, rfl, rfl, rfl, HBZ, HQZ⟩
                  case measure => simp [intOf]; omega
              · skip
                as_aux_lemma =>
                  obtain ⟨adY, rfl, hbY, hzY⟩ := rd_i64 HQ.out.qy.rd 0 (by simp)
                  have hzY : _ = some (Value.int .i64 z) := hzY
                  rw [addr_zero] at hzY
                  go_wp2_with fail
                  refine (btake2 g c1 c2 k1 k2 z Y _ HB.out).mono ?_
                  rintro e w4 ⟨rfl, hb4, hk4⟩
                  have hq4 := HQ.out.kp hk4 (fun i hi => .inr hi)
                  have hzc := HQ.out.qy
                  have hz4 : w4.cell? adY = some (.int .i64 z) := by
                    obtain ⟨ad2, hh, _, hc4⟩ := rd_i64 hq4.qy.rd 0 (by simp)
                    cases hh
                    have hc4 : _ = some (Value.int .i64 z) := hc4
                    rwa [addr_zero] at hc4
                  have HBT := Lib.hid hb4
                  have HQT := Lib.hid (hq4.dropY hcap)
                  clear hb4 hk4 hq4 HB HQ hzc hbY hzY
                  go_wp2_with fail
                  clear hz4
                  refine (blen g c1 c2 k1 k2 [] Y _ HBT.out).mono ?_
                  rintro e w' ⟨rfl, nb, rfl⟩
                  have HBU := Lib.hid (HBT.out.kp (kp_drewN (kp_refl (fun _ => False) _) nb) id id id)
                  have HQU := Lib.hid (HQT.out.kp (kp_drewN (kp_refl (fun _ => False) _) nb) (fun _ h => h.elim))
                  clear HBT HQT
                  go_wp2_with fail
                  refine (ball_ok g c1 c2 k1 k2 [] Y _ HBU.out).mono ?_
                  rintro e wa ⟨va, rfl, hoa, hba, hka⟩
                  obtain ⟨Aa, da, rfl, _, _, ra⟩ := own_rd hoa
                  have HBV := Lib.hid hba
                  have HQV := Lib.hid (HQU.out.kp hka (fun i hi => hi))
                  have RA := Lib.hid ra
                  clear hba hka hoa ra HBU HQU
                  obtain ⟨A8, c8, w8, A9, c9, w9, hr8, hr9, r9, g9⟩ := two_app wa Ax cx [] (some ⟨adY.block, adY.off + 1, none⟩) (cy - 1) Y HQV.out.qx.rd HQV.out.qy.rd (by first | omega | simp) (by first | omega | simp)
                  have R9 := Lib.hid r9
                  have G9 := Lib.hid g9
                  have HR8 := Lib.hid hr8
                  have HR9 := Lib.hid hr9
                  clear r9 g9 hr8 hr9
                  go_wp2_with (first
                    | (at_builtin; refine wpList_append_is (by rfl) (.tmp 200) (.tmp 201) 22 rfl _ _ _ rfl rfl HR8.out ?_)
                    | (at_builtin; refine wpList_append_is (by rfl) (.tmp 202) (.tmp 203) 22 rfl _ _ _ rfl rfl HR9.out ?_))
                  clear HR8 HR9
                  refine (ints_same2 Aa A9 da c9 _ _ _ _ ([] ++ Y) (by simp) (by simp) (by rw [List.length_append]; first | omega | simp) _ (RA.out.below G9.out) R9.out).mono ?_
                  rintro e w' ⟨rfl, nz, rfl⟩
                  have HBZ := Lib.hid ((HBV.out.grew G9.out).kp (kp_drewN (kp_refl (fun _ => False) _) nz) id id id)
                  have HQZ := Lib.hid ((HQV.out.grew G9.out).kp (kp_drewN (kp_refl (fun _ => False) _) nz) (fun _ h => h.elim))
                  clear HBV HQV RA R9 G9
                  go_wp2_with fail
                  go_roundw
                  case rel => exact ⟨k + 1, g, c1, c2, [], Y, Ax, cx, (some ⟨adY.block, adY.off + 1, none⟩), (cy - 1), by omega, by go_num, rfl, rfl, rfl, HBZ, HQZ⟩
                  case measure => simp [intOf]; omega
            | [], [], hXm, hYm, HB, HQ =>
              as_aux_lemma =>
                go_wp2_with fail
                refine (btake0 g c1 c2 k1 k2 _ HB.out).mono ?_
                rintro e w4 ⟨rfl, rfl⟩
                have HBT := HB
                have HQT := HQ
                clear HB HQ
                go_wp2_with fail
                refine (blen g c1 c2 k1 k2 [] [] _ HBT.out).mono ?_
                rintro e w' ⟨rfl, nb, rfl⟩
                have HBU := Lib.hid (HBT.out.kp (kp_drewN (kp_refl (fun _ => False) _) nb) id id id)
                have HQU := Lib.hid (HQT.out.kp (kp_drewN (kp_refl (fun _ => False) _) nb) (fun _ h => h.elim))
                clear HBT HQT
                go_wp2_with fail
                refine (ball_ok g c1 c2 k1 k2 [] [] _ HBU.out).mono ?_
                rintro e wa ⟨va, rfl, hoa, hba, hka⟩
                obtain ⟨Aa, da, rfl, _, _, ra⟩ := own_rd hoa
                have HBV := Lib.hid hba
                have HQV := Lib.hid (HQU.out.kp hka (fun i hi => hi))
                have RA := Lib.hid ra
                clear hba hka hoa ra HBU HQU
                obtain ⟨A8, c8, w8, A9, c9, w9, hr8, hr9, r9, g9⟩ := two_app wa Ax cx [] Ay cy [] HQV.out.qx.rd HQV.out.qy.rd (by first | omega | simp) (by first | omega | simp)
                have R9 := Lib.hid r9
                have G9 := Lib.hid g9
                have HR8 := Lib.hid hr8
                have HR9 := Lib.hid hr9
                clear r9 g9 hr8 hr9
                go_wp2_with (first
                  | (at_builtin; refine wpList_append_is (by rfl) (.tmp 200) (.tmp 201) 22 rfl _ _ _ rfl rfl HR8.out ?_)
                  | (at_builtin; refine wpList_append_is (by rfl) (.tmp 202) (.tmp 203) 22 rfl _ _ _ rfl rfl HR9.out ?_))
                clear HR8 HR9
                refine (ints_same2 Aa A9 da c9 _ _ _ _ ([] ++ []) (by simp) (by simp) (by rw [List.length_append]; first | omega | simp) _ (RA.out.below G9.out) R9.out).mono ?_
                rintro e w' ⟨rfl, nz, rfl⟩
                have HBZ := Lib.hid ((HBV.out.grew G9.out).kp (kp_drewN (kp_refl (fun _ => False) _) nz) id id id)
                have HQZ := Lib.hid ((HQV.out.grew G9.out).kp (kp_drewN (kp_refl (fun _ => False) _) nz) (fun _ h => h.elim))
                clear HBV HQV RA R9 G9
                go_wp2_with fail
                go_roundw
                case rel => exact ⟨k + 1, g, c1, c2, [], [], Ax, cx, Ay, cy, by omega, by go_num, rfl, rfl, rfl, HBZ, HQZ⟩
                case measure => simp [intOf]; omega
          · by_cases h4 : op = 4
            · subst h4
              as_aux_lemma =>
                go_wp2_with fail
                refine (bclear_ok g c1 c2 k1 k2 X Y _ HB.out).mono ?_
                rintro e w4 ⟨rfl, hb4, hk4⟩
                have HBT := Lib.hid hb4
                have HQT := Lib.hid (HQ.out.kp hk4 (fun i hi => hi)).clear
                clear hb4 hk4 HB HQ
                go_wp2_with fail
                refine (blen g c1 c2 k1 k2 [] [] _ HBT.out).mono ?_
                rintro e w' ⟨rfl, nb, rfl⟩
                have HBU := Lib.hid (HBT.out.kp (kp_drewN (kp_refl (fun _ => False) _) nb) id id id)
                have HQU := Lib.hid (HQT.out.kp (kp_drewN (kp_refl (fun _ => False) _) nb) (fun _ h => h.elim))
                clear HBT HQT
                go_wp2_with fail
                refine (ball_ok g c1 c2 k1 k2 [] [] _ HBU.out).mono ?_
                rintro e wa ⟨va, rfl, hoa, hba, hka⟩
                obtain ⟨Aa, da, rfl, _, _, ra⟩ := own_rd hoa
                have HBV := Lib.hid hba
                have HQV := Lib.hid (HQU.out.kp hka (fun i hi => hi))
                have RA := Lib.hid ra
                clear hba hka hoa ra HBU HQU
                obtain ⟨A8, c8, w8, A9, c9, w9, hr8, hr9, r9, g9⟩ := two_app wa none 0 [] none 0 [] HQV.out.qx.rd HQV.out.qy.rd (by first | omega | simp) (by first | omega | simp)
                have R9 := Lib.hid r9
                have G9 := Lib.hid g9
                have HR8 := Lib.hid hr8
                have HR9 := Lib.hid hr9
                clear r9 g9 hr8 hr9
                go_wp2_with (first
                  | (at_builtin; refine wpList_append_is (by rfl) (.tmp 200) (.tmp 201) 22 rfl _ _ _ rfl rfl HR8.out ?_)
                  | (at_builtin; refine wpList_append_is (by rfl) (.tmp 202) (.tmp 203) 22 rfl _ _ _ rfl rfl HR9.out ?_))
                clear HR8 HR9
                refine (ints_same2 Aa A9 da c9 _ _ _ _ ([] ++ []) (by simp) (by simp) (by rw [List.length_append]; first | omega | simp) _ (RA.out.below G9.out) R9.out).mono ?_
                rintro e w' ⟨rfl, nz, rfl⟩
                have HBZ := Lib.hid ((HBV.out.grew G9.out).kp (kp_drewN (kp_refl (fun _ => False) _) nz) id id id)
                have HQZ := Lib.hid ((HQV.out.grew G9.out).kp (kp_drewN (kp_refl (fun _ => False) _) nz) (fun _ h => h.elim))
                clear HBV HQV RA R9 G9
                go_wp2_with fail
                go_roundw
                case rel => exact ⟨k + 1, g, c1, c2, [], [], none, 0, none, 0, by omega, by go_num, rfl, rfl, rfl, HBZ, HQZ⟩
                case measure => simp [intOf]; omega
            · by_cases h5 : op = 5
              · subst h5
                as_aux_lemma =>
                  go_wp2_with fail
                  refine (btwin_ok g c1 c2 k1 k2 X Y _ HB.out).mono ?_
                  rintro e w4 ⟨tg, d1, d2, rfl, hlg, hl1, hl2, hbt, hb4, hk4⟩
                  have hq4 := HQ.out.moved hk4 hlg hl1 hl2
                  have m1 := HB.out.h1.lt
                  have hqx1 := HQ.out.x1
                  have hqy1 := HQ.out.y1
                  have hzc1 := HQ.out.l1
                  clear HB HQ
                  by_cases hroom : X.length < k1
                  · go_wp2_with fail
                    refine (bput1 g c1 c2 k1 k2 X Y 9 _ hb4 hroom).mono ?_
                    rintro e w5 ⟨rfl, hb5, hk5⟩
                    obtain ⟨z, Z, hzz⟩ : ∃ z Z, X ++ [9] = z :: Z := by cases X; exact ⟨9, [], rfl⟩; exact ⟨_, _, rfl⟩
                    rw [hzz] at hb5
                    have hbt5 := hbt.kp hk5 (by omega) (by omega) (by omega)
                    have hq5 := hq4.kp1 hk5 hqx1 hqy1 hzc1
                    clear hzz hbt hq4 hb4 hk5
                    go_wp2_with fail
                    refine (btake1 g c1 c2 k1 k2 z Z Y _ hb5).mono ?_
                    rintro e w6 ⟨rfl, hb6, hk6⟩
                    have HBT := Lib.hid (hbt5.kp hk6 (by omega) (by omega) (by omega))
                    have HQT := Lib.hid (hq5.kp1 hk6 hqx1 hqy1 hzc1)
                    clear hbt5 hq5 hb5 hb6 hk6 hroom hqx1 hqy1 hzc1 hlg hl1 hl2 hk4
                    go_wp2_with fail
                    refine (blen tg d1 d2 k1 k2 X Y _ HBT.out).mono ?_
                    rintro e w' ⟨rfl, nb, rfl⟩
                    have HBU := Lib.hid (HBT.out.kp (kp_drewN (kp_refl (fun _ => False) _) nb) id id id)
                    have HQU := Lib.hid (HQT.out.kp (kp_drewN (kp_refl (fun _ => False) _) nb) (fun _ h => h.elim))
                    clear HBT HQT
                    go_wp2_with fail
                    refine (ball_ok tg d1 d2 k1 k2 X Y _ HBU.out).mono ?_
                    rintro e wa ⟨va, rfl, hoa, hba, hka⟩
                    obtain ⟨Aa, da, rfl, _, _, ra⟩ := own_rd hoa
                    have HBV := Lib.hid hba
                    have HQV := Lib.hid (HQU.out.kp hka (fun i hi => hi))
                    have RA := Lib.hid ra
                    clear hba hka hoa ra HBU HQU
                    obtain ⟨A8, c8, w8, A9, c9, w9, hr8, hr9, r9, g9⟩ := two_app wa Ax cx X Ay cy Y HQV.out.qx.rd HQV.out.qy.rd (by first | omega | simp) (by first | omega | simp)
                    have R9 := Lib.hid r9
                    have G9 := Lib.hid g9
                    have HR8 := Lib.hid hr8
                    have HR9 := Lib.hid hr9
                    clear r9 g9 hr8 hr9
                    go_wp2_with (first
                      | (at_builtin; refine wpList_append_is (by rfl) (.tmp 200) (.tmp 201) 22 rfl _ _ _ rfl rfl HR8.out ?_)
                      | (at_builtin; refine wpList_append_is (by rfl) (.tmp 202) (.tmp 203) 22 rfl _ _ _ rfl rfl HR9.out ?_))
                    clear HR8 HR9
                    refine (ints_same2 Aa A9 da c9 _ _ _ _ (X ++ Y) (by simp) (by simp) (by rw [List.length_append]; first | omega | simp) _ (RA.out.below G9.out) R9.out).mono ?_
                    rintro e w' ⟨rfl, nz, rfl⟩
                    have HBZ := Lib.hid ((HBV.out.grew G9.out).kp (kp_drewN (kp_refl (fun _ => False) _) nz) id id id)
                    have HQZ := Lib.hid ((HQV.out.grew G9.out).kp (kp_drewN (kp_refl (fun _ => False) _) nz) (fun _ h => h.elim))
                    clear HBV HQV RA R9 G9
                    go_wp2_with fail
                    go_roundw
                    case rel => exact ⟨k + 1, tg, d1, d2, X, Y, Ax, cx, Ay, cy, by omega, by go_num, rfl, rfl, rfl, HBZ, HQZ⟩
                    case measure => simp [intOf]; omega
                  · go_wp2_with fail
                    refine (bput1_full g c1 c2 k1 k2 X Y 9 _ hb4 (by omega)).mono ?_
                    rintro e w5 ⟨rfl, rfl⟩
                    obtain ⟨z, Z, hzz⟩ : ∃ z Z, X = z :: Z := by cases X with | nil => simp at hroom; omega | cons z Z => exact ⟨z, Z, rfl⟩
                    have hb5 := hb4
                    rw [hzz] at hb5
                    clear hzz hb4
                    go_wp2_with fail
                    refine (btake1 g c1 c2 k1 k2 z Z Y _ hb5).mono ?_
                    rintro e w6 ⟨rfl, hb6, hk6⟩
                    have HBT := Lib.hid (hbt.kp hk6 (by omega) (by omega) (by omega))
                    have HQT := Lib.hid (hq4.kp1 hk6 hqx1 hqy1 hzc1)
                    clear hbt hq4 hb5 hb6 hk6 hroom hqx1 hqy1 hzc1 hlg hl1 hl2 hk4
                    go_wp2_with fail
                    refine (blen tg d1 d2 k1 k2 X Y _ HBT.out).mono ?_
                    rintro e w' ⟨rfl, nb, rfl⟩
                    have HBU := Lib.hid (HBT.out.kp (kp_drewN (kp_refl (fun _ => False) _) nb) id id id)
                    have HQU := Lib.hid (HQT.out.kp (kp_drewN (kp_refl (fun _ => False) _) nb) (fun _ h => h.elim))
                    clear HBT HQT
                    go_wp2_with fail
                    refine (ball_ok tg d1 d2 k1 k2 X Y _ HBU.out).mono ?_
                    rintro e wa ⟨va, rfl, hoa, hba, hka⟩
                    obtain ⟨Aa, da, rfl, _, _, ra⟩ := own_rd hoa
                    have HBV := Lib.hid hba
                    have HQV := Lib.hid (HQU.out.kp hka (fun i hi => hi))
                    have RA := Lib.hid ra
                    clear hba hka hoa ra HBU HQU
                    obtain ⟨A8, c8, w8, A9, c9, w9, hr8, hr9, r9, g9⟩ := two_app wa Ax cx X Ay cy Y HQV.out.qx.rd HQV.out.qy.rd (by first | omega | simp) (by first | omega | simp)
                    have R9 := Lib.hid r9
                    have G9 := Lib.hid g9
                    have HR8 := Lib.hid hr8
                    have HR9 := Lib.hid hr9
                    clear r9 g9 hr8 hr9
                    go_wp2_with (first
                      | (at_builtin; refine wpList_append_is (by rfl) (.tmp 200) (.tmp 201) 22 rfl _ _ _ rfl rfl HR8.out ?_)
                      | (at_builtin; refine wpList_append_is (by rfl) (.tmp 202) (.tmp 203) 22 rfl _ _ _ rfl rfl HR9.out ?_))
                    clear HR8 HR9
                    refine (ints_same2 Aa A9 da c9 _ _ _ _ (X ++ Y) (by simp) (by simp) (by rw [List.length_append]; first | omega | simp) _ (RA.out.below G9.out) R9.out).mono ?_
                    rintro e w' ⟨rfl, nz, rfl⟩
                    have HBZ := Lib.hid ((HBV.out.grew G9.out).kp (kp_drewN (kp_refl (fun _ => False) _) nz) id id id)
                    have HQZ := Lib.hid ((HQV.out.grew G9.out).kp (kp_drewN (kp_refl (fun _ => False) _) nz) (fun _ h => h.elim))
                    clear HBV HQV RA R9 G9
                    go_wp2_with fail
                    go_roundw
                    case rel => exact ⟨k + 1, tg, d1, d2, X, Y, Ax, cx, Ay, cy, by omega, by go_num, rfl, rfl, rfl, HBZ, HQZ⟩
                    case measure => simp [intOf]; omega
              · skip
                as_aux_lemma =>
                  skip
                  have HBT := HB
                  have HQT := HQ
                  clear HB HQ
                  go_wp2_with fail
                  refine (blen g c1 c2 k1 k2 X Y _ HBT.out).mono ?_
                  rintro e w' ⟨rfl, nb, rfl⟩
                  have HBU := Lib.hid (HBT.out.kp (kp_drewN (kp_refl (fun _ => False) _) nb) id id id)
                  have HQU := Lib.hid (HQT.out.kp (kp_drewN (kp_refl (fun _ => False) _) nb) (fun _ h => h.elim))
                  clear HBT HQT
                  go_wp2_with fail
                  refine (ball_ok g c1 c2 k1 k2 X Y _ HBU.out).mono ?_
                  rintro e wa ⟨va, rfl, hoa, hba, hka⟩
                  obtain ⟨Aa, da, rfl, _, _, ra⟩ := own_rd hoa
                  have HBV := Lib.hid hba
                  have HQV := Lib.hid (HQU.out.kp hka (fun i hi => hi))
                  have RA := Lib.hid ra
                  clear hba hka hoa ra HBU HQU
                  obtain ⟨A8, c8, w8, A9, c9, w9, hr8, hr9, r9, g9⟩ := two_app wa Ax cx X Ay cy Y HQV.out.qx.rd HQV.out.qy.rd (by first | omega | simp) (by first | omega | simp)
                  have R9 := Lib.hid r9
                  have G9 := Lib.hid g9
                  have HR8 := Lib.hid hr8
                  have HR9 := Lib.hid hr9
                  clear r9 g9 hr8 hr9
                  go_wp2_with (first
                    | (at_builtin; refine wpList_append_is (by rfl) (.tmp 200) (.tmp 201) 22 rfl _ _ _ rfl rfl HR8.out ?_)
                    | (at_builtin; refine wpList_append_is (by rfl) (.tmp 202) (.tmp 203) 22 rfl _ _ _ rfl rfl HR9.out ?_))
                  clear HR8 HR9
                  refine (ints_same2 Aa A9 da c9 _ _ _ _ (X ++ Y) (by simp) (by simp) (by rw [List.length_append]; first | omega | simp) _ (RA.out.below G9.out) R9.out).mono ?_
                  rintro e w' ⟨rfl, nz, rfl⟩
                  have HBZ := Lib.hid ((HBV.out.grew G9.out).kp (kp_drewN (kp_refl (fun _ => False) _) nz) id id id)
                  have HQZ := Lib.hid ((HQV.out.grew G9.out).kp (kp_drewN (kp_refl (fun _ => False) _) nz) (fun _ h => h.elim))
                  clear HBV HQV RA R9 G9
                  go_wp2_with fail
                  go_roundw
                  case rel => exact ⟨k + 1, g, c1, c2, X, Y, Ax, cx, Ay, cy, by omega, by go_num, rfl, rfl, rfl, HBZ, HQZ⟩
                  case measure => simp [intOf]; omega
    · obtain rfl : k = acts.length := by omega
      go_wp2_with fail
      go_ret
      exact ⟨rfl, HQ.out.gr⟩
end Go.Proofs.Ytpoimhjencpieaa
