/- Logs: rows of numbers compared; what 'known' asks. -/
import Derived.Test.YtpoimhjencpieaaWalD
namespace Go.Proofs.Ytpoimhjencpieaa
open Go.RowKit
set_option linter.unusedVariables false
set_option maxRecDepth 100000 in
theorem ints_any (A A' : Option Addr) (c c' B B' : Nat) (l : List Int) (hl : l.length ≤ 1048576) (w : World) (hr : Rd w B A (i64L l)) (hr' : Rd w B' A' (i64L l)) :
    Calls Try.prog 18 #[.slice A l.length c, .slice A' l.length c'] w fun e w' => e = .returned (.bool true) ∧ ∃ n, w' = w.drewN n := by
  have HR := Lib.hid hr
  have HR' := Lib.hid hr'
  clear hr hr'
  go_enter Try.func18, Try.ntmps18
  go_wp2_with fail
  go_loopw [5] (fun iv wr => ∃ (k n : Nat), k ≤ l.length ∧ iv = .int .i64 k ∧ wr = w.drewN n) (fun iv _ => l.length - (intOf iv).toNat)
  case atStart => exact ⟨0, 0, Nat.zero_le _, rfl, rfl⟩
  case round =>
    obtain ⟨k, n, hk, rfl, rfl⟩ := hrel
    by_cases hlt : k < l.length
    · obtain ⟨ad, rfl, hbl, hc⟩ := rd_i64 HR.out k hlt
      obtain ⟨ad', rfl, hbl', hc'⟩ := rd_i64 HR'.out k hlt
      have hk0 : (0 : Int) ≤ (k : Int) := by omega
      have hk1 : (k : Int) < (l.length : Int) := by omega
      generalize l[k] = z at *
      go_wp2_with fail
      go_quiet (fail)
      go_wp2_with fail
      go_roundw
      case rel => exact ⟨k + 1, n + nq, by omega, by go_num, rfl⟩
      case measure => simp [intOf]; omega
    · obtain rfl : k = l.length := by omega
      go_wp2_with fail
      go_ret
      exact ⟨rfl, _, rfl⟩
/-- an op on one log leaves another apart from it -/
theorem dis_step {w : World} {base g g2 room2 sy2 c2 : Nat} {A A' A2 : Option Addr} {l2 : List Int} (ht : WalS w base g2 room2 sy2 A2 c2 l2) (hd : ∀ i, WN g2 A2 i → ¬ WN g A i) (hn : ∀ i, WN g A' i → WN g A i ∨ w.heap.size ≤ i) : ∀ i, WN g2 A2 i → ¬ WN g A' i := by
  intro i h2 hA
  rcases hn i hA with h | h
  · exact hd i h2 h
  · have := ht.lowN i h2
    omega
/-- what is freshly owned stands in no block that was -/
theorem fresh_rdN {w w0 : World} {N : Nat → Prop} {A : Option Addr} {n c : Nat} {e : TypeId} {xs : List Value} (h : w.ownsRow w0.heap.size e 1 (.slice A n c) n xs) (hn : ∀ i, N i → i < w0.heap.size) : RdN w N A xs := by
  obtain ⟨A', c', hq, _, _, h2⟩ := own_rd h
  injection hq with e1
  subst e1
  refine RdN.of h2 (Nat.le_refl _) (fun ad had hh => ?_)
  subst had
  have := (ownsRow_lt h _ rfl).1
  have := hn _ hh
  omega
theorem rd_new_i64 (w : World) (l : List Int) : Rd (w.alloc (.cells (i64L l).toArray 3)) (w.heap.size + 1) (some ⟨w.heap.size, 0, none⟩) (i64L l) := by
  have := rd_new w 3 (i64L l).toArray (0, 0)
  simpa using this
set_option maxRecDepth 100000 in
set_option maxHeartbeats 1600000 in
theorem wlknown_any (w : World) : Calls Try.prog 43 #[] w fun e w' => e = .returned (.bool true) ∧ Grew w w' := by
  go_enter Try.func43, Try.ntmps43
  go_wp2_with fail
  refine (wnew_ok 3 (by omega) (by omega) w.heap.size _ (Nat.le_refl _)).mono ?_
  rintro e w1 ⟨rfl, hb1, s1⟩
  have hg0 : w.heap.size ≤ w.heap.size := Nat.le_refl _
  obtain ⟨g, hg⟩ : ∃ g, g = w.heap.size := ⟨_, rfl⟩
  rw [← hg] at s1 ⊢
  have HG := Lib.hid hg
  clear hg
  go_wp2_with fail
  refine (wnew_no 0 (.inl (by omega)) _).mono ?_
  rintro e w' ⟨rfl, rfl⟩
  go_wp2_with fail
  refine (wappend_ok _ g 3 0 _ _ [] 1 (by decide) _ s1).mono ?_
  rintro e w2 ⟨rfl, A2, c2, s2, k2, n2⟩
  have b2 := below_kp hb1 k2 hb1.size (fun i hi => HG.out ▸ (s1.lowN i hi).1)
  go_wp2_with fail
  refine (wsync_any _ g 3 0 _ _ [1] _ s2).mono ?_
  rintro e w3 ⟨rfl, s3, k3⟩
  have b3 := below_kp b2 k3 b2.size (fun i hi => HG.out ▸ (s2.lowN i hi).1)
  go_wp2_with fail
  refine (wappend_ok _ g 3 1 _ _ [1] 2 (by decide) _ s3).mono ?_
  rintro e w4 ⟨rfl, A4, c4, s4, k4, n4⟩
  have b4 := below_kp b3 k4 b3.size (fun i hi => HG.out ▸ (s3.lowN i hi).1)
  go_wp2_with fail
  refine (wappend_ok _ g 3 1 _ _ [1, 2] 3 (by decide) _ s4).mono ?_
  rintro e w5 ⟨rfl, A5, c5, s5, k5, n5⟩
  have b5 := below_kp b4 k5 b4.size (fun i hi => HG.out ▸ (s4.lowN i hi).1)
  go_wp2_with fail
  refine (wappend_full _ g 3 1 _ _ [1, 2, 3] 4 (by decide) _ s5).mono ?_
  rintro e w6 ⟨rfl, A6, c6, s6, k6, n6⟩
  have b6 := below_kp b5 k6 b5.size (fun i hi => HG.out ▸ (s5.lowN i hi).1)
  go_wp2_with fail
  refine (wwaits_any _ g 3 1 _ _ [1, 2, 3] _ s6).mono ?_
  rintro e w' ⟨rfl, n7, rfl⟩
  rw [show ((([1, 2, 3] : List Int).length : Int) - ((1 : Nat) : Int)) = 2 from rfl]
  have b7 := grew_drewN b6 n7
  go_wp2_with fail
  refine (wtwin_any _ g 3 1 _ _ [1, 2, 3] _ (s6.drewN n7)).mono ?_
  rintro e w8 ⟨g2, B2, d2, rfl, t8, hb8, f8⟩
  have b8 := grew_trans b7 hb8
  have s8 := (s6.drewN n7).kp (kp_grew (S := fun _ => False) hb8) (fun _ _ => id)
  have dis8 : ∀ i, WN g2 B2 i → ¬ WN g A6 i := fun i h1 h2 => by
    have := f8 i h1
    have := ((s6.drewN n7).lowN i h2).2
    omega
  go_wp2_with fail
  refine (wcrash_any _ g 3 1 _ _ [1, 2, 3] 1 (by omega) _ s8).mono ?_
  rintro e w9 ⟨rfl, A9, c9, s9, k9, n9⟩
  rw [show keptN 1 ([1, 2, 3] : List Int).length 1 = 2 from by decide] at s9
  have b9 := below_kp b8 k9 b8.size (fun i hi => HG.out ▸ (s8.lowN i hi).1)
  have t9 := t8.kp k9 dis8
  have dis9 := dis_step t8 dis8 n9
  go_wp2_with fail
  refine (wall_any _ g 3 2 _ _ _ _ s9).mono ?_
  rintro e w10 ⟨La, Lc, rfl, ho10, hb10⟩
  have b10 := grew_trans b9 hb10
  have s10 := s9.kp (kp_grew (S := fun _ => False) hb10) (fun _ _ => id)
  have t10 := t9.kp (kp_grew (S := fun _ => False) hb10) (fun _ _ => id)
  have r10 := fresh_rdN ho10 (N := WN g A9) (fun i hi => (s9.lowN i hi).2)
  go_wp2_with fail
  obtain ⟨ad9, had9⟩ : ∃ ad, A9 = some ad := by
    obtain ⟨ad, had, _⟩ := rd_i64 s10.rd.1 0 (by simp)
    exact ⟨ad, had⟩
  subst had9
  refine (wtrim_ok _ g 3 2 _ _ (List.take 2 [1, 2, 3]) 2 9 (by omega) (by omega) (by omega) _ s10).mono ?_
  rintro e w11 ⟨rfl, A11, c11, s11, k11, n11⟩
  have b11 := below_kp b10 k11 b10.size (fun i hi => HG.out ▸ (s10.lowN i hi).1)
  have t11 := t10.kp k11 dis9
  have dis11 := dis_step t10 dis9 n11
  have r11 := r10.kp k11 (fun _ h => h)
  have r11' : RdN w11 (WN g (some ad9)) La (i64L [1, 2]) := r11
  have s11' : WalS w11 _ g 3 1 A11 c11 [9] := s11
  go_wp2_with fail
  have k12 : Kp (fun _ => False) w11 (w11.alloc (.cells #[.int .i64 1, .int .i64 2] 3)) := kp_alloc (kp_refl _ _) _
  refine (ints_any La (some ⟨w11.heap.size, 0, none⟩) Lc 2 _ _ [1, 2] (by decide) _ (r11'.kp k12 (fun _ h => h.elim)).rd (rd_new_i64 w11 [1, 2])).mono ?_
  rintro e w' ⟨rfl, n12, rfl⟩
  have b12 := grew_drewN (grew_alloc b11 (.cells #[.int .i64 1, .int .i64 2] 3)) n12
  have s12 := (s11'.kp k12 (fun _ _ => id)).drewN n12
  have t12 := (t11.kp k12 (fun _ _ => id)).drewN n12
  generalize (w11.alloc (.cells #[.int .i64 1, .int .i64 2] 3)).drewN n12 = w12 at *
  go_wp2_with fail
  refine (wall_any _ g 3 1 _ _ [9] _ s12).mono ?_
  rintro e w13 ⟨Ma, Mc, rfl, ho13, hb13⟩
  have b13 := grew_trans b12 hb13
  have s13 := s12.kp (kp_grew (S := fun _ => False) hb13) (fun _ _ => id)
  have t13 := t12.kp (kp_grew (S := fun _ => False) hb13) (fun _ _ => id)
  have r13 := fresh_rdN ho13 (N := WN g A11) (fun i hi => (s12.lowN i hi).2)
  go_wp2_with fail
  have k14 : Kp (fun _ => False) w13 (w13.alloc (.cells #[.int .i64 9] 3)) := kp_alloc (kp_refl _ _) _
  refine (ints_any Ma (some ⟨w13.heap.size, 0, none⟩) Mc 1 _ _ [9] (by decide) _ (r13.kp k14 (fun _ h => h.elim)).rd (rd_new_i64 w13 [9])).mono ?_
  rintro e w' ⟨rfl, n14, rfl⟩
  have b14 := grew_drewN (grew_alloc b13 (.cells #[.int .i64 9] 3)) n14
  have s14 := (s13.kp k14 (fun _ _ => id)).drewN n14
  have t14 := (t13.kp k14 (fun _ _ => id)).drewN n14
  generalize (w13.alloc (.cells #[.int .i64 9] 3)).drewN n14 = w14 at *
  go_wp2_with fail
  refine (wlen_any _ g 3 1 _ _ [9] _ s14).mono ?_
  rintro e w' ⟨rfl, rfl⟩
  go_wp2_with fail
  refine (wwaits_any _ g 3 1 _ _ [9] _ s14).mono ?_
  rintro e w' ⟨rfl, n15, rfl⟩
  rw [show ((([9] : List Int).length : Int) - ((1 : Nat) : Int)) = 0 from rfl]
  have t15 := t14.drewN n15
  have b15 := grew_drewN b14 n15
  go_wp2_with fail
  refine (wlen_any _ g2 3 1 _ _ [1, 2, 3] _ t15).mono ?_
  rintro e w' ⟨rfl, rfl⟩
  go_wp2_with fail
  refine (wtrim_state _ g2 3 1 _ _ [1, 2, 3] 2 0 (by omega) (by decide) (by omega) _ t15).mono ?_
  rintro e w' ⟨rfl, rfl⟩
  go_wp2_with fail
  refine (wtrim_arg _ g2 3 1 _ _ [1, 2, 3] 0 0 (.inl (by omega)) _ t15).mono ?_
  rintro e w' ⟨rfl, rfl⟩
  go_wp2_with fail
  go_ret
  exact ⟨rfl, b15⟩
end Go.Proofs.Ytpoimhjencpieaa
