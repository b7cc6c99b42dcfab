/- The statements of layer 8: WalPlays. -/
import Derived.Test.YtpoimhjencpieaaWalK
import Derived.Outline
namespace Go.Proofs.Ytpoimhjencpieaa
open Go.RowKit
set_option linter.unusedVariables false
theorem RdN.drewN {w : World} {N : Nat → Prop} {A : Option Addr} {xs : List Value} (h : RdN w N A xs) (n : Nat) : RdN (w.drewN n) N A xs := h
theorem RdN.step {w w' : World} {N N' : Nat → Prop} {A : Option Addr} {xs : List Value} (h : RdN w N A xs) (k : Kp N w w') (hn : ∀ i, N' i → N i ∨ w.heap.size ≤ i) : RdN w' N' A xs := fun j hj => by
  obtain ⟨ad, h1, h2, h3⟩ := h j hj
  refine ⟨ad, h1, ⟨Nat.lt_of_lt_of_le h2.1 k.size, fun hh => ?_⟩, ?_⟩
  · rcases hn _ hh with h' | h'
    · exact h2.2 h'
    · omega
  · rw [← h3]
    exact World.cell?_of_block (k.block _ (by rw [blk_add]; exact h2.1) (by rw [blk_add]; exact h2.2))
theorem RdN.chg' {w w0 : World} {N N' M : Nat → Prop} {A : Option Addr} {xs : List Value} (h : RdN w (fun i => N i ∨ M i) A xs) (hn : ∀ i, N' i → N i ∨ w0.heap.size ≤ i) (h0 : RdN w0 (fun _ => False) A xs) : RdN w (fun i => N' i ∨ M i) A xs := fun j hj => by
  obtain ⟨ad, h1, h2, h3⟩ := h j hj
  obtain ⟨ad', e1, e2, _⟩ := h0 j hj
  rw [h1] at e1
  injection e1 with e1
  subst e1
  refine ⟨ad, h1, ⟨h2.1, fun hh => ?_⟩, h3⟩
  rcases hh with hh | hh
  · rcases hn _ hh with h4 | h4
    · exact h2.2 (.inl h4)
    · omega
  · exact h2.2 (.inr hh)
theorem RdN.take_ {w : World} {N : Nat → Prop} {A : Option Addr} {l : List Int} (h : RdN w N A (i64L l)) (n : Nat) : Rd w w.heap.size A (i64L (l.take n)) := by
  intro k hk
  have hk' : k < l.length := by simp [i64L] at hk; omega
  obtain ⟨ad, h1, h2, h3⟩ := h k (by simpa [i64L] using hk')
  exact ⟨ad, h1, h2.1, by rw [h3]; simp [i64L]⟩
set_option maxRecDepth 100000 in
theorem walPlays_big (room : Int) (A : Option Addr) (c : Nat) (acts : List (Int × Int)) (w : World) (h : 200 < acts.length) :
    Calls Try.prog 10 #[.int .i64 room, .slice A acts.length c] w fun e w' => e = .returned (.bool true) ∧ Grew w w' := by
  go_enter Try.func10, Try.ntmps10
  go_wp2_with (refine (wlknown_any _).mono ?_; rintro e w1 ⟨rfl, hb1⟩)
  go_ret
  exact ⟨rfl, hb1⟩
set_option maxRecDepth 100000 in
theorem walPlays_no (room : Int) (A : Option Addr) (c : Nat) (acts : List (Int × Int)) (w : World) (h : acts.length ≤ 200) (ha : room < 1 ∨ 65536 < room) :
    Calls Try.prog 10 #[.int .i64 room, .slice A acts.length c] w fun e w' => e = .returned (.bool true) ∧ Grew w w' := by
  rcases ha with ha | ha
  · go_enter Try.func10, Try.ntmps10
    go_wp2_with (refine (wlknown_any _).mono ?_; rintro e w1 ⟨rfl, hb1⟩)
    refine (wnew_no room (.inl ha) _).mono ?_
    rintro e w' ⟨rfl, rfl⟩
    go_wp2_with fail
    go_ret
    exact ⟨rfl, hb1⟩
  · have h0 : ¬ room < 1 := by omega
    go_enter Try.func10, Try.ntmps10
    go_wp2_with (refine (wlknown_any _).mono ?_; rintro e w1 ⟨rfl, hb1⟩)
    refine (wnew_no room (.inr ha) _).mono ?_
    rintro e w' ⟨rfl, rfl⟩
    go_wp2_with fail
    go_ret
    exact ⟨rfl, hb1⟩
set_option maxRecDepth 100000 in
set_option maxHeartbeats 8000000 in
theorem walPlays_law (room : Nat) (A0 : Option Addr) (c0 : Nat) (acts : List (Int × Int)) (w : World) (h : acts.length ≤ 200) (ha : 1 ≤ room ∧ room ≤ 65536) (hr : RdA w w.heap.size A0 acts)
    (hwf : ∀ p ∈ acts, (-9223372036854775808 ≤ p.1 ∧ p.1 ≤ 9223372036854775807) ∧ -9223372036854775808 ≤ p.2 ∧ p.2 ≤ 9223372036854775807) :
    Calls Try.prog 10 #[.int .i64 room, .slice A0 acts.length c0] w fun e w' => e = .returned (.bool true) ∧ Grew w w' := by
  obtain ⟨i0, hi0, hz0, hz1, hz2⟩ := info_parts infoI
  have hr0 : ¬ (room : Int) < 1 := by omega
  have hr1 : ¬ (65536 : Int) < (room : Int) := by omega
  go_enter Try.func10, Try.ntmps10
  go_wp2_with (refine (wlknown_any _).mono ?_; rintro e w1 ⟨rfl, hb1⟩)
  refine (wnew_ok room ha.1 ha.2 w.heap.size _ hb1.size).mono ?_
  rintro e w2 ⟨rfl, hb2, hs2⟩
  have hb2' : Grew w w2 := grew_trans hb1 hb2
  have HW := Lib.hid hwf
  have HR := Lib.hid hr
  obtain ⟨g0, hg0⟩ : ∃ g, g = w1.heap.size := ⟨_, rfl⟩
  rw [← hg0] at hs2 ⊢
  clear hg0 hb1 hb2 hwf hr
  go_wp2_with fail
  go_loopw [5, 7, 8, 9] (fun pv xv sv iv wr => ∃ (k g : Nat) (A : Option Addr) (c sy : Nat) (l : List Int) (Ax : Option Addr) (cx : Nat), k ≤ acts.length ∧ iv = .int .i64 k ∧ pv = .pointer (some ⟨g, 0, none⟩) ∧ xv = .slice Ax l.length cx ∧ sv = .int .i64 sy ∧ l.length ≤ cx ∧ WalS wr w.heap.size g room sy A c l ∧ RdN wr (WN g A) Ax (i64L l) ∧ Grew w wr) (fun _ _ _ i _ => acts.length - (intOf i).toNat)
  case atStart => exact ⟨0, g0, none, 0, 0, [], none, 0, Nat.zero_le _, rfl, rfl, rfl, rfl, Nat.le_refl _, hs2, RdN.nil_ _ _ _, hb2'⟩
  case round =>
    clear hs2 hb2'
    obtain ⟨k, g, A, c, sy, l, Ax, cx, hk, rfl, rfl, rfl, rfl, hcx, hs, hx, hb⟩ := hrel
    by_cases hlt : k < acts.length
    · obtain ⟨ad, rfl, hbl, hc0, hc1⟩ := HR.out.below hb k hlt
      have hw := HW.out _ (List.getElem_mem hlt)
      generalize acts[k].1 = op at *
      generalize acts[k].2 = n at *
      have hzs := hb.size
      have hsy := hs.sy
      have hle := hs.le
      have hsI : (sy : Int) ≤ (l.length : Int) := by omega
      have HS := Lib.hid hs
      have HX := Lib.hid hx
      have hlo : ∀ i, WN g A i → w.heap.size ≤ i := fun i hi => (hs.lowN i hi).1
      have HLO := Lib.hid hlo
      clear hs hx hlo
      by_cases h1 : op = 1
      · subst h1
        by_cases hfull : l.length = room
        · skip
          have hq1 : ¬ (l.length : Int) < (room : Int) := by omega
          have hq2 : ¬ l.length < room := by omega
          have HF := Lib.hid hfull
          clear hfull
          go_wp2_with fail
          refine (wappend_full _ g room sy A c l n HF.out _ HS.out).mono ?_
          rintro e w4 ⟨rfl, A4, c4, hsT, k4, n4⟩
          have hbT := below_kp hb k4 hzs HLO.out
          have hcT := hcx
          have hrT := HX.out.step k4 n4
          go_wp2_with fail
          have hlT : (l).length ≤ 65536 := by have := hsT.le; omega
          have hsyT := hsT.sy
          have HST := Lib.hid hsT
          have HRT := Lib.hid hrT
          clear hsT hrT
          refine (wall_any _ g room (sy) A4 c4 l _ HST.out).mono ?_
          rintro e wa ⟨La, Lc, rfl, hoa, hba⟩
          have HSA := Lib.hid (HST.out.kp (kp_grew (S := fun _ => False) hba) (fun _ _ => id))
          have HRA := Lib.hid (HRT.out.kp (kp_grew (S := fun _ => False) hba) (fun _ h => h.elim))
          have HOA := Lib.hid (fresh_rdN hoa (N := fun _ => False) (fun _ h => h.elim)).rd
          clear hoa
          have hbA := grew_trans hbT hba
          go_wp2_with fail
          refine (ints_any La Ax Lc cx _ _ l (by omega) _ HOA.out HRA.out.rd).mono ?_
          rintro e w' ⟨rfl, na, rfl⟩
          go_wp2_with fail
          refine (wlen_any _ g room (sy) A4 c4 l _ (HSA.out.drewN na)).mono ?_
          rintro e w' ⟨rfl, rfl⟩
          go_wp2_with fail
          refine (wwaits_any _ g room (sy) A4 c4 l _ (HSA.out.drewN na)).mono ?_
          rintro e w' ⟨rfl, nb, rfl⟩
          go_wp2_with fail
          go_roundw
          case rel => exact ⟨k + 1, g, A4, c4, sy, l, Ax, cx, by omega, by go_num, rfl, rfl, rfl, hcT, HSA.out.drewN (na + nb), HRA.out.drewN (na + nb), grew_drewN hbA (na + nb)⟩
          case measure => simp [intOf]; omega
        · skip
          have hfl : l.length < room := by omega
          have hq1 : (l.length : Int) < (room : Int) := by omega
          clear hfull
          go_wp2_with fail
          refine (wappend_ok _ g room sy A c l n hfl _ HS.out).mono ?_
          rintro e w4 ⟨rfl, A4, c4, hs4, k4, n4⟩
          have hb4 := below_kp hb k4 hzs HLO.out
          have HS4 := Lib.hid hs4
          have hmade : (w4.alloc (.cells #[] 3)).ownsRow w4.heap.size 3 1 (.slice (some ⟨w4.heap.size, 0, none⟩) 0 0) 0 [] := World.ownsRow_made w4 #[] 0 (Nat.le_refl _) (by decide) rfl
          have HSR := Lib.hid ((HX.out.step k4 n4).rd.alloc (Nat.le_refl _) (.cells #[] 3))
          clear hs4
          go_wp2_with (first
            | (at_builtin; refine wpList_append_rd rfl (.tmp 79) (.tmp 80) _ rfl w4.heap.size 3 i0 _ 8 Try.underlying22 hi0 hz0 hz1 hz2 rfl (.slice (some ⟨w4.heap.size, 0, none⟩) 0 0) 0 [] rfl hmade w4.heap.size Ax l.length cx (i64L l) rfl (i64L_length l) HSR.out (i64L_one l) (by unfold maxLen; omega) (by omega) (by simp) ?_; intro v5 w5 hown5 hgrow5 hat5; simp only [Nat.zero_add, List.nil_append] at hown5; obtain ⟨A5, c5, rfl, hn5, _, hrd5⟩ := own_rd hown5; have hz5 := hgrow5.size; simp only [World.size_alloc] at hz5)
            | (at_builtin; refine wpList_append_rd rfl (.tmp 81) (.tmp 83) _ rfl w4.heap.size 3 i0 _ 8 Try.underlying22 hi0 hz0 hz1 hz2 rfl (.slice A5 l.length c5) l.length (i64L l) rfl (hown5.alloc _) (w5.heap.size + 1) (some ⟨w5.heap.size, 0, none⟩) 1 1 [.int .i64 n] rfl rfl (rd_new w5 3 #[.int .i64 n] (0, 0)) (one_int _ _) (by unfold maxLen; omega) (by omega) (by simp; omega) ?_; intro v6 w6 hown6 hgrow6 hat6; obtain ⟨A6, c6, rfl, hn6, _, hrd6⟩ := own_rd hown6))
          have hb46 : Grew w4 w6 := (((((Below.refl _ _).alloc (Nat.le_refl _) _).grown hgrow5 (by simp) (fun i hi => by have h2 : some w4.heap.size = some i := hi; injection h2 with h2; omega)).alloc (by omega) _).grown hgrow6 (by simp; omega) (fun i hi => own_base hown5 i hi))
          obtain ⟨L, hL⟩ : ∃ L, l ++ [n] = L := ⟨_, rfl⟩
          have hlen : L.length = l.length + 1 := by rw [← hL]; simp
          have hown6' : w6.ownsRow w4.heap.size 3 1 (.slice A6 (l.length + 1) c6) (l.length + 1) (i64L L) := by rw [← hL, i64L_append]; exact hown6
          have hs6 := HS4.out.kp (kp_grew (S := fun _ => False) hb46) (fun _ _ => id)
          rw [hL] at hs6
          have hsT := hs6
          have hrT := fresh_rdN (N := WN g A4) hown6' (fun i hi => (HS4.out.lowN i hi).2)
          have hcT : L.length ≤ c6 := by omega
          have hbT := grew_trans hb4 hb46
          rw [← hlen]
          clear hown6 hown6' hown5 hs6 hmade hat5 hat6 hrd5 hrd6 hlen hL
          have hlT : (L).length ≤ 65536 := by have := hsT.le; omega
          have hsyT := hsT.sy
          have HST := Lib.hid hsT
          have HRT := Lib.hid hrT
          clear hsT hrT
          refine (wall_any _ g room (sy) A4 c4 L _ HST.out).mono ?_
          rintro e wa ⟨La, Lc, rfl, hoa, hba⟩
          have HSA := Lib.hid (HST.out.kp (kp_grew (S := fun _ => False) hba) (fun _ _ => id))
          have HRA := Lib.hid (HRT.out.kp (kp_grew (S := fun _ => False) hba) (fun _ h => h.elim))
          have HOA := Lib.hid (fresh_rdN hoa (N := fun _ => False) (fun _ h => h.elim)).rd
          clear hoa
          have hbA := grew_trans hbT hba
          go_wp2_with fail
          refine (ints_any La A6 Lc c6 _ _ L (by omega) _ HOA.out HRA.out.rd).mono ?_
          rintro e w' ⟨rfl, na, rfl⟩
          go_wp2_with fail
          refine (wlen_any _ g room (sy) A4 c4 L _ (HSA.out.drewN na)).mono ?_
          rintro e w' ⟨rfl, rfl⟩
          go_wp2_with fail
          refine (wwaits_any _ g room (sy) A4 c4 L _ (HSA.out.drewN na)).mono ?_
          rintro e w' ⟨rfl, nb, rfl⟩
          go_wp2_with fail
          go_roundw
          case rel => exact ⟨k + 1, g, A4, c4, sy, L, A6, c6, by omega, by go_num, rfl, rfl, rfl, hcT, HSA.out.drewN (na + nb), HRA.out.drewN (na + nb), grew_drewN hbA (na + nb)⟩
          case measure => simp [intOf]; omega
      by_cases h2 : op = 2
      · subst h2
        go_wp2_with fail
        refine (wsync_any _ g room sy A c l _ HS.out).mono ?_
        rintro e w4 ⟨rfl, hsT, k4⟩
        have hbT := below_kp hb k4 hzs HLO.out
        have hcT := hcx
        have hrT := HX.out.kp k4 (fun _ h => h)
        go_wp2_with fail
        have hlT : (l).length ≤ 65536 := by have := hsT.le; omega
        have hsyT := hsT.sy
        have HST := Lib.hid hsT
        have HRT := Lib.hid hrT
        clear hsT hrT
        refine (wall_any _ g room (l.length) A c l _ HST.out).mono ?_
        rintro e wa ⟨La, Lc, rfl, hoa, hba⟩
        have HSA := Lib.hid (HST.out.kp (kp_grew (S := fun _ => False) hba) (fun _ _ => id))
        have HRA := Lib.hid (HRT.out.kp (kp_grew (S := fun _ => False) hba) (fun _ h => h.elim))
        have HOA := Lib.hid (fresh_rdN hoa (N := fun _ => False) (fun _ h => h.elim)).rd
        clear hoa
        have hbA := grew_trans hbT hba
        go_wp2_with fail
        refine (ints_any La Ax Lc cx _ _ l (by omega) _ HOA.out HRA.out.rd).mono ?_
        rintro e w' ⟨rfl, na, rfl⟩
        go_wp2_with fail
        refine (wlen_any _ g room (l.length) A c l _ (HSA.out.drewN na)).mono ?_
        rintro e w' ⟨rfl, rfl⟩
        go_wp2_with fail
        refine (wwaits_any _ g room (l.length) A c l _ (HSA.out.drewN na)).mono ?_
        rintro e w' ⟨rfl, nb, rfl⟩
        go_wp2_with fail
        go_roundw
        case rel => exact ⟨k + 1, g, A, c, l.length, l, Ax, cx, by omega, by go_num, rfl, rfl, rfl, hcT, HSA.out.drewN (na + nb), HRA.out.drewN (na + nb), grew_drewN hbA (na + nb)⟩
        case measure => simp [intOf]; omega
      by_cases h3 : op = 3
      · subst h3
        obtain ⟨K, hKK⟩ : ∃ K, keptN sy l.length n = K := ⟨_, rfl⟩
        by_cases hk1 : n < 0
        · have hm1 : ¬ 0 ≤ n := by omega
          have hm2 : (0 : Int) ≤ (l.length : Int) - (sy : Int) := by omega
          have hKs : K = sy := by rw [← hKK]; unfold keptN; omega
          rw [hKs] at hKK
          clear hKs
          go_wp2_with fail
          refine (wcrash_any _ g room sy A c l n (by omega) _ HS.out).mono ?_
          rintro e w4 ⟨rfl, A4, c4, hs4, k4, n4⟩
          have hb4 := below_kp hb k4 hzs HLO.out
          rw [hKK] at hs4
          have HS4 := Lib.hid hs4
          have hmade : (w4.alloc (.cells #[] 3)).ownsRow w4.heap.size 3 1 (.slice (some ⟨w4.heap.size, 0, none⟩) 0 0) 0 [] := World.ownsRow_made w4 #[] 0 (Nat.le_refl _) (by decide) rfl
          have HSR := Lib.hid ((RdN.take_ (HX.out.step k4 n4) sy).alloc (Nat.le_refl _) (.cells #[] 3))
          have HKK := Lib.hid hKK
          have hltk : (i64L (l.take sy)).length = sy := by rw [i64L_length, List.length_take]; omega
          have HLT := Lib.hid hltk
          clear hs4 hKK hltk
          go_wp2_with (at_builtin; refine wpList_append_rd rfl _ _ _ rfl w4.heap.size 3 i0 _ 8 Try.underlying22 hi0 hz0 hz1 hz2 rfl _ 0 [] rfl hmade w4.heap.size Ax sy cx (i64L (l.take sy)) rfl HLT.out HSR.out (i64L_one _) (by unfold maxLen; omega) (by omega) (by simp) ?_; intro v5 w5 hown5 hgrow5 hat5; simp only [Nat.zero_add, List.nil_append] at hown5; obtain ⟨A5, c5, rfl, hn5, _, hrd5⟩ := own_rd hown5)
          have hb45 : Grew w4 w5 := (((Below.refl _ _).alloc (Nat.le_refl _) _).grown hgrow5 (by simp) (fun i hi => by have h2 : some w4.heap.size = some i := hi; injection h2 with h2; omega))
          obtain ⟨L, hL⟩ : ∃ L, l.take sy = L := ⟨_, rfl⟩
          have hlen : L.length = sy := by rw [← hL, List.length_take]; omega
          have hsT := HS4.out.kp (kp_grew (S := fun _ => False) hb45) (fun _ _ => id)
          rw [hL] at hsT hown5
          have hrT := fresh_rdN (N := WN g A4) hown5 (fun i hi => (HS4.out.lowN i hi).2)
          have hcT : L.length ≤ c5 := by omega
          have hbT := grew_trans hb4 hb45
          first | rw [← hlen] | skip
          rw [← hlen] at hsT
          clear hown5 hmade hat5 hrd5 hL hlen
          have hlT : (L).length ≤ 65536 := by have := hsT.le; omega
          have hsyT := hsT.sy
          have HST := Lib.hid hsT
          have HRT := Lib.hid hrT
          clear hsT hrT
          refine (wall_any _ g room (L.length) A4 c4 L _ HST.out).mono ?_
          rintro e wa ⟨La, Lc, rfl, hoa, hba⟩
          have HSA := Lib.hid (HST.out.kp (kp_grew (S := fun _ => False) hba) (fun _ _ => id))
          have HRA := Lib.hid (HRT.out.kp (kp_grew (S := fun _ => False) hba) (fun _ h => h.elim))
          have HOA := Lib.hid (fresh_rdN hoa (N := fun _ => False) (fun _ h => h.elim)).rd
          clear hoa
          have hbA := grew_trans hbT hba
          go_wp2_with fail
          refine (ints_any La A5 Lc c5 _ _ L (by omega) _ HOA.out HRA.out.rd).mono ?_
          rintro e w' ⟨rfl, na, rfl⟩
          go_wp2_with fail
          refine (wlen_any _ g room (L.length) A4 c4 L _ (HSA.out.drewN na)).mono ?_
          rintro e w' ⟨rfl, rfl⟩
          go_wp2_with fail
          refine (wwaits_any _ g room (L.length) A4 c4 L _ (HSA.out.drewN na)).mono ?_
          rintro e w' ⟨rfl, nb, rfl⟩
          go_wp2_with fail
          go_roundw
          case rel => exact ⟨k + 1, g, A4, c4, L.length, L, A5, c5, by omega, by go_num, rfl, rfl, rfl, hcT, HSA.out.drewN (na + nb), HRA.out.drewN (na + nb), grew_drewN hbA (na + nb)⟩
          case measure => simp [intOf]; omega
        by_cases hk2 : n ≤ (l.length : Int) - (sy : Int)
        · have hm1 : 0 ≤ n := by omega
          have hKn : (sy : Int) + n = (K : Int) := by rw [← hKK]; unfold keptN; omega
          have hKl : K ≤ l.length := by omega
          go_wp2_with fail
          refine (wcrash_any _ g room sy A c l n (by omega) _ HS.out).mono ?_
          rintro e w4 ⟨rfl, A4, c4, hs4, k4, n4⟩
          have hb4 := below_kp hb k4 hzs HLO.out
          rw [hKK] at hs4
          have HS4 := Lib.hid hs4
          have hmade : (w4.alloc (.cells #[] 3)).ownsRow w4.heap.size 3 1 (.slice (some ⟨w4.heap.size, 0, none⟩) 0 0) 0 [] := World.ownsRow_made w4 #[] 0 (Nat.le_refl _) (by decide) rfl
          have HSR := Lib.hid ((RdN.take_ (HX.out.step k4 n4) K).alloc (Nat.le_refl _) (.cells #[] 3))
          have HKK := Lib.hid hKK
          have hltk : (i64L (l.take K)).length = K := by rw [i64L_length, List.length_take]; omega
          have HLT := Lib.hid hltk
          clear hs4 hKK hltk
          go_wp2_with (at_builtin; refine wpList_append_rd rfl _ _ _ rfl w4.heap.size 3 i0 _ 8 Try.underlying22 hi0 hz0 hz1 hz2 rfl _ 0 [] rfl hmade w4.heap.size Ax K cx (i64L (l.take K)) rfl HLT.out HSR.out (i64L_one _) (by unfold maxLen; omega) (by omega) (by simp) ?_; intro v5 w5 hown5 hgrow5 hat5; simp only [Nat.zero_add, List.nil_append] at hown5; obtain ⟨A5, c5, rfl, hn5, _, hrd5⟩ := own_rd hown5)
          have hb45 : Grew w4 w5 := (((Below.refl _ _).alloc (Nat.le_refl _) _).grown hgrow5 (by simp) (fun i hi => by have h2 : some w4.heap.size = some i := hi; injection h2 with h2; omega))
          obtain ⟨L, hL⟩ : ∃ L, l.take K = L := ⟨_, rfl⟩
          have hlen : L.length = K := by rw [← hL, List.length_take]; omega
          have hsT := HS4.out.kp (kp_grew (S := fun _ => False) hb45) (fun _ _ => id)
          rw [hL] at hsT hown5
          have hrT := fresh_rdN (N := WN g A4) hown5 (fun i hi => (HS4.out.lowN i hi).2)
          have hcT : L.length ≤ c5 := by omega
          have hbT := grew_trans hb4 hb45
          first | rw [← hlen] | skip
          rw [← hlen] at hsT
          clear hown5 hmade hat5 hrd5 hL hlen hKn hKl
          have hlT : (L).length ≤ 65536 := by have := hsT.le; omega
          have hsyT := hsT.sy
          have HST := Lib.hid hsT
          have HRT := Lib.hid hrT
          clear hsT hrT
          refine (wall_any _ g room (L.length) A4 c4 L _ HST.out).mono ?_
          rintro e wa ⟨La, Lc, rfl, hoa, hba⟩
          have HSA := Lib.hid (HST.out.kp (kp_grew (S := fun _ => False) hba) (fun _ _ => id))
          have HRA := Lib.hid (HRT.out.kp (kp_grew (S := fun _ => False) hba) (fun _ h => h.elim))
          have HOA := Lib.hid (fresh_rdN hoa (N := fun _ => False) (fun _ h => h.elim)).rd
          clear hoa
          have hbA := grew_trans hbT hba
          go_wp2_with fail
          refine (ints_any La A5 Lc c5 _ _ L (by omega) _ HOA.out HRA.out.rd).mono ?_
          rintro e w' ⟨rfl, na, rfl⟩
          go_wp2_with fail
          refine (wlen_any _ g room (L.length) A4 c4 L _ (HSA.out.drewN na)).mono ?_
          rintro e w' ⟨rfl, rfl⟩
          go_wp2_with fail
          refine (wwaits_any _ g room (L.length) A4 c4 L _ (HSA.out.drewN na)).mono ?_
          rintro e w' ⟨rfl, nb, rfl⟩
          go_wp2_with fail
          go_roundw
          case rel => exact ⟨k + 1, g, A4, c4, L.length, L, A5, c5, by omega, by go_num, rfl, rfl, rfl, hcT, HSA.out.drewN (na + nb), HRA.out.drewN (na + nb), grew_drewN hbA (na + nb)⟩
          case measure => simp [intOf]; omega
        · have hm1 : 0 ≤ n := by omega
          have hKn : (sy : Int) + ((l.length : Int) - (sy : Int)) = (K : Int) := by rw [← hKK]; unfold keptN; omega
          have hKl : K ≤ l.length := by omega
          go_wp2_with fail
          refine (wcrash_any _ g room sy A c l n (by omega) _ HS.out).mono ?_
          rintro e w4 ⟨rfl, A4, c4, hs4, k4, n4⟩
          have hb4 := below_kp hb k4 hzs HLO.out
          rw [hKK] at hs4
          have HS4 := Lib.hid hs4
          have hmade : (w4.alloc (.cells #[] 3)).ownsRow w4.heap.size 3 1 (.slice (some ⟨w4.heap.size, 0, none⟩) 0 0) 0 [] := World.ownsRow_made w4 #[] 0 (Nat.le_refl _) (by decide) rfl
          have HSR := Lib.hid ((RdN.take_ (HX.out.step k4 n4) K).alloc (Nat.le_refl _) (.cells #[] 3))
          have HKK := Lib.hid hKK
          have hltk : (i64L (l.take K)).length = K := by rw [i64L_length, List.length_take]; omega
          have HLT := Lib.hid hltk
          clear hs4 hKK hltk
          go_wp2_with (at_builtin; refine wpList_append_rd rfl _ _ _ rfl w4.heap.size 3 i0 _ 8 Try.underlying22 hi0 hz0 hz1 hz2 rfl _ 0 [] rfl hmade w4.heap.size Ax K cx (i64L (l.take K)) rfl HLT.out HSR.out (i64L_one _) (by unfold maxLen; omega) (by omega) (by simp) ?_; intro v5 w5 hown5 hgrow5 hat5; simp only [Nat.zero_add, List.nil_append] at hown5; obtain ⟨A5, c5, rfl, hn5, _, hrd5⟩ := own_rd hown5)
          have hb45 : Grew w4 w5 := (((Below.refl _ _).alloc (Nat.le_refl _) _).grown hgrow5 (by simp) (fun i hi => by have h2 : some w4.heap.size = some i := hi; injection h2 with h2; omega))
          obtain ⟨L, hL⟩ : ∃ L, l.take K = L := ⟨_, rfl⟩
          have hlen : L.length = K := by rw [← hL, List.length_take]; omega
          have hsT := HS4.out.kp (kp_grew (S := fun _ => False) hb45) (fun _ _ => id)
          rw [hL] at hsT hown5
          have hrT := fresh_rdN (N := WN g A4) hown5 (fun i hi => (HS4.out.lowN i hi).2)
          have hcT : L.length ≤ c5 := by omega
          have hbT := grew_trans hb4 hb45
          first | rw [← hlen] | skip
          rw [← hlen] at hsT
          clear hown5 hmade hat5 hrd5 hL hlen hKn hKl
          have hlT : (L).length ≤ 65536 := by have := hsT.le; omega
          have hsyT := hsT.sy
          have HST := Lib.hid hsT
          have HRT := Lib.hid hrT
          clear hsT hrT
          refine (wall_any _ g room (L.length) A4 c4 L _ HST.out).mono ?_
          rintro e wa ⟨La, Lc, rfl, hoa, hba⟩
          have HSA := Lib.hid (HST.out.kp (kp_grew (S := fun _ => False) hba) (fun _ _ => id))
          have HRA := Lib.hid (HRT.out.kp (kp_grew (S := fun _ => False) hba) (fun _ h => h.elim))
          have HOA := Lib.hid (fresh_rdN hoa (N := fun _ => False) (fun _ h => h.elim)).rd
          clear hoa
          have hbA := grew_trans hbT hba
          go_wp2_with fail
          refine (ints_any La A5 Lc c5 _ _ L (by omega) _ HOA.out HRA.out.rd).mono ?_
          rintro e w' ⟨rfl, na, rfl⟩
          go_wp2_with fail
          refine (wlen_any _ g room (L.length) A4 c4 L _ (HSA.out.drewN na)).mono ?_
          rintro e w' ⟨rfl, rfl⟩
          go_wp2_with fail
          refine (wwaits_any _ g room (L.length) A4 c4 L _ (HSA.out.drewN na)).mono ?_
          rintro e w' ⟨rfl, nb, rfl⟩
          go_wp2_with fail
          go_roundw
          case rel => exact ⟨k + 1, g, A4, c4, L.length, L, A5, c5, by omega, by go_num, rfl, rfl, rfl, hcT, HSA.out.drewN (na + nb), HRA.out.drewN (na + nb), grew_drewN hbA (na + nb)⟩
          case measure => simp [intOf]; omega
      by_cases h4 : op = 4
      · subst h4
        by_cases ha1 : n < 1
        · have hARG : n < 1 ∨ (l.length : Int) < n := .inl ha1
          go_wp2_with fail
          refine (wtrim_arg _ g room sy A c l n n hARG _ HS.out).mono ?_
          rintro e w' ⟨rfl, rfl⟩
          have hsT := HS.out
          have hrT := HX.out
          have hbT := hb
          have hcT := hcx
          go_wp2_with fail
          have hlT : (l).length ≤ 65536 := by have := hsT.le; omega
          have hsyT := hsT.sy
          have HST := Lib.hid hsT
          have HRT := Lib.hid hrT
          clear hsT hrT
          refine (wall_any _ g room (sy) A c l _ HST.out).mono ?_
          rintro e wa ⟨La, Lc, rfl, hoa, hba⟩
          have HSA := Lib.hid (HST.out.kp (kp_grew (S := fun _ => False) hba) (fun _ _ => id))
          have HRA := Lib.hid (HRT.out.kp (kp_grew (S := fun _ => False) hba) (fun _ h => h.elim))
          have HOA := Lib.hid (fresh_rdN hoa (N := fun _ => False) (fun _ h => h.elim)).rd
          clear hoa
          have hbA := grew_trans hbT hba
          go_wp2_with fail
          refine (ints_any La Ax Lc cx _ _ l (by omega) _ HOA.out HRA.out.rd).mono ?_
          rintro e w' ⟨rfl, na, rfl⟩
          go_wp2_with fail
          refine (wlen_any _ g room (sy) A c l _ (HSA.out.drewN na)).mono ?_
          rintro e w' ⟨rfl, rfl⟩
          go_wp2_with fail
          refine (wwaits_any _ g room (sy) A c l _ (HSA.out.drewN na)).mono ?_
          rintro e w' ⟨rfl, nb, rfl⟩
          go_wp2_with fail
          go_roundw
          case rel => exact ⟨k + 1, g, A, c, sy, l, Ax, cx, by omega, by go_num, rfl, rfl, rfl, hcT, HSA.out.drewN (na + nb), HRA.out.drewN (na + nb), grew_drewN hbA (na + nb)⟩
          case measure => simp [intOf]; omega
        by_cases ha2 : (l.length : Int) < n
        · have hARG : n < 1 ∨ (l.length : Int) < n := .inr ha2
          go_wp2_with fail
          refine (wtrim_arg _ g room sy A c l n n hARG _ HS.out).mono ?_
          rintro e w' ⟨rfl, rfl⟩
          have hsT := HS.out
          have hrT := HX.out
          have hbT := hb
          have hcT := hcx
          go_wp2_with fail
          have hlT : (l).length ≤ 65536 := by have := hsT.le; omega
          have hsyT := hsT.sy
          have HST := Lib.hid hsT
          have HRT := Lib.hid hrT
          clear hsT hrT
          refine (wall_any _ g room (sy) A c l _ HST.out).mono ?_
          rintro e wa ⟨La, Lc, rfl, hoa, hba⟩
          have HSA := Lib.hid (HST.out.kp (kp_grew (S := fun _ => False) hba) (fun _ _ => id))
          have HRA := Lib.hid (HRT.out.kp (kp_grew (S := fun _ => False) hba) (fun _ h => h.elim))
          have HOA := Lib.hid (fresh_rdN hoa (N := fun _ => False) (fun _ h => h.elim)).rd
          clear hoa
          have hbA := grew_trans hbT hba
          go_wp2_with fail
          refine (ints_any La Ax Lc cx _ _ l (by omega) _ HOA.out HRA.out.rd).mono ?_
          rintro e w' ⟨rfl, na, rfl⟩
          go_wp2_with fail
          refine (wlen_any _ g room (sy) A c l _ (HSA.out.drewN na)).mono ?_
          rintro e w' ⟨rfl, rfl⟩
          go_wp2_with fail
          refine (wwaits_any _ g room (sy) A c l _ (HSA.out.drewN na)).mono ?_
          rintro e w' ⟨rfl, nb, rfl⟩
          go_wp2_with fail
          go_roundw
          case rel => exact ⟨k + 1, g, A, c, sy, l, Ax, cx, by omega, by go_num, rfl, rfl, rfl, hcT, HSA.out.drewN (na + nb), HRA.out.drewN (na + nb), grew_drewN hbA (na + nb)⟩
          case measure => simp [intOf]; omega
        by_cases hst : (sy : Int) < n
        · skip
          go_wp2_with fail
          refine (wtrim_state _ g room sy A c l n n (by omega) (by omega) hst _ HS.out).mono ?_
          rintro e w' ⟨rfl, rfl⟩
          have hsT := HS.out
          have hrT := HX.out
          have hbT := hb
          have hcT := hcx
          go_wp2_with fail
          have hlT : (l).length ≤ 65536 := by have := hsT.le; omega
          have hsyT := hsT.sy
          have HST := Lib.hid hsT
          have HRT := Lib.hid hrT
          clear hsT hrT
          refine (wall_any _ g room (sy) A c l _ HST.out).mono ?_
          rintro e wa ⟨La, Lc, rfl, hoa, hba⟩
          have HSA := Lib.hid (HST.out.kp (kp_grew (S := fun _ => False) hba) (fun _ _ => id))
          have HRA := Lib.hid (HRT.out.kp (kp_grew (S := fun _ => False) hba) (fun _ h => h.elim))
          have HOA := Lib.hid (fresh_rdN hoa (N := fun _ => False) (fun _ h => h.elim)).rd
          clear hoa
          have hbA := grew_trans hbT hba
          go_wp2_with fail
          refine (ints_any La Ax Lc cx _ _ l (by omega) _ HOA.out HRA.out.rd).mono ?_
          rintro e w' ⟨rfl, na, rfl⟩
          go_wp2_with fail
          refine (wlen_any _ g room (sy) A c l _ (HSA.out.drewN na)).mono ?_
          rintro e w' ⟨rfl, rfl⟩
          go_wp2_with fail
          refine (wwaits_any _ g room (sy) A c l _ (HSA.out.drewN na)).mono ?_
          rintro e w' ⟨rfl, nb, rfl⟩
          go_wp2_with fail
          go_roundw
          case rel => exact ⟨k + 1, g, A, c, sy, l, Ax, cx, by omega, by go_num, rfl, rfl, rfl, hcT, HSA.out.drewN (na + nb), HRA.out.drewN (na + nb), grew_drewN hbA (na + nb)⟩
          case measure => simp [intOf]; omega
        · skip
          obtain ⟨m, rfl⟩ : ∃ m : Nat, n = m := ⟨n.toNat, by omega⟩
          obtain ⟨adx, rfl, _, _⟩ := rd_i64 HX.out.rd 0 (by omega)
          obtain ⟨adA, rfl, _, _⟩ := rd_i64 HS.out.rd.1 0 (by omega)
          have hml : m ≤ l.length := by omega
          have hmc : m ≤ cx := by omega
          go_wp2_with fail
          refine (wtrim_ok _ g room sy adA c l m m (by omega) (by omega) (by omega) _ HS.out).mono ?_
          rintro e w4 ⟨rfl, A4, c4, hs4, k4, n4⟩
          have hb4 := below_kp hb k4 hzs HLO.out
          have HS4 := Lib.hid hs4
          have hown4 : (w4.alloc (.cells #[.int .i64 (m : Int)] 3)).ownsRow w4.heap.size 3 1 (.slice (some ⟨w4.heap.size, 0, none⟩) 1 1) 1 [.int .i64 (m : Int)] := own_mk (Nat.le_refl _) (Bk.new w4 _ _) (by omega) (by decide) rfl rfl
          have hdl : (i64L (l.drop m)).length = l.length - m := by rw [i64L_length, List.length_drop]
          have hdr := (rd_drop (HX.out.step k4 n4).rd m).alloc (Nat.le_refl _) (.cells #[.int .i64 (m : Int)] 3)
          rw [show (i64L l).drop m = i64L (l.drop m) by simp [i64L]] at hdr
          have HDL := Lib.hid hdl
          have HDR := Lib.hid hdr
          clear hdl hdr hs4
          by_cases hnc3 : m < cx
          · go_wp2_with (at_builtin; refine wpList_append_rd rfl _ _ _ rfl w4.heap.size 3 i0 _ 8 Try.underlying22 hi0 hz0 hz1 hz2 rfl _ 1 [.int .i64 (m : Int)] rfl hown4 w4.heap.size (some (adx.add m)) (l.length - m) (cx - m) (i64L (l.drop m)) rfl HDL.out HDR.out (i64L_one _) (by unfold maxLen; omega) (by omega) (by simp) ?_; intro v5 w5 hown5 hgrow5 hat5; obtain ⟨A5, c5, rfl, hn5, _, hrd5⟩ := own_rd hown5)
            have hb45 : Grew w4 w5 := (((Below.refl _ _).alloc (Nat.le_refl _) _).grown hgrow5 (by simp) (fun i hi => by have h2 : some w4.heap.size = some i := hi; injection h2 with h2; omega))
            obtain ⟨L, hL⟩ : ∃ L, (m : Int) :: l.drop m = L := ⟨_, rfl⟩
            have hlen : L.length = 1 + (l.length - m) := by rw [← hL, List.length_cons, List.length_drop]; omega
            have hsT := HS4.out.kp (kp_grew (S := fun _ => False) hb45) (fun _ _ => id)
            have hown5' : w5.ownsRow w4.heap.size 3 1 (.slice A5 (1 + (l.length - m)) c5) (1 + (l.length - m)) (i64L L) := by rw [← hL]; exact hown5
            rw [hL] at hsT
            have hrT := fresh_rdN (N := WN g A4) hown5' (fun i hi => (HS4.out.lowN i hi).2)
            have hcT : L.length ≤ c5 := by omega
            have hbT := grew_trans hb4 hb45
            rw [← hlen]
            rw [show ((sy : Int) - (m : Int) + 1) = ((sy - (m - 1) : Nat) : Int) by omega]
            clear hown5 hown5' hat5 hrd5 hL hlen
            have hlT : (L).length ≤ 65536 := by have := hsT.le; omega
            have hsyT := hsT.sy
            have HST := Lib.hid hsT
            have HRT := Lib.hid hrT
            clear hsT hrT
            refine (wall_any _ g room (sy - (m - 1)) A4 c4 L _ HST.out).mono ?_
            rintro e wa ⟨La, Lc, rfl, hoa, hba⟩
            have HSA := Lib.hid (HST.out.kp (kp_grew (S := fun _ => False) hba) (fun _ _ => id))
            have HRA := Lib.hid (HRT.out.kp (kp_grew (S := fun _ => False) hba) (fun _ h => h.elim))
            have HOA := Lib.hid (fresh_rdN hoa (N := fun _ => False) (fun _ h => h.elim)).rd
            clear hoa
            have hbA := grew_trans hbT hba
            go_wp2_with fail
            refine (ints_any La A5 Lc c5 _ _ L (by omega) _ HOA.out HRA.out.rd).mono ?_
            rintro e w' ⟨rfl, na, rfl⟩
            go_wp2_with fail
            refine (wlen_any _ g room (sy - (m - 1)) A4 c4 L _ (HSA.out.drewN na)).mono ?_
            rintro e w' ⟨rfl, rfl⟩
            go_wp2_with fail
            refine (wwaits_any _ g room (sy - (m - 1)) A4 c4 L _ (HSA.out.drewN na)).mono ?_
            rintro e w' ⟨rfl, nb, rfl⟩
            go_wp2_with fail
            go_roundw
            case rel => exact ⟨k + 1, g, A4, c4, sy - (m - 1), L, A5, c5, by omega, by go_num, rfl, rfl, rfl, hcT, HSA.out.drewN (na + nb), HRA.out.drewN (na + nb), grew_drewN hbA (na + nb)⟩
            case measure => simp [intOf]; omega
          · have hdz : Rd (w4.alloc (.cells #[.int .i64 (m : Int)] 3)) w4.heap.size (some adx) (i64L (l.drop m)) := by
              rw [show l.drop m = [] from List.drop_eq_nil_of_le (by omega)]
              exact Rd.nil_ _ _ _
            have HDZ := Lib.hid hdz
            clear hdz
            go_wp2_with (at_builtin; refine wpList_append_rd rfl _ _ _ rfl w4.heap.size 3 i0 _ 8 Try.underlying22 hi0 hz0 hz1 hz2 rfl _ 1 [.int .i64 (m : Int)] rfl hown4 w4.heap.size (some adx) (l.length - m) (cx - m) (i64L (l.drop m)) rfl HDL.out HDZ.out (i64L_one _) (by unfold maxLen; omega) (by omega) (by simp) ?_; intro v5 w5 hown5 hgrow5 hat5; obtain ⟨A5, c5, rfl, hn5, _, hrd5⟩ := own_rd hown5)
            have hb45 : Grew w4 w5 := (((Below.refl _ _).alloc (Nat.le_refl _) _).grown hgrow5 (by simp) (fun i hi => by have h2 : some w4.heap.size = some i := hi; injection h2 with h2; omega))
            obtain ⟨L, hL⟩ : ∃ L, (m : Int) :: l.drop m = L := ⟨_, rfl⟩
            have hlen : L.length = 1 + (l.length - m) := by rw [← hL, List.length_cons, List.length_drop]; omega
            have hsT := HS4.out.kp (kp_grew (S := fun _ => False) hb45) (fun _ _ => id)
            have hown5' : w5.ownsRow w4.heap.size 3 1 (.slice A5 (1 + (l.length - m)) c5) (1 + (l.length - m)) (i64L L) := by rw [← hL]; exact hown5
            rw [hL] at hsT
            have hrT := fresh_rdN (N := WN g A4) hown5' (fun i hi => (HS4.out.lowN i hi).2)
            have hcT : L.length ≤ c5 := by omega
            have hbT := grew_trans hb4 hb45
            rw [← hlen]
            rw [show ((sy : Int) - (m : Int) + 1) = ((sy - (m - 1) : Nat) : Int) by omega]
            clear hown5 hown5' hat5 hrd5 hL hlen
            have hlT : (L).length ≤ 65536 := by have := hsT.le; omega
            have hsyT := hsT.sy
            have HST := Lib.hid hsT
            have HRT := Lib.hid hrT
            clear hsT hrT
            refine (wall_any _ g room (sy - (m - 1)) A4 c4 L _ HST.out).mono ?_
            rintro e wa ⟨La, Lc, rfl, hoa, hba⟩
            have HSA := Lib.hid (HST.out.kp (kp_grew (S := fun _ => False) hba) (fun _ _ => id))
            have HRA := Lib.hid (HRT.out.kp (kp_grew (S := fun _ => False) hba) (fun _ h => h.elim))
            have HOA := Lib.hid (fresh_rdN hoa (N := fun _ => False) (fun _ h => h.elim)).rd
            clear hoa
            have hbA := grew_trans hbT hba
            go_wp2_with fail
            refine (ints_any La A5 Lc c5 _ _ L (by omega) _ HOA.out HRA.out.rd).mono ?_
            rintro e w' ⟨rfl, na, rfl⟩
            go_wp2_with fail
            refine (wlen_any _ g room (sy - (m - 1)) A4 c4 L _ (HSA.out.drewN na)).mono ?_
            rintro e w' ⟨rfl, rfl⟩
            go_wp2_with fail
            refine (wwaits_any _ g room (sy - (m - 1)) A4 c4 L _ (HSA.out.drewN na)).mono ?_
            rintro e w' ⟨rfl, nb, rfl⟩
            go_wp2_with fail
            go_roundw
            case rel => exact ⟨k + 1, g, A4, c4, sy - (m - 1), L, A5, c5, by omega, by go_num, rfl, rfl, rfl, hcT, HSA.out.drewN (na + nb), HRA.out.drewN (na + nb), grew_drewN hbA (na + nb)⟩
            case measure => simp [intOf]; omega
      by_cases h5 : op = 5
      · subst h5
        by_cases hfull : l.length = room
        · have HF := Lib.hid hfull
          clear hfull
          go_wp2_with fail
          refine (wtwin_any _ g room sy A c l _ HS.out).mono ?_
          rintro e w4 ⟨g2, A2, d2, rfl, ht4, hb4, f4⟩
          have HSt := Lib.hid (HS.out.kp (kp_grew (S := fun _ => False) hb4) (fun _ _ => id))
          have hx4 : RdN w4 (fun i => WN g A i ∨ WN g2 A2 i) Ax (i64L l) := (HX.out.chg (N' := fun i => WN g A i ∨ WN g2 A2 i) (fun i hi h => by rcases h with h | h; exact h; have := f4 i h; omega)).kp (kp_grew (S := fun _ => False) hb4) (fun _ h => h.elim)
          have hbb4 := grew_trans hb hb4
          have dis4 : ∀ i, WN g2 A2 i → ¬ WN g A i := fun i h1 h2 => by
            have := f4 i h1
            have := (HS.out.lowN i h2).2
            omega
          have HT4 := Lib.hid ht4
          have HX4 := Lib.hid hx4
          have HD4 := Lib.hid dis4
          have HF4 := Lib.hid f4
          clear ht4 hx4 dis4 f4
          go_wp2_with fail
          refine (wappend_full _ g room sy A c l 7 HF.out _ HSt.out).mono ?_
          rintro e w5 ⟨rfl, A5, c5, hs5, k5, n5⟩
          have HS5 := Lib.hid hs5
          have HT5 := Lib.hid (HT4.out.kp k5 HD4.out)
          have HD5 := Lib.hid (dis_step HT4.out HD4.out n5)
          have hx5 : RdN w5 (fun i => WN g A5 i ∨ WN g2 A2 i) Ax (i64L l) := (HX4.out.kp k5 (fun i h => .inl h)).chg' n5 (HX4.out.chg (fun _ _ h => h.elim))
          have HX5 := Lib.hid hx5
          have hb5 := below_kp hbb4 k5 (by have := hb4.size; omega) (fun i hi => HLO.out i hi)
          clear hs5 hx5
          go_wp2_with fail
          refine (wcrash_any _ g room sy A5 c5 _ 0 (by omega) _ HS5.out).mono ?_
          rintro e w6 ⟨rfl, A6, c6, hs6, k6, n6⟩
          have hsT := HT5.out.kp k6 HD5.out
          have hrT : RdN w6 (WN g2 A2) Ax (i64L l) := (HX5.out.kp k6 (fun i h => .inl h)).chg (fun i hi h => .inr h)
          have hbT := below_kp hb5 k6 hb5.size (fun i hi => (HS5.out.lowN i hi).1)
          have hcT := hcx
          clear hs6
          go_wp2_with fail
          have hlT : (l).length ≤ 65536 := by have := hsT.le; omega
          have hsyT := hsT.sy
          have HST := Lib.hid hsT
          have HRT := Lib.hid hrT
          clear hsT hrT
          refine (wall_any _ g2 room (sy) A2 d2 l _ HST.out).mono ?_
          rintro e wa ⟨La, Lc, rfl, hoa, hba⟩
          have HSA := Lib.hid (HST.out.kp (kp_grew (S := fun _ => False) hba) (fun _ _ => id))
          have HRA := Lib.hid (HRT.out.kp (kp_grew (S := fun _ => False) hba) (fun _ h => h.elim))
          have HOA := Lib.hid (fresh_rdN hoa (N := fun _ => False) (fun _ h => h.elim)).rd
          clear hoa
          have hbA := grew_trans hbT hba
          go_wp2_with fail
          refine (ints_any La Ax Lc cx _ _ l (by omega) _ HOA.out HRA.out.rd).mono ?_
          rintro e w' ⟨rfl, na, rfl⟩
          go_wp2_with fail
          refine (wlen_any _ g2 room (sy) A2 d2 l _ (HSA.out.drewN na)).mono ?_
          rintro e w' ⟨rfl, rfl⟩
          go_wp2_with fail
          refine (wwaits_any _ g2 room (sy) A2 d2 l _ (HSA.out.drewN na)).mono ?_
          rintro e w' ⟨rfl, nb, rfl⟩
          go_wp2_with fail
          go_roundw
          case rel => exact ⟨k + 1, g2, A2, d2, sy, l, Ax, cx, by omega, by go_num, rfl, rfl, rfl, hcT, HSA.out.drewN (na + nb), HRA.out.drewN (na + nb), grew_drewN hbA (na + nb)⟩
          case measure => simp [intOf]; omega
        · have hfl : l.length < room := by omega
          go_wp2_with fail
          refine (wtwin_any _ g room sy A c l _ HS.out).mono ?_
          rintro e w4 ⟨g2, A2, d2, rfl, ht4, hb4, f4⟩
          have HSt := Lib.hid (HS.out.kp (kp_grew (S := fun _ => False) hb4) (fun _ _ => id))
          have hx4 : RdN w4 (fun i => WN g A i ∨ WN g2 A2 i) Ax (i64L l) := (HX.out.chg (N' := fun i => WN g A i ∨ WN g2 A2 i) (fun i hi h => by rcases h with h | h; exact h; have := f4 i h; omega)).kp (kp_grew (S := fun _ => False) hb4) (fun _ h => h.elim)
          have hbb4 := grew_trans hb hb4
          have dis4 : ∀ i, WN g2 A2 i → ¬ WN g A i := fun i h1 h2 => by
            have := f4 i h1
            have := (HS.out.lowN i h2).2
            omega
          have HT4 := Lib.hid ht4
          have HX4 := Lib.hid hx4
          have HD4 := Lib.hid dis4
          have HF4 := Lib.hid f4
          clear ht4 hx4 dis4 f4
          go_wp2_with fail
          refine (wappend_ok _ g room sy A c l 7 hfl _ HSt.out).mono ?_
          rintro e w5 ⟨rfl, A5, c5, hs5, k5, n5⟩
          have HS5 := Lib.hid hs5
          have HT5 := Lib.hid (HT4.out.kp k5 HD4.out)
          have HD5 := Lib.hid (dis_step HT4.out HD4.out n5)
          have hx5 : RdN w5 (fun i => WN g A5 i ∨ WN g2 A2 i) Ax (i64L l) := (HX4.out.kp k5 (fun i h => .inl h)).chg' n5 (HX4.out.chg (fun _ _ h => h.elim))
          have HX5 := Lib.hid hx5
          have hb5 := below_kp hbb4 k5 (by have := hb4.size; omega) (fun i hi => HLO.out i hi)
          clear hs5 hx5
          go_wp2_with fail
          refine (wcrash_any _ g room sy A5 c5 _ 0 (by omega) _ HS5.out).mono ?_
          rintro e w6 ⟨rfl, A6, c6, hs6, k6, n6⟩
          have hsT := HT5.out.kp k6 HD5.out
          have hrT : RdN w6 (WN g2 A2) Ax (i64L l) := (HX5.out.kp k6 (fun i h => .inl h)).chg (fun i hi h => .inr h)
          have hbT := below_kp hb5 k6 hb5.size (fun i hi => (HS5.out.lowN i hi).1)
          have hcT := hcx
          clear hs6
          go_wp2_with fail
          have hlT : (l).length ≤ 65536 := by have := hsT.le; omega
          have hsyT := hsT.sy
          have HST := Lib.hid hsT
          have HRT := Lib.hid hrT
          clear hsT hrT
          refine (wall_any _ g2 room (sy) A2 d2 l _ HST.out).mono ?_
          rintro e wa ⟨La, Lc, rfl, hoa, hba⟩
          have HSA := Lib.hid (HST.out.kp (kp_grew (S := fun _ => False) hba) (fun _ _ => id))
          have HRA := Lib.hid (HRT.out.kp (kp_grew (S := fun _ => False) hba) (fun _ h => h.elim))
          have HOA := Lib.hid (fresh_rdN hoa (N := fun _ => False) (fun _ h => h.elim)).rd
          clear hoa
          have hbA := grew_trans hbT hba
          go_wp2_with fail
          refine (ints_any La Ax Lc cx _ _ l (by omega) _ HOA.out HRA.out.rd).mono ?_
          rintro e w' ⟨rfl, na, rfl⟩
          go_wp2_with fail
          refine (wlen_any _ g2 room (sy) A2 d2 l _ (HSA.out.drewN na)).mono ?_
          rintro e w' ⟨rfl, rfl⟩
          go_wp2_with fail
          refine (wwaits_any _ g2 room (sy) A2 d2 l _ (HSA.out.drewN na)).mono ?_
          rintro e w' ⟨rfl, nb, rfl⟩
          go_wp2_with fail
          go_roundw
          case rel => exact ⟨k + 1, g2, A2, d2, sy, l, Ax, cx, by omega, by go_num, rfl, rfl, rfl, hcT, HSA.out.drewN (na + nb), HRA.out.drewN (na + nb), grew_drewN hbA (na + nb)⟩
          case measure => simp [intOf]; omega
      have e1 : (op == 1) = false := by simpa using h1
      have e2 : (op == 2) = false := by simpa using h2
      have e3 : (op == 3) = false := by simpa using h3
      have e4 : (op == 4) = false := by simpa using h4
      have e5 : (op == 5) = false := by simpa using h5
      have hsT := HS.out
      have hrT := HX.out
      have hbT := hb
      have hcT := hcx
      go_wp2_with fail
      have hlT : (l).length ≤ 65536 := by have := hsT.le; omega
      have hsyT := hsT.sy
      have HST := Lib.hid hsT
      have HRT := Lib.hid hrT
      clear hsT hrT
      refine (wall_any _ g room (sy) A c l _ HST.out).mono ?_
      rintro e wa ⟨La, Lc, rfl, hoa, hba⟩
      have HSA := Lib.hid (HST.out.kp (kp_grew (S := fun _ => False) hba) (fun _ _ => id))
      have HRA := Lib.hid (HRT.out.kp (kp_grew (S := fun _ => False) hba) (fun _ h => h.elim))
      have HOA := Lib.hid (fresh_rdN hoa (N := fun _ => False) (fun _ h => h.elim)).rd
      clear hoa
      have hbA := grew_trans hbT hba
      go_wp2_with fail
      refine (ints_any La Ax Lc cx _ _ l (by omega) _ HOA.out HRA.out.rd).mono ?_
      rintro e w' ⟨rfl, na, rfl⟩
      go_wp2_with fail
      refine (wlen_any _ g room (sy) A c l _ (HSA.out.drewN na)).mono ?_
      rintro e w' ⟨rfl, rfl⟩
      go_wp2_with fail
      refine (wwaits_any _ g room (sy) A c l _ (HSA.out.drewN na)).mono ?_
      rintro e w' ⟨rfl, nb, rfl⟩
      go_wp2_with fail
      go_roundw
      case rel => exact ⟨k + 1, g, A, c, sy, l, Ax, cx, by omega, by go_num, rfl, rfl, rfl, hcT, HSA.out.drewN (na + nb), HRA.out.drewN (na + nb), grew_drewN hbA (na + nb)⟩
      case measure => simp [intOf]; omega
    · obtain rfl : k = acts.length := by omega
      go_wp2_with fail
      go_ret
      exact ⟨rfl, hb⟩
end Go.Proofs.Ytpoimhjencpieaa
