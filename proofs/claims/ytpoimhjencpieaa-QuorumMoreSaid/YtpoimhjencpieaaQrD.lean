/- The reference's Distinct. -/
import Derived.Test.YtpoimhjencpieaaQrA
namespace Go.Proofs.Ytpoimhjencpieaa
open Go.RowKit Go.Lib
set_option linter.unusedVariables false
theorem rd_take_i64' {w : World} {B : Nat} {A : Option Addr} {l : List Int} (h : Rd w B A (i64L l)) (n : Nat) : Rd w B A (i64L (l.take n)) := by
  intro k hk
  have hk' : k < l.length := by simp [i64L] at hk; omega
  obtain ⟨ad, h1, h2, h3⟩ := h k (by simpa [i64L] using hk')
  exact ⟨ad, h1, h2, by rw [h3]; simp [i64L]⟩
theorem grew_grown {a b c : World} {r : Option Nat} (h : Grew a b) (k : b.grownBy c r) (hr : ∀ i, r = some i → a.heap.size ≤ i) : Grew a c := h.grown k h.size hr
theorem rd_drop' {w : World} {B : Nat} {ad : Addr} {xs : List Value} (h : Rd w B (some ad) xs) (n : Nat) : Rd w B (some (ad.add n)) (xs.drop n) := by
  intro k hk
  rw [List.length_drop] at hk
  obtain ⟨ad', h1, h2, h3⟩ := h (n + k) (by omega)
  injection h1 with h1
  subst h1
  refine ⟨_, rfl, by rw [blk_add]; exact h2, ?_⟩
  rw [addr_add, h3]
  simp
theorem rd_drop_i64' {w : World} {B : Nat} {ad : Addr} {l : List Int} (h : Rd w B (some ad) (i64L l)) (n : Nat) : Rd w B (some (ad.add n)) (i64L (l.drop n)) := by
  have := rd_drop' h n
  rw [show (i64L l).drop n = i64L (l.drop n) by simp [i64L]] at this
  exact this
theorem row_len1 (d : List Int) (k : Nat) (z : Int) (hk : k ≤ d.length) : (d.take k ++ z :: d.drop k).length = k + 1 + (d.length - k) := by simp; omega
theorem row_val (d : List Int) (k : Nat) (z : Int) : i64L (d.take k ++ z :: d.drop k) = i64L (d.take k) ++ [.int .i64 z] ++ i64L (d.drop k) := by simp [i64L]
theorem row_len2 (d : List Int) (z : Int) : (d.take d.length ++ z :: d.drop d.length).length = d.length + 1 + 0 := by simp
theorem row_val2 (d : List Int) (z : Int) : i64L (d.take d.length ++ z :: d.drop d.length) = i64L (d.take d.length) ++ [.int .i64 z] ++ i64L [] := by simp [i64L]
theorem rd_one1 {w : World} {B g : Nat} {u : Value} (h : w.cell? ⟨g, 0, none⟩ = some u) (hb : g < B) : Rd w B (some ⟨g, 0, none⟩) [u] := by
  intro k hk
  have : k = 0 := by simp at hk; omega
  subst this
  exact ⟨_, rfl, hb, h⟩
theorem cell_new1 (W : World) (t : TypeId) (z : Int) : (((W.alloc (.cells #[] t)).alloc (.cells #[.int .i64 z] t)).drew).cell? ⟨W.heap.size + 1, 0, none⟩ = some (.int .i64 z) := by
  have := (Boxed.new (W.alloc (.cells #[] t)) t (.int .i64 z)).cell
  rw [World.size_alloc] at this
  exact this
theorem cell_new2 (W : World) (t : TypeId) (z : Int) : (((W.alloc (.cells #[.int .i64 z] t)).alloc (.cells #[] t)).drew).cell? ⟨W.heap.size, 0, none⟩ = some (.int .i64 z) :=
  (((Below.refl _ (W.alloc (.cells #[.int .i64 z] t))).alloc (Nat.le_refl _) (.cells #[] t)).cell (p := ⟨W.heap.size, 0, none⟩) (by simp)).trans (Boxed.new W t (.int .i64 z)).cell
theorem grew_drew1 {a b : World} (h : Grew a b) : Grew a b.drew := ⟨h.os, h.tape, h.output, h.size, h.block⟩
set_option maxRecDepth 100000 in
set_option maxHeartbeats 1000000 in
theorem rdist_ok (A : Option Addr) (c : Nat) (l : List Int) (hz : l.length ≤ 1048576) (w : World) (hr : Rd w w.heap.size A (i64L l)) :
    Calls Try.prog 20 #[.slice A l.length c] w fun e w' => ∃ v, e = .returned v ∧ w'.ownsRow w.heap.size 3 1 v (distI l).length (i64L (distI l)) ∧ Grew w w' := by
  obtain ⟨i0, hi, hz0, hz1, hz2⟩ := info_parts info_int
  go_enter Try.func20, Try.ntmps20
  go_wp2_with fail
  go_loopw [3, 4] (fun ov iv wr => ∃ i : Nat, i ≤ l.length ∧ iv = .int .i64 i ∧ wr.ownsRow w.heap.size 3 1 ov (distI (l.take i)).length (i64L (distI (l.take i))) ∧ Grew w wr) (fun _ i _ => l.length - (intOf i).toNat)
  case atStart => exact ⟨0, Nat.zero_le _, rfl, by rw [List.take_zero, dist_nil]; exact World.ownsRow_nil _ _ _ _, Below.refl _ _⟩
  case round =>
    obtain ⟨i, hil, rfl, hown, hg⟩ := hrel
    by_cases hlt : i < l.length
    · obtain ⟨ad, rfl, hbl, hc0⟩ := rd_i64 (hr.below hg) i hlt
      have hts : l.take (i + 1) = l.take i ++ [l[i]] := by rw [List.take_succ_eq_append_getElem hlt]
      have hll := distI_le (l.take i)
      rw [List.length_take] at hll
      have HTS := Lib.hid hts
      have HP := Lib.hid (dist_put (l.take i) l[i])
      have HH := Lib.hid (dist_has (l.take i) l[i])
      have HS := Lib.hid (distI_facts (l.take i)).1
      clear hts
      generalize l[i] = z at *
      obtain ⟨d, hd⟩ : ∃ d, distI (l.take i) = d := ⟨_, rfl⟩
      rw [hd] at hown hll HP HH HS
      have HD := Lib.hid hd
      clear hd
      obtain ⟨D, dc, rfl, hdc, -, hD⟩ := own_rd hown
      have hi0 : (0 : Int) ≤ (i : Int) := by omega
      have hi1 : (i : Int) < (l.length : Int) := by omega
      go_wp2_with fail
      go_loopw [5] (fun kv w2 => ∃ (k n : Nat), k ≤ d.length ∧ kv = .int .i64 k ∧ Hid (∀ x ∈ d.take k, x < z) ∧ w2 = wr.drewN n) (fun kv _ => d.length - (intOf kv).toNat)
      case atStart => exact ⟨0, 0, Nat.zero_le _, rfl, Lib.hid (by simp), rfl⟩
      case round =>
        obtain ⟨k, n, hk, rfl, HK, rfl⟩ := hrel
        by_cases hkl : k < d.length
        · obtain ⟨ad', rfl, hbl', hc1⟩ := rd_i64 hD k hkl
          have hk0 : (0 : Int) ≤ (k : Int) := by omega
          have hk1 : (k : Int) < (d.length : Int) := by omega
          have HT := Lib.hid (show d.take (k + 1) = d.take k ++ [d[k]] by rw [List.take_succ_eq_append_getElem hkl])
          have HPK := Lib.hid (fun h : z < d[k] => HP.out k (by omega) HK.out (fun _ => h))
          have HM := Lib.hid (List.getElem_mem hkl)
          generalize d[k] = y at *
          by_cases hyz : y < z
          · go_wp2_with fail
            go_quiet (fail)
            go_wp2_with fail
            go_roundw
            case rel => exact ⟨k + 1, n + nq, by omega, by go_num, Lib.hid (by rw [HT.out]; intro x hx; rcases List.mem_append.1 hx with hx | hx; exact HK.out x hx; simp at hx; omega), rfl⟩
            case measure => simp [intOf]; omega
          · go_wp2_with fail
            go_quiet (fail)
            revert nq
            intro m1
            intros
            go_wp2_with fail
            by_cases hye : y = z
            · subst hye
              have HE := Lib.hid (HH.out HM.out)
              go_quiet (fail)
              go_wp2_with fail
              go_roundw
              case rel => exact ⟨i + 1, by omega, by go_num, by rw [HTS.out, HE.out]; exact hown, grew_drewN' hg _⟩
              case measure => simp [intOf]; omega
            · go_quiet (fail)
              go_wp2_with fail
              obtain ⟨W, hW⟩ : ∃ W, ((wr.drewN n).drewN m1).drewN nq = W := ⟨_, rfl⟩
              have hgW : Grew w W := by rw [← hW]; exact grew_drewN' (grew_drewN' (grew_drewN' hg _) _) _
              have hcW : W.cell? (ad.add i) = some (.int .i64 z) := by rw [← hW]; exact hc0
              have hDW : Rd W W.heap.size (some ad') (i64L d) := by rw [← hW]; exact hD
              rw [hW]
              clear hW hD hown hc0 hr
              have hzW := hgW.size
              have HTK := Lib.hid (show (i64L (d.take k)).length = k by rw [i64L_length, List.length_take]; omega)
              have HDK := Lib.hid (show (i64L (d.drop k)).length = d.length - k by rw [i64L_length, List.length_drop])
              have HRT := Lib.hid (rd_take_i64' hDW k)
              have HRW := Lib.hid hDW
              clear hDW
              have HMA := Lib.hid (World.ownsRow_made (base := W.heap.size) (e := 3) (size := 1) W #[] 0 (Nat.le_refl _) (by decide) rfl)
              have HMC : Hid (((W.alloc (.cells #[.int .i64 z] 3)).alloc (.cells #[] 3)).ownsRow W.heap.size 3 1 (.slice (some ⟨W.heap.size + 1, 0, none⟩) 0 0) 0 []) := Lib.hid (by have := World.ownsRow_made (base := W.heap.size) (e := 3) (size := 1) (W.alloc (.cells #[.int .i64 z] 3)) #[] 0 (by simp) (by decide) rfl; rwa [World.size_alloc] at this)
              have hbz : (ad.add i).block < W.heap.size := by rw [blk_add]; omega
              have hkc : (k : Int) ≤ (dc : Int) := by omega
              have hkc' : k ≤ dc := by omega
              go_region_held3 (fun w' => w'.cell? (ad.add i) = some (.int .i64 z)) (go_keep)
                (first
                  | (refine step_append_rd (by rfl) _ _ _ (by rfl) W.heap.size 3 i0 _ 8 Try.underlying22 hi hz0 hz1 hz2 rfl (.slice (some ⟨W.heap.size, 0, none⟩) 0 0) 0 [] (by rfl) (by exact HMA.out) W.heap.size (some ad') k dc (i64L (d.take k)) (by rfl) HTK.out (by exact HRT.out.alloc (Nat.le_refl _) _) (i64L_one _) (by unfold maxLen; omega) (by omega) (by simp) ?_
                     intro v5 w5 hown5 hgrow5 hat5
                     simp only [Nat.zero_add, List.nil_append] at hown5
                     obtain ⟨A5, c5, rfl, hn5, _, hrd5⟩ := own_rd hown5
                     have hg5 : Grew W w5 := grew_grown (by first | exact grew_drew1 (grew_alloc' (Below.refl _ W) _) | exact grew_drew1 (grew_drew1 (grew_alloc' (Below.refl _ W) _))) hgrow5 (fun j hj => by have h2 : some W.heap.size = some j := hj; injection h2 with h2; omega)
                     have hz5A := hg5.size
                     have hq5 : w5.cell? (ad.add i) = some (.int .i64 z) := (hg5.cell hbz).trans hcW)
                  | (refine step_append_rd (by rfl) _ _ _ (by rfl) W.heap.size 3 i0 _ 8 Try.underlying22 hi hz0 hz1 hz2 rfl (.slice A5 k c5) k (i64L (d.take k)) (by rfl) (by exact (hown5.alloc _)) (w5.heap.size + 1) (some ⟨w5.heap.size, 0, none⟩) 1 1 [.int .i64 z] (by rfl) rfl (by exact rd_new w5 3 #[.int .i64 z] (0, 0)) (one_int _ _) (by unfold maxLen; omega) (by omega) (by have h5 := hz5A; first | (simp; done) | (simp; omega)) ?_
                     intro v6 w6 hown6 hgrow6 hat6
                     have hg6 : Grew W w6 := grew_grown (by first | exact grew_alloc' hg5 _ | exact grew_drew1 (grew_alloc' hg5 _)) hgrow6 (own_base hown5)
                     have hq6 : w6.cell? (ad.add i) = some (.int .i64 z) := (hg6.cell hbz).trans hcW
                     clear hat5 hgrow5 hgrow6 hown5 hn5 hrd5 hg5 hz5A)
                  | (refine step_append_rd (by rfl) _ _ _ (by rfl) W.heap.size 3 i0 _ 8 Try.underlying22 hi hz0 hz1 hz2 rfl (.slice (some ⟨W.heap.size, 0, none⟩) 0 0) 0 [] (by rfl) (by exact (HMA.out.alloc _)) W.heap.size (some ad') k dc (i64L (d.take k)) (by rfl) HTK.out (by exact (HRT.out.alloc (Nat.le_refl _) _).alloc (by simp) _) (i64L_one _) (by unfold maxLen; omega) (by omega) (by first | (simp; done) | (simp; omega)) ?_
                     intro v5 w5 hown5 hgrow5 hat5
                     simp only [Nat.zero_add, List.nil_append] at hown5
                     obtain ⟨A5, c5, rfl, hn5, _, hrd5⟩ := own_rd hown5
                     have hg5 : Grew W w5 := grew_grown (by first | exact grew_drew1 (grew_alloc' (grew_alloc' (Below.refl _ W) _) _) | exact grew_drew1 (grew_drew1 (grew_alloc' (grew_alloc' (Below.refl _ W) _) _))) hgrow5 (fun j hj => by have h2 : some W.heap.size = some j := hj; injection h2 with h2; omega)
                     have hq5 : w5.cell? (ad.add i) = some (.int .i64 z) := (hg5.cell hbz).trans hcW
                     have hz5B : w5.cell? ⟨W.heap.size + 1, 0, none⟩ = some (.int .i64 z) := (hgrow5.cell_far ⟨W.heap.size + 1, 0, none⟩ (by first | (simp; done) | (simp; omega)) (fun h => by have h2 : some (W.heap.size + 1) = some W.heap.size := h; injection h2 with h2; omega)).trans (cell_new1 W _ z)
                     have hz5l : W.heap.size + 2 ≤ w5.heap.size := by have h5 := hgrow5.size; simp at h5; omega)
                  | (refine step_append_rd (by rfl) _ _ _ (by rfl) W.heap.size 3 i0 _ 8 Try.underlying22 hi hz0 hz1 hz2 rfl (.slice A5 k c5) k (i64L (d.take k)) (by rfl) (by exact hown5) w5.heap.size (some ⟨W.heap.size + 1, 0, none⟩) 1 1 [.int .i64 z] (by rfl) rfl (rd_one1 hz5B (by omega)) (one_int _ _) (by unfold maxLen; omega) (by omega) (by omega) ?_
                     intro v6 w6 hown6 hgrow6 hat6
                     have hg6 : Grew W w6 := grew_grown (by first | exact hg5 | exact grew_drew1 hg5) hgrow6 (own_base hown5)
                     have hq6 : w6.cell? (ad.add i) = some (.int .i64 z) := (hg6.cell hbz).trans hcW
                     clear hat5 hgrow5 hgrow6 hown5 hn5 hrd5 hg5 hz5B hz5l)
                  | (refine step_append_rd (by rfl) _ _ _ (by rfl) W.heap.size 3 i0 _ 8 Try.underlying22 hi hz0 hz1 hz2 rfl (.slice (some ⟨W.heap.size + 1, 0, none⟩) 0 0) 0 [] (by rfl) (by exact HMC.out) W.heap.size (some ad') k dc (i64L (d.take k)) (by rfl) HTK.out (by exact (HRT.out.alloc (Nat.le_refl _) _).alloc (by simp) _) (i64L_one _) (by unfold maxLen; omega) (by omega) (by first | (simp; done) | (simp; omega)) ?_
                     intro v5 w5 hown5 hgrow5 hat5
                     simp only [Nat.zero_add, List.nil_append] at hown5
                     obtain ⟨A5, c5, rfl, hn5, _, hrd5⟩ := own_rd hown5
                     have hg5 : Grew W w5 := grew_grown (by first | exact grew_drew1 (grew_alloc' (grew_alloc' (Below.refl _ W) _) _) | exact grew_drew1 (grew_drew1 (grew_alloc' (grew_alloc' (Below.refl _ W) _) _))) hgrow5 (fun j hj => by have h2 : some (W.heap.size + 1) = some j := hj; injection h2 with h2; omega)
                     have hq5 : w5.cell? (ad.add i) = some (.int .i64 z) := (hg5.cell hbz).trans hcW
                     have hz5C : w5.cell? ⟨W.heap.size, 0, none⟩ = some (.int .i64 z) := (hgrow5.cell_far ⟨W.heap.size, 0, none⟩ (by first | (simp; done) | (simp; omega)) (fun h => by have h2 : some W.heap.size = some (W.heap.size + 1) := h; injection h2 with h2; omega)).trans (cell_new2 W _ z)
                     have hz5l : W.heap.size + 2 ≤ w5.heap.size := by have h5 := hgrow5.size; simp at h5; omega)
                  | (refine step_append_rd (by rfl) _ _ _ (by rfl) W.heap.size 3 i0 _ 8 Try.underlying22 hi hz0 hz1 hz2 rfl (.slice A5 k c5) k (i64L (d.take k)) (by rfl) (by exact hown5) w5.heap.size (some ⟨W.heap.size, 0, none⟩) 1 1 [.int .i64 z] (by rfl) rfl (rd_one1 hz5C (by omega)) (one_int _ _) (by unfold maxLen; omega) (by omega) (by omega) ?_
                     intro v6 w6 hown6 hgrow6 hat6
                     have hg6 : Grew W w6 := grew_grown (by first | exact hg5 | exact grew_drew1 hg5) hgrow6 (own_base hown5)
                     have hq6 : w6.cell? (ad.add i) = some (.int .i64 z) := (hg6.cell hbz).trans hcW
                     clear hat5 hgrow5 hgrow6 hown5 hn5 hrd5 hg5 hz5C hz5l))
              all_goals
                obtain ⟨A6, c6, rfl, hn6, _, hrd6⟩ := own_rd hown6
                have HDD := Lib.hid (show Rd w6 W.heap.size (some (ad'.add k)) (i64L (d.drop k)) from rd_drop_i64' (HRW.out.below hg6) k)
                have hz6 := hg6.size
                clear hat6
                go_wp2_with (at_builtin; refine wpList_append_rd rfl (.tmp 56) (.tmp 59) 22 rfl W.heap.size 3 i0 (.int .i64 0) 8 Try.underlying22 hi hz0 hz1 hz2 rfl (.slice A6 (k + 1) c6) (k + 1) (i64L (d.take k) ++ [.int .i64 z]) rfl hown6 W.heap.size (some (ad'.add k)) (d.length - k) (dc - k) (i64L (d.drop k)) rfl HDK.out HDD.out (i64L_one _) (by unfold maxLen; omega) (by omega) (by omega) ?_; intro v7 w7 hown7 hgrow7 hat7)
                go_roundw
                case rel => exact ⟨i + 1, by omega, by go_num, by rw [HTS.out, HPK.out (by omega), row_len1 d k z (by omega), row_val d k z]; exact ownsRow_low hown7 hzW, (grew_trans hgW hg6).grown hgrow7 (by omega) (fun j hj => Nat.le_trans hzW (own_base hown6 j hj))⟩
                case measure => simp [intOf]; omega
        · obtain rfl : k = d.length := by omega
          have HE := Lib.hid (HP.out d.length (by omega) HK.out (fun h => absurd h (by omega)))
          have hsome : dc = d.length ∨ ∃ ad', D = some ad' := by
            rcases hown.2 with ⟨h1, h2⟩ | ⟨g, cap, cur, h1, _⟩
            · injection h1 with h3 h4 h5
              exact .inl (by omega)
            · injection h1 with h3 h4 h5
              exact .inr ⟨_, h3⟩
          by_cases hdcl : dc = d.length
          · subst hdcl
            clear hsome
            go_wp2_with fail
            go_quiet (fail)
            revert nq
            intro m1
            intros
            go_wp2_with fail
            go_quiet (fail)
            go_wp2_with fail
            obtain ⟨W, hW⟩ : ∃ W, ((wr.drewN n).drewN m1).drewN nq = W := ⟨_, rfl⟩
            have hgW : Grew w W := by rw [← hW]; exact grew_drewN' (grew_drewN' (grew_drewN' hg _) _) _
            have hcW : W.cell? (ad.add i) = some (.int .i64 z) := by rw [← hW]; exact hc0
            have hDW : Rd W W.heap.size D (i64L d) := by rw [← hW]; exact hD
            rw [hW]
            clear hW hD hown hc0 hr
            have hzW := hgW.size
            have HTK := Lib.hid (show (i64L (d.take d.length)).length = d.length by rw [i64L_length, List.length_take]; omega)
            have HDK := Lib.hid (show (i64L (d.drop d.length)).length = d.length - d.length by rw [i64L_length, List.length_drop])
            have HRT := Lib.hid (rd_take_i64' hDW d.length)
            have HRW := Lib.hid hDW
            clear hDW
            have HMA := Lib.hid (World.ownsRow_made (base := W.heap.size) (e := 3) (size := 1) W #[] 0 (Nat.le_refl _) (by decide) rfl)
            have HMC : Hid (((W.alloc (.cells #[.int .i64 z] 3)).alloc (.cells #[] 3)).ownsRow W.heap.size 3 1 (.slice (some ⟨W.heap.size + 1, 0, none⟩) 0 0) 0 []) := Lib.hid (by have := World.ownsRow_made (base := W.heap.size) (e := 3) (size := 1) (W.alloc (.cells #[.int .i64 z] 3)) #[] 0 (by simp) (by decide) rfl; rwa [World.size_alloc] at this)
            have hbz : (ad.add i).block < W.heap.size := by rw [blk_add]; omega
            have hkc : (d.length : Int) ≤ (d.length : Int) := by omega
            have hkc' : d.length ≤ d.length := by omega
            go_region_held3 (fun w' => w'.cell? (ad.add i) = some (.int .i64 z)) (go_keep)
              (first
                | (refine step_append_rd (by rfl) _ _ _ (by rfl) W.heap.size 3 i0 _ 8 Try.underlying22 hi hz0 hz1 hz2 rfl (.slice (some ⟨W.heap.size, 0, none⟩) 0 0) 0 [] (by rfl) (by exact HMA.out) W.heap.size D d.length d.length (i64L (d.take d.length)) (by rfl) HTK.out (by exact HRT.out.alloc (Nat.le_refl _) _) (i64L_one _) (by unfold maxLen; omega) (by omega) (by simp) ?_
                   intro v5 w5 hown5 hgrow5 hat5
                   simp only [Nat.zero_add, List.nil_append] at hown5
                   obtain ⟨A5, c5, rfl, hn5, _, hrd5⟩ := own_rd hown5
                   have hg5 : Grew W w5 := grew_grown (by first | exact grew_drew1 (grew_alloc' (Below.refl _ W) _) | exact grew_drew1 (grew_drew1 (grew_alloc' (Below.refl _ W) _))) hgrow5 (fun j hj => by have h2 : some W.heap.size = some j := hj; injection h2 with h2; omega)
                   have hz5A := hg5.size
                   have hq5 : w5.cell? (ad.add i) = some (.int .i64 z) := (hg5.cell hbz).trans hcW)
                | (refine step_append_rd (by rfl) _ _ _ (by rfl) W.heap.size 3 i0 _ 8 Try.underlying22 hi hz0 hz1 hz2 rfl (.slice A5 d.length c5) d.length (i64L (d.take d.length)) (by rfl) (by exact (hown5.alloc _)) (w5.heap.size + 1) (some ⟨w5.heap.size, 0, none⟩) 1 1 [.int .i64 z] (by rfl) rfl (by exact rd_new w5 3 #[.int .i64 z] (0, 0)) (one_int _ _) (by unfold maxLen; omega) (by omega) (by have h5 := hz5A; first | (simp; done) | (simp; omega)) ?_
                   intro v6 w6 hown6 hgrow6 hat6
                   have hg6 : Grew W w6 := grew_grown (by first | exact grew_alloc' hg5 _ | exact grew_drew1 (grew_alloc' hg5 _)) hgrow6 (own_base hown5)
                   have hq6 : w6.cell? (ad.add i) = some (.int .i64 z) := (hg6.cell hbz).trans hcW
                   clear hat5 hgrow5 hgrow6 hown5 hn5 hrd5 hg5 hz5A)
                | (refine step_append_rd (by rfl) _ _ _ (by rfl) W.heap.size 3 i0 _ 8 Try.underlying22 hi hz0 hz1 hz2 rfl (.slice (some ⟨W.heap.size, 0, none⟩) 0 0) 0 [] (by rfl) (by exact (HMA.out.alloc _)) W.heap.size D d.length d.length (i64L (d.take d.length)) (by rfl) HTK.out (by exact (HRT.out.alloc (Nat.le_refl _) _).alloc (by simp) _) (i64L_one _) (by unfold maxLen; omega) (by omega) (by first | (simp; done) | (simp; omega)) ?_
                   intro v5 w5 hown5 hgrow5 hat5
                   simp only [Nat.zero_add, List.nil_append] at hown5
                   obtain ⟨A5, c5, rfl, hn5, _, hrd5⟩ := own_rd hown5
                   have hg5 : Grew W w5 := grew_grown (by first | exact grew_drew1 (grew_alloc' (grew_alloc' (Below.refl _ W) _) _) | exact grew_drew1 (grew_drew1 (grew_alloc' (grew_alloc' (Below.refl _ W) _) _))) hgrow5 (fun j hj => by have h2 : some W.heap.size = some j := hj; injection h2 with h2; omega)
                   have hq5 : w5.cell? (ad.add i) = some (.int .i64 z) := (hg5.cell hbz).trans hcW
                   have hz5B : w5.cell? ⟨W.heap.size + 1, 0, none⟩ = some (.int .i64 z) := (hgrow5.cell_far ⟨W.heap.size + 1, 0, none⟩ (by first | (simp; done) | (simp; omega)) (fun h => by have h2 : some (W.heap.size + 1) = some W.heap.size := h; injection h2 with h2; omega)).trans (cell_new1 W _ z)
                   have hz5l : W.heap.size + 2 ≤ w5.heap.size := by have h5 := hgrow5.size; simp at h5; omega)
                | (refine step_append_rd (by rfl) _ _ _ (by rfl) W.heap.size 3 i0 _ 8 Try.underlying22 hi hz0 hz1 hz2 rfl (.slice A5 d.length c5) d.length (i64L (d.take d.length)) (by rfl) (by exact hown5) w5.heap.size (some ⟨W.heap.size + 1, 0, none⟩) 1 1 [.int .i64 z] (by rfl) rfl (rd_one1 hz5B (by omega)) (one_int _ _) (by unfold maxLen; omega) (by omega) (by omega) ?_
                   intro v6 w6 hown6 hgrow6 hat6
                   have hg6 : Grew W w6 := grew_grown (by first | exact hg5 | exact grew_drew1 hg5) hgrow6 (own_base hown5)
                   have hq6 : w6.cell? (ad.add i) = some (.int .i64 z) := (hg6.cell hbz).trans hcW
                   clear hat5 hgrow5 hgrow6 hown5 hn5 hrd5 hg5 hz5B hz5l)
                | (refine step_append_rd (by rfl) _ _ _ (by rfl) W.heap.size 3 i0 _ 8 Try.underlying22 hi hz0 hz1 hz2 rfl (.slice (some ⟨W.heap.size + 1, 0, none⟩) 0 0) 0 [] (by rfl) (by exact HMC.out) W.heap.size D d.length d.length (i64L (d.take d.length)) (by rfl) HTK.out (by exact (HRT.out.alloc (Nat.le_refl _) _).alloc (by simp) _) (i64L_one _) (by unfold maxLen; omega) (by omega) (by first | (simp; done) | (simp; omega)) ?_
                   intro v5 w5 hown5 hgrow5 hat5
                   simp only [Nat.zero_add, List.nil_append] at hown5
                   obtain ⟨A5, c5, rfl, hn5, _, hrd5⟩ := own_rd hown5
                   have hg5 : Grew W w5 := grew_grown (by first | exact grew_drew1 (grew_alloc' (grew_alloc' (Below.refl _ W) _) _) | exact grew_drew1 (grew_drew1 (grew_alloc' (grew_alloc' (Below.refl _ W) _) _))) hgrow5 (fun j hj => by have h2 : some (W.heap.size + 1) = some j := hj; injection h2 with h2; omega)
                   have hq5 : w5.cell? (ad.add i) = some (.int .i64 z) := (hg5.cell hbz).trans hcW
                   have hz5C : w5.cell? ⟨W.heap.size, 0, none⟩ = some (.int .i64 z) := (hgrow5.cell_far ⟨W.heap.size, 0, none⟩ (by first | (simp; done) | (simp; omega)) (fun h => by have h2 : some W.heap.size = some (W.heap.size + 1) := h; injection h2 with h2; omega)).trans (cell_new2 W _ z)
                   have hz5l : W.heap.size + 2 ≤ w5.heap.size := by have h5 := hgrow5.size; simp at h5; omega)
                | (refine step_append_rd (by rfl) _ _ _ (by rfl) W.heap.size 3 i0 _ 8 Try.underlying22 hi hz0 hz1 hz2 rfl (.slice A5 d.length c5) d.length (i64L (d.take d.length)) (by rfl) (by exact hown5) w5.heap.size (some ⟨W.heap.size, 0, none⟩) 1 1 [.int .i64 z] (by rfl) rfl (rd_one1 hz5C (by omega)) (one_int _ _) (by unfold maxLen; omega) (by omega) (by omega) ?_
                   intro v6 w6 hown6 hgrow6 hat6
                   have hg6 : Grew W w6 := grew_grown (by first | exact hg5 | exact grew_drew1 hg5) hgrow6 (own_base hown5)
                   have hq6 : w6.cell? (ad.add i) = some (.int .i64 z) := (hg6.cell hbz).trans hcW
                   clear hat5 hgrow5 hgrow6 hown5 hn5 hrd5 hg5 hz5C hz5l))
            all_goals
              obtain ⟨A6, c6, rfl, hn6, _, hrd6⟩ := own_rd hown6
              have HDD := Lib.hid (show Rd w6 W.heap.size D (i64L []) from Rd.nil_ _ _ _)
              have hz6 := hg6.size
              clear hat6
              go_wp2_with (at_builtin; refine wpList_append_rd rfl (.tmp 56) (.tmp 59) 22 rfl W.heap.size 3 i0 (.int .i64 0) 8 Try.underlying22 hi hz0 hz1 hz2 rfl (.slice A6 (d.length + 1) c6) (d.length + 1) (i64L (d.take d.length) ++ [.int .i64 z]) rfl hown6 W.heap.size D 0 0 (i64L []) rfl rfl HDD.out (i64L_one _) (by unfold maxLen; omega) (by omega) (by omega) ?_; intro v7 w7 hown7 hgrow7 hat7)
              go_roundw
              case rel => exact ⟨i + 1, by omega, by go_num, by rw [HTS.out, HE.out, row_len2 d z, row_val2 d z]; exact ownsRow_low hown7 hzW, (grew_trans hgW hg6).grown hgrow7 (by omega) (fun j hj => Nat.le_trans hzW (own_base hown6 j hj))⟩
              case measure => simp [intOf]; omega
          · obtain ⟨ad', rfl⟩ := hsome.resolve_left hdcl
            have hdc1 : ¬ d.length = dc := fun h => hdcl h.symm
            go_wp2_with fail
            go_quiet (fail)
            revert nq
            intro m1
            intros
            go_wp2_with fail
            go_quiet (fail)
            go_wp2_with fail
            obtain ⟨W, hW⟩ : ∃ W, ((wr.drewN n).drewN m1).drewN nq = W := ⟨_, rfl⟩
            have hgW : Grew w W := by rw [← hW]; exact grew_drewN' (grew_drewN' (grew_drewN' hg _) _) _
            have hcW : W.cell? (ad.add i) = some (.int .i64 z) := by rw [← hW]; exact hc0
            have hDW : Rd W W.heap.size (some ad') (i64L d) := by rw [← hW]; exact hD
            rw [hW]
            clear hW hD hown hc0 hr
            have hzW := hgW.size
            have HTK := Lib.hid (show (i64L (d.take d.length)).length = d.length by rw [i64L_length, List.length_take]; omega)
            have HDK := Lib.hid (show (i64L (d.drop d.length)).length = d.length - d.length by rw [i64L_length, List.length_drop])
            have HRT := Lib.hid (rd_take_i64' hDW d.length)
            have HRW := Lib.hid hDW
            clear hDW
            have HMA := Lib.hid (World.ownsRow_made (base := W.heap.size) (e := 3) (size := 1) W #[] 0 (Nat.le_refl _) (by decide) rfl)
            have HMC : Hid (((W.alloc (.cells #[.int .i64 z] 3)).alloc (.cells #[] 3)).ownsRow W.heap.size 3 1 (.slice (some ⟨W.heap.size + 1, 0, none⟩) 0 0) 0 []) := Lib.hid (by have := World.ownsRow_made (base := W.heap.size) (e := 3) (size := 1) (W.alloc (.cells #[.int .i64 z] 3)) #[] 0 (by simp) (by decide) rfl; rwa [World.size_alloc] at this)
            have hbz : (ad.add i).block < W.heap.size := by rw [blk_add]; omega
            have hkc : (d.length : Int) ≤ (dc : Int) := by omega
            have hkc' : d.length ≤ dc := by omega
            go_region_held3 (fun w' => w'.cell? (ad.add i) = some (.int .i64 z)) (go_keep)
              (first
                | (refine step_append_rd (by rfl) _ _ _ (by rfl) W.heap.size 3 i0 _ 8 Try.underlying22 hi hz0 hz1 hz2 rfl (.slice (some ⟨W.heap.size, 0, none⟩) 0 0) 0 [] (by rfl) (by exact HMA.out) W.heap.size (some ad') d.length dc (i64L (d.take d.length)) (by rfl) HTK.out (by exact HRT.out.alloc (Nat.le_refl _) _) (i64L_one _) (by unfold maxLen; omega) (by omega) (by simp) ?_
                   intro v5 w5 hown5 hgrow5 hat5
                   simp only [Nat.zero_add, List.nil_append] at hown5
                   obtain ⟨A5, c5, rfl, hn5, _, hrd5⟩ := own_rd hown5
                   have hg5 : Grew W w5 := grew_grown (by first | exact grew_drew1 (grew_alloc' (Below.refl _ W) _) | exact grew_drew1 (grew_drew1 (grew_alloc' (Below.refl _ W) _))) hgrow5 (fun j hj => by have h2 : some W.heap.size = some j := hj; injection h2 with h2; omega)
                   have hz5A := hg5.size
                   have hq5 : w5.cell? (ad.add i) = some (.int .i64 z) := (hg5.cell hbz).trans hcW)
                | (refine step_append_rd (by rfl) _ _ _ (by rfl) W.heap.size 3 i0 _ 8 Try.underlying22 hi hz0 hz1 hz2 rfl (.slice A5 d.length c5) d.length (i64L (d.take d.length)) (by rfl) (by exact (hown5.alloc _)) (w5.heap.size + 1) (some ⟨w5.heap.size, 0, none⟩) 1 1 [.int .i64 z] (by rfl) rfl (by exact rd_new w5 3 #[.int .i64 z] (0, 0)) (one_int _ _) (by unfold maxLen; omega) (by omega) (by have h5 := hz5A; first | (simp; done) | (simp; omega)) ?_
                   intro v6 w6 hown6 hgrow6 hat6
                   have hg6 : Grew W w6 := grew_grown (by first | exact grew_alloc' hg5 _ | exact grew_drew1 (grew_alloc' hg5 _)) hgrow6 (own_base hown5)
                   have hq6 : w6.cell? (ad.add i) = some (.int .i64 z) := (hg6.cell hbz).trans hcW
                   clear hat5 hgrow5 hgrow6 hown5 hn5 hrd5 hg5 hz5A)
                | (refine step_append_rd (by rfl) _ _ _ (by rfl) W.heap.size 3 i0 _ 8 Try.underlying22 hi hz0 hz1 hz2 rfl (.slice (some ⟨W.heap.size, 0, none⟩) 0 0) 0 [] (by rfl) (by exact (HMA.out.alloc _)) W.heap.size (some ad') d.length dc (i64L (d.take d.length)) (by rfl) HTK.out (by exact (HRT.out.alloc (Nat.le_refl _) _).alloc (by simp) _) (i64L_one _) (by unfold maxLen; omega) (by omega) (by first | (simp; done) | (simp; omega)) ?_
                   intro v5 w5 hown5 hgrow5 hat5
                   simp only [Nat.zero_add, List.nil_append] at hown5
                   obtain ⟨A5, c5, rfl, hn5, _, hrd5⟩ := own_rd hown5
                   have hg5 : Grew W w5 := grew_grown (by first | exact grew_drew1 (grew_alloc' (grew_alloc' (Below.refl _ W) _) _) | exact grew_drew1 (grew_drew1 (grew_alloc' (grew_alloc' (Below.refl _ W) _) _))) hgrow5 (fun j hj => by have h2 : some W.heap.size = some j := hj; injection h2 with h2; omega)
                   have hq5 : w5.cell? (ad.add i) = some (.int .i64 z) := (hg5.cell hbz).trans hcW
                   have hz5B : w5.cell? ⟨W.heap.size + 1, 0, none⟩ = some (.int .i64 z) := (hgrow5.cell_far ⟨W.heap.size + 1, 0, none⟩ (by first | (simp; done) | (simp; omega)) (fun h => by have h2 : some (W.heap.size + 1) = some W.heap.size := h; injection h2 with h2; omega)).trans (cell_new1 W _ z)
                   have hz5l : W.heap.size + 2 ≤ w5.heap.size := by have h5 := hgrow5.size; simp at h5; omega)
                | (refine step_append_rd (by rfl) _ _ _ (by rfl) W.heap.size 3 i0 _ 8 Try.underlying22 hi hz0 hz1 hz2 rfl (.slice A5 d.length c5) d.length (i64L (d.take d.length)) (by rfl) (by exact hown5) w5.heap.size (some ⟨W.heap.size + 1, 0, none⟩) 1 1 [.int .i64 z] (by rfl) rfl (rd_one1 hz5B (by omega)) (one_int _ _) (by unfold maxLen; omega) (by omega) (by omega) ?_
                   intro v6 w6 hown6 hgrow6 hat6
                   have hg6 : Grew W w6 := grew_grown (by first | exact hg5 | exact grew_drew1 hg5) hgrow6 (own_base hown5)
                   have hq6 : w6.cell? (ad.add i) = some (.int .i64 z) := (hg6.cell hbz).trans hcW
                   clear hat5 hgrow5 hgrow6 hown5 hn5 hrd5 hg5 hz5B hz5l)
                | (refine step_append_rd (by rfl) _ _ _ (by rfl) W.heap.size 3 i0 _ 8 Try.underlying22 hi hz0 hz1 hz2 rfl (.slice (some ⟨W.heap.size + 1, 0, none⟩) 0 0) 0 [] (by rfl) (by exact HMC.out) W.heap.size (some ad') d.length dc (i64L (d.take d.length)) (by rfl) HTK.out (by exact (HRT.out.alloc (Nat.le_refl _) _).alloc (by simp) _) (i64L_one _) (by unfold maxLen; omega) (by omega) (by first | (simp; done) | (simp; omega)) ?_
                   intro v5 w5 hown5 hgrow5 hat5
                   simp only [Nat.zero_add, List.nil_append] at hown5
                   obtain ⟨A5, c5, rfl, hn5, _, hrd5⟩ := own_rd hown5
                   have hg5 : Grew W w5 := grew_grown (by first | exact grew_drew1 (grew_alloc' (grew_alloc' (Below.refl _ W) _) _) | exact grew_drew1 (grew_drew1 (grew_alloc' (grew_alloc' (Below.refl _ W) _) _))) hgrow5 (fun j hj => by have h2 : some (W.heap.size + 1) = some j := hj; injection h2 with h2; omega)
                   have hq5 : w5.cell? (ad.add i) = some (.int .i64 z) := (hg5.cell hbz).trans hcW
                   have hz5C : w5.cell? ⟨W.heap.size, 0, none⟩ = some (.int .i64 z) := (hgrow5.cell_far ⟨W.heap.size, 0, none⟩ (by first | (simp; done) | (simp; omega)) (fun h => by have h2 : some W.heap.size = some (W.heap.size + 1) := h; injection h2 with h2; omega)).trans (cell_new2 W _ z)
                   have hz5l : W.heap.size + 2 ≤ w5.heap.size := by have h5 := hgrow5.size; simp at h5; omega)
                | (refine step_append_rd (by rfl) _ _ _ (by rfl) W.heap.size 3 i0 _ 8 Try.underlying22 hi hz0 hz1 hz2 rfl (.slice A5 d.length c5) d.length (i64L (d.take d.length)) (by rfl) (by exact hown5) w5.heap.size (some ⟨W.heap.size, 0, none⟩) 1 1 [.int .i64 z] (by rfl) rfl (rd_one1 hz5C (by omega)) (one_int _ _) (by unfold maxLen; omega) (by omega) (by omega) ?_
                   intro v6 w6 hown6 hgrow6 hat6
                   have hg6 : Grew W w6 := grew_grown (by first | exact hg5 | exact grew_drew1 hg5) hgrow6 (own_base hown5)
                   have hq6 : w6.cell? (ad.add i) = some (.int .i64 z) := (hg6.cell hbz).trans hcW
                   clear hat5 hgrow5 hgrow6 hown5 hn5 hrd5 hg5 hz5C hz5l))
            all_goals
              obtain ⟨A6, c6, rfl, hn6, _, hrd6⟩ := own_rd hown6
              have HDD := Lib.hid (show Rd w6 W.heap.size (some (ad'.add d.length)) (i64L []) from Rd.nil_ _ _ _)
              have hz6 := hg6.size
              clear hat6
              go_wp2_with (at_builtin; refine wpList_append_rd rfl (.tmp 56) (.tmp 59) 22 rfl W.heap.size 3 i0 (.int .i64 0) 8 Try.underlying22 hi hz0 hz1 hz2 rfl (.slice A6 (d.length + 1) c6) (d.length + 1) (i64L (d.take d.length) ++ [.int .i64 z]) rfl hown6 W.heap.size (some (ad'.add d.length)) 0 (dc - d.length) (i64L []) rfl rfl HDD.out (i64L_one _) (by unfold maxLen; omega) (by omega) (by omega) ?_; intro v7 w7 hown7 hgrow7 hat7)
              go_roundw
              case rel => exact ⟨i + 1, by omega, by go_num, by rw [HTS.out, HE.out, row_len2 d z, row_val2 d z]; exact ownsRow_low hown7 hzW, (grew_trans hgW hg6).grown hgrow7 (by omega) (fun j hj => Nat.le_trans hzW (own_base hown6 j hj))⟩
              case measure => simp [intOf]; omega
    · obtain rfl : i = l.length := by omega
      rw [List.take_length] at hown
      go_wp2_with fail
      go_ret
      exact ⟨_, rfl, hown, hg⟩
end Go.Proofs.Ytpoimhjencpieaa
