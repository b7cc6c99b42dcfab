/- cmd.Digest, the reference's CmdText, CmdDigest. -/
import Derived.Test.YtpgbfglfgcidaaaDoorZax
import Derived.Test.YtpgbfglfgcidaaaDoorZay
import Derived.Test.YtpgbfglfgcidaaaDoorZae
import Derived.LoopN
import Derived.Test.YtpgbfglfgcidaaaDoorZai
namespace Go.Proofs.YtpgbfglfgcidaaaDoor
set_option linter.unusedSimpArgs false
set_option linter.unusedVariables false
open Go.RowKit
set_option linter.unusedVariables false
theorem txC_len {c : Cm} (hc : c.in) : (txC c).length ≤ 105 := nums_len c.l hc
def tagCmd : List UInt8 := [99, 109, 100]
noncomputable def dgC (c : Cm) : Nat := sumL tagCmd (txC c)
set_option maxRecDepth 100000 in
theorem digest_ok (c : Cm) (hc : c.in) (w : World) (hs : Std w) : Calls Tryd.prog 15 #[c.v] w fun e w' => e = .returned (.int .u64 (dgC c : Nat)) ∧ Grew w w' := by
  have hl := txC_len hc
  have HS := Lib.hid hs
  have HT := Lib.hid (fun (w : World) (h : Std w) => text_ok c hc w h)
  have HD := Lib.hid (fun (w : World) => of_any ⟨#[99, 109, 100]⟩ ⟨(txC c).toArray⟩ (by decide) (by show (txC c).toArray.size ≤ _; simp; omega) w)
  have HE : Hid (sumL (⟨#[99, 109, 100]⟩ : ByteArray).data.toList (⟨(txC c).toArray⟩ : ByteArray).data.toList = dgC c) := Lib.hid rfl
  clear hs hc hl
  obtain ⟨cl, no, fr, tt, am⟩ := c
  unfold Cm.v at HT ⊢
  go_enter Tryd.func15, Tryd.ntmps15
  go_wp2_with (go_at_call 12; refine (HT.out _ (HS.out.grew (grew_alloc (grew_refl w) _))).mono ?_; rintro e w1 ⟨rfl, g1⟩)
  have g1' : Grew w w1 := grew_trans (grew_alloc (grew_refl w) _) g1
  unfold txtV
  go_wp2_with (go_at_call 21; refine (HD.out _).mono ?_; rintro e w2 ⟨rfl, hw⟩; subst hw)
  go_ret
  exact ⟨rfl, g1'⟩
set_option maxRecDepth 100000 in
theorem rtext_ok (c : Cm) (hc : c.in) (w : World) : Calls Tryd.prog 14 #[c.v] w fun e w' => e = .returned (txtV (txC c)) ∧ Grew w w' := by
  obtain ⟨cl, no, fr, tt, am⟩ := c
  have HC5 : Hid (∀ x ∈ [cl, no, fr, tt, am], in64 x) := Lib.hid hc
  clear hc
  unfold Cm.v
  go_enter Tryd.func14, Tryd.ntmps14
  go_wp2_with fail
  have g0 := grew_alloc (grew_alloc (grew_refl w) (.cells #[.int .i64 cl, .int .i64 no, .int .i64 fr, .int .i64 tt, .int .i64 am] 26)) (.cells #[.int .i64 cl, .int .i64 no, .int .i64 fr, .int .i64 tt, .int .i64 am] 2)
  refine (rnums_ok (some ⟨w.heap.size + 1, 0, none⟩) 5 [cl, no, fr, tt, am] (by simp) HC5.out _ (rd_made2 w (.cells #[.int .i64 cl, .int .i64 no, .int .i64 fr, .int .i64 tt, .int .i64 am] 26) 2 #[.int .i64 cl, .int .i64 no, .int .i64 fr, .int .i64 tt, .int .i64 am])).mono ?_
  rintro e w1 ⟨rfl, g1⟩
  go_wp2_with fail
  go_ret
  exact ⟨rfl, grew_trans g0 g1⟩
set_option maxRecDepth 100000 in
theorem rdigest_ok (c : Cm) (hc : c.in) (w : World) : Calls Tryd.prog 16 #[c.v] w fun e w' => e = .returned (.int .u64 (dgC c : Nat)) ∧ Grew w w' := by
  have hl := txC_len hc
  have HT := Lib.hid (fun (w : World) => rtext_ok c hc w)
  have HD := Lib.hid (fun (w : World) => refof_any ⟨#[99, 109, 100]⟩ ⟨(txC c).toArray⟩ (by decide) (by show (txC c).toArray.size ≤ _; simp; omega) w)
  clear hc hl
  obtain ⟨cl, no, fr, tt, am⟩ := c
  unfold Cm.v at HT ⊢
  go_enter Tryd.func16, Tryd.ntmps16
  go_wp2_with (go_at_call 14; refine (HT.out _).mono ?_; rintro e w1 ⟨rfl, g1⟩)
  have g1' : Grew w w1 := grew_trans (grew_alloc (grew_refl w) _) g1
  unfold txtV
  go_wp2_with (go_at_call 23; refine (HD.out _).mono ?_; rintro e w2 ⟨rfl, g2⟩)
  go_ret
  exact ⟨rfl, grew_trans g1' g2⟩
end Go.Proofs.YtpgbfglfgcidaaaDoor

namespace Go.Proofs.YtpgbfglfgcidaaaDoor
set_option linter.unusedSimpArgs false
set_option linter.unusedVariables false
open Go.RowKit
set_option linter.unusedVariables false
set_option maxRecDepth 100000 in
set_option maxHeartbeats 1000000 in
theorem cparse_bad (s : ByteArray) (hs : s.size ≤ 1048576) (v : List Int) (ev : Int) (hpn : pnums s.data.toList = (v, ev)) (hev : ev ≠ 0) (w : World) (hS : Std w) (hg8 : 2 < w.heap.size) :
    Calls Tryd.prog 11 #[.string s] w fun e w' => e = .returned (.tuple #[Cm.zero.v, .int .i64 ev]) ∧ Grew w w' := by
  have g0 := grew_alloc (grew_refl w) (.cells #[.int .i64 0, .int .i64 0, .int .i64 0, .int .i64 0, .int .i64 0] 23)
  have z0 := Ag.new w 23 #[.int .i64 0, .int .i64 0, .int .i64 0, .int .i64 0, .int .i64 0]
  have hi5 : (Tryd.prog.info? 23).map (·.size) = some 5 := by kernel_rfl
  have hb := alloc_size w (.cells #[.int .i64 0, .int .i64 0, .int .i64 0, .int .i64 0, .int .i64 0] 23)
  have CP := Lib.hid (parseNums_ok s hs _ (hS.grew g0) (Nat.lt_of_lt_of_le hg8 g0.size))
  rw [hpn] at CP
  dsimp only at CP
  have hev' : (ev != 0) = true := by simpa using hev
  clear hpn hS hg8
  go_enter Tryd.func11, Tryd.ntmps11
  go_wp2_with (first
    | (go_at_call 20; refine (CP.out).mono ?_; rintro e w1 ⟨⟨v1, rfl, o1⟩, g1⟩; have z1 := z0.grew g1; have gg := grew_trans g0 g1)
    | (refine wpList_store_mid rfl 23 (.tmp 2) (.tmp 17) rfl w.heap.size 0 #[.int .i64 0, .int .i64 0, .int .i64 0, .int .i64 0, .int .i64 0] rfl rfl (z1.thereN 5 rfl) hi5 (by simp [Value.oneCell']) ?_; have z2 := Ag.set (vs := [.int .i64 0, .int .i64 0, .int .i64 0, .int .i64 0, .int .i64 0]) z1 rfl; have g2 := setCells_grew (o := 0) (b := w.heap.size) [.int .i64 0, .int .i64 0, .int .i64 0, .int .i64 0, .int .i64 0] gg (Nat.le_refl _)))
  have c0 := z2.cell 0 _ rfl
  have c1 := z2.cell 1 _ rfl
  have c2 := z2.cell 2 _ rfl
  have c3 := z2.cell 3 _ rfl
  have c4 := z2.cell 4 _ rfl
  simp only [Nat.zero_add] at c0 c1 c2 c3 c4
  exact bodyPost_ret (v := .tuple #[Cm.zero.v, .int .i64 ev]) (by simp [results, Tryd.f11, go_sem, c0, c1, c2, c3, c4]; try rfl) rfl ⟨rfl, g2⟩
set_option maxRecDepth 100000 in
set_option maxHeartbeats 1000000 in
theorem cparse_len (s : ByteArray) (hs : s.size ≤ 1048576) (v : List Int) (hpn : pnums s.data.toList = (v, 0)) (hlen : v.length ≠ 5) (w : World) (hS : Std w) (hg8 : 2 < w.heap.size) :
    Calls Tryd.prog 11 #[.string s] w fun e w' => e = .returned (.tuple #[Cm.zero.v, .int .i64 2]) ∧ Grew w w' := by
  have g0 := grew_alloc (grew_refl w) (.cells #[.int .i64 0, .int .i64 0, .int .i64 0, .int .i64 0, .int .i64 0] 23)
  have z0 := Ag.new w 23 #[.int .i64 0, .int .i64 0, .int .i64 0, .int .i64 0, .int .i64 0]
  have hi5 : (Tryd.prog.info? 23).map (·.size) = some 5 := by kernel_rfl
  have hb := alloc_size w (.cells #[.int .i64 0, .int .i64 0, .int .i64 0, .int .i64 0, .int .i64 0] 23)
  have CP := Lib.hid (parseNums_ok s hs _ (hS.grew g0) (Nat.lt_of_lt_of_le hg8 g0.size))
  rw [hpn] at CP
  dsimp only at CP
  have hne : ((v.length : Int) != 5) = true := by simpa using (by omega : ¬ (v.length : Int) = 5)
  clear hpn hlen hS hg8
  go_enter Tryd.func11, Tryd.ntmps11
  go_wp2_with (first
    | (go_at_call 20; refine (CP.out).mono ?_; rintro e w1 ⟨⟨v1, rfl, o1⟩, g1⟩; obtain ⟨A1, k1, rfl, _, _, r1⟩ := own_rd o1; have z1 := z0.grew g1; have gg := grew_trans g0 g1)
    | (refine wpList_store_mid rfl 23 (.tmp 2) (.tmp 22) rfl w.heap.size 0 #[.int .i64 0, .int .i64 0, .int .i64 0, .int .i64 0, .int .i64 0] rfl rfl (z1.thereN 5 rfl) hi5 (by simp [Value.oneCell']) ?_; have z2 := Ag.set (vs := [.int .i64 0, .int .i64 0, .int .i64 0, .int .i64 0, .int .i64 0]) z1 rfl; have g2 := setCells_grew (o := 0) (b := w.heap.size) [.int .i64 0, .int .i64 0, .int .i64 0, .int .i64 0, .int .i64 0] gg (Nat.le_refl _)))
  have c0 := z2.cell 0 _ rfl
  have c1 := z2.cell 1 _ rfl
  have c2 := z2.cell 2 _ rfl
  have c3 := z2.cell 3 _ rfl
  have c4 := z2.cell 4 _ rfl
  simp only [Nat.zero_add] at c0 c1 c2 c3 c4
  exact bodyPost_ret (v := .tuple #[Cm.zero.v, .int .i64 2]) (by simp [results, Tryd.f11, go_sem, c0, c1, c2, c3, c4]; try rfl) rfl ⟨rfl, g2⟩
set_option maxRecDepth 100000 in
set_option maxHeartbeats 4000000 in
theorem cparse_five (s : ByteArray) (hs : s.size ≤ 1048576) (a b c d e : Int) (hpn : pnums s.data.toList = ([a, b, c, d, e], 0)) (R : Cm × Int) (hR1 : ¬ (smallC a ∧ smallC b ∧ smallC c ∧ smallC d) → R = (Cm.zero, 2)) (hR2 : (smallC a ∧ smallC b ∧ smallC c ∧ smallC d) → ¬ okC ⟨a, b, c, d, e⟩ → R = (Cm.zero, 1)) (hR3 : (smallC a ∧ smallC b ∧ smallC c ∧ smallC d) → okC ⟨a, b, c, d, e⟩ → R = (⟨a, b, c, d, e⟩, 0)) (w : World) (hS : Std w) (hg8 : 2 < w.heap.size) :
    Calls Tryd.prog 11 #[.string s] w fun x w' => x = .returned (.tuple #[R.1.v, .int .i64 R.2]) ∧ Grew w w' := by
  have g0 := grew_alloc (grew_refl w) (.cells #[.int .i64 0, .int .i64 0, .int .i64 0, .int .i64 0, .int .i64 0] 23)
  have z0 := Ag.new w 23 #[.int .i64 0, .int .i64 0, .int .i64 0, .int .i64 0, .int .i64 0]
  have hi5 : (Tryd.prog.info? 23).map (·.size) = some 5 := by kernel_rfl
  have hb := alloc_size w (.cells #[.int .i64 0, .int .i64 0, .int .i64 0, .int .i64 0, .int .i64 0] 23)
  have CP := Lib.hid (parseNums_ok s hs _ (hS.grew g0) (Nat.lt_of_lt_of_le hg8 g0.size))
  rw [hpn] at CP
  dsimp only at CP
  have HR1 := Lib.hid hR1
  have HR2 := Lib.hid hR2
  have HR3 := Lib.hid hR3
  clear hpn hS hg8 hR1 hR2 hR3
  go_enter Tryd.func11, Tryd.ntmps11
  go_wp2_with fail
  refine (CP.out).mono ?_
  rintro e w1 ⟨⟨v1, rfl, o1⟩, g1⟩
  obtain ⟨A1, k1, rfl, hlk, _, r1⟩ := own_rd o1
  obtain ⟨ad, rfl, hlt, k_0⟩ := rd_i64 r1 0 (by simp)
  have hk5 : 5 ≤ k1 := hlk
  have hk4 : (4 : Int) ≤ (k1 : Int) := by omega
  have z1 := z0.grew g1
  have gg := grew_trans g0 g1
  have kk : ∀ (j : Nat) (hj : j < 5), w1.cell? (ad.add j) = some (.int .i64 ([a, b, c, d, e][j]'hj)) := fun j hj => by obtain ⟨ad', e1, _, h⟩ := rd_i64 r1 j hj; injection e1 with e1; subst e1; exact h
  have k_1 : w1.cell? ⟨ad.block, ad.off + 1, none⟩ = some (.int .i64 b) := by
    have h : w1.cell? (ad.add 1) = some (.int .i64 b) := kk 1 (by decide)
    simpa [Addr.add] using h
  have k_2 : w1.cell? ⟨ad.block, ad.off + 2, none⟩ = some (.int .i64 c) := by
    have h : w1.cell? (ad.add 2) = some (.int .i64 c) := kk 2 (by decide)
    simpa [Addr.add] using h
  have k_3 : w1.cell? ⟨ad.block, ad.off + 3, none⟩ = some (.int .i64 d) := by
    have h : w1.cell? (ad.add 3) = some (.int .i64 d) := kk 3 (by decide)
    simpa [Addr.add] using h
  have k_4 : w1.cell? ⟨ad.block, ad.off + 4, none⟩ = some (.int .i64 e) := by
    have h : w1.cell? (ad.add 4) = some (.int .i64 e) := kk 4 (by decide)
    simpa [Addr.add] using h
  have k_0 : w1.cell? ad = some (.int .i64 a) := by simpa [Addr.add] using k_0
  have KK := Lib.hid kk
  have K0 := Lib.hid k_0
  have K1 := Lib.hid k_1
  have K2 := Lib.hid k_2
  have K3 := Lib.hid k_3
  have K4 := Lib.hid k_4
  clear kk k_0 k_1 k_2 k_3 k_4 r1 o1
  go_wp2_with fail
  go_loopw [26] (fun iv wr => ∃ k : Nat, k ≤ 4 ∧ iv = .int .i64 k ∧ Hid (∀ j (h : j < 5), j < k → smallC ([a, b, c, d, e][j]'h)) ∧ wr = w1) (fun iv _ => 4 - (intOf iv).toNat)
  case atStart => exact ⟨0, by omega, rfl, Lib.hid (fun j _ h => absurd h (by omega)), rfl⟩
  case round =>
    obtain ⟨k, hk, rfl, HM, hwr⟩ := hrel
    have hwr := hwr.symm
    subst hwr
    by_cases hlt4 : k < 4
    · have hc := KK.out k (by omega)
      have hk0 : (0 : Int) ≤ (k : Int) := by omega
      have hk1 : (k : Int) < 4 := by omega
      have e4 : IntKind.i64.wrap ((k : Int) + 1) = (k : Int) + 1 := IntWalk.i64_in _ (by omega)
      have HX : Hid (smallC ([a, b, c, d, e][k]'(show k < 5 by omega)) → ∀ j (h : j < 5), j < k + 1 → smallC ([a, b, c, d, e][j]'h)) := Lib.hid (fun h j h1 h2 => by
        by_cases hjk : j = k
        · subst hjk; exact h
        · exact HM.out j h1 (by omega))
      have HN : Hid (¬ smallC ([a, b, c, d, e][k]'(show k < 5 by omega)) → ¬ (smallC a ∧ smallC b ∧ smallC c ∧ smallC d)) := Lib.hid (fun h hh => h (by
        obtain ⟨h1, h2, h3, h4⟩ := hh
        match k, hlt4 with
        | 0, _ => exact h1
        | 1, _ => exact h2
        | 2, _ => exact h3
        | 3, _ => exact h4))
      generalize [a, b, c, d, e][k]'(show k < 5 by omega) = x at *
      by_cases hsm : smallC x
      · have hx1 : ¬ x < -2147483648 := by unfold smallC at hsm; omega
        have hx2 : ¬ 2147483647 < x := by unfold smallC at hsm; omega
        have HX2 := Lib.hid (HX.out hsm)
        clear hsm HX HN
        go_wp2_with fail
        go_roundw
        case rel => exact ⟨k + 1, by omega, by go_num, HX2, by trivial⟩
        case measure => simp [intOf]; omega
      · have hRR := HR1.out (HN.out hsm)
        have HRR := Lib.hid hRR
        have hxx : x < -2147483648 ∨ (¬ x < -2147483648 ∧ 2147483647 < x) := by unfold smallC at hsm; omega
        clear hsm HX HN HM hRR
        rcases hxx with hx1 | ⟨hx1, hx2⟩
        all_goals
          go_wp2_with (first
            | (refine wpList_store_mid rfl 23 (.tmp 2) (.tmp 36) rfl w.heap.size 0 #[.int .i64 0, .int .i64 0, .int .i64 0, .int .i64 0, .int .i64 0] rfl rfl (z1.thereN 5 rfl) hi5 (by simp [Value.oneCell']) ?_; have z2 := Ag.set (vs := [.int .i64 0, .int .i64 0, .int .i64 0, .int .i64 0, .int .i64 0]) z1 rfl; have g2 := setCells_grew (o := 0) (b := w.heap.size) [.int .i64 0, .int .i64 0, .int .i64 0, .int .i64 0, .int .i64 0] gg (Nat.le_refl _)))
          rw [HRR.out]
          have c0 := z2.cell 0 _ rfl
          have c1 := z2.cell 1 _ rfl
          have c2 := z2.cell 2 _ rfl
          have c3 := z2.cell 3 _ rfl
          have c4 := z2.cell 4 _ rfl
          simp only [Nat.zero_add] at c0 c1 c2 c3 c4
          exact bodyPost_ret (v := .tuple #[Cm.zero.v, .int .i64 2]) (by simp [results, Tryd.f11, go_sem, c0, c1, c2, c3, c4]; try rfl) rfl ⟨rfl, g2⟩
    · obtain rfl : k = 4 := by omega
      have hall : smallC a ∧ smallC b ∧ smallC c ∧ smallC d := ⟨HM.out 0 (by decide) (by decide), HM.out 1 (by decide) (by decide), HM.out 2 (by decide) (by decide), HM.out 3 (by decide) (by decide)⟩
      have HR2 := Lib.hid (HR2.out hall)
      have HR3 := Lib.hid (HR3.out hall)
      have k_0 := K0.out
      have k_1 := K1.out
      have k_2 := K2.out
      have k_3 := K3.out
      have k_4 := K4.out
      clear hall HM HR1 KK hlt4 hk K0 K1 K2 K3 K4
      go_wp2_with fail
      refine wp_region_rel 17 (fun i => match i with
          | 0 => fun v _ => v = .slice (some ad) 5 k1
          | 1 => fun v _ => v = .pointer (some ad)
          | 2 => fun v _ => v = .int .i64 a
          | 3 => fun v _ => v = .slice (some ad) 5 k1
          | 4 => fun v _ => v = .pointer (some ⟨ad.block, ad.off + 1, none⟩)
          | 5 => fun v _ => v = .int .i64 b
          | 6 => fun v _ => v = .slice (some ad) 5 k1
          | 7 => fun v _ => v = .pointer (some ⟨ad.block, ad.off + 2, none⟩)
          | 8 => fun v _ => v = .int .i64 c
          | 9 => fun v _ => v = .slice (some ad) 5 k1
          | 10 => fun v _ => v = .pointer (some ⟨ad.block, ad.off + 3, none⟩)
          | 11 => fun v _ => v = .int .i64 d
          | 12 => fun v _ => v = .slice (some ad) 5 k1
          | 13 => fun v _ => v = .pointer (some ⟨ad.block, ad.off + 4, none⟩)
          | 14 => fun v _ => v = .int .i64 e
          | 15 => fun v _ => v = .agg #[.int .i64 a, .int .i64 b, .int .i64 c, .int .i64 d, .int .i64 e]
          | 16 => fun v w => ∃ q, v = .pointer (some ⟨q, 0, none⟩) ∧ Ag w q [.int .i64 0, .int .i64 0, .int .i64 0, .int .i64 0, .int .i64 0] ∧ w1.heap.size ≤ q
          | _ => fun _ _ => True) (by kernel_rfl) (by kernel_rfl) ?_ ?_ ?_
      · intro i v x y h hg
        match i, h with
        | 0, h | 1, h | 2, h | 3, h | 4, h | 5, h | 6, h | 7, h | 8, h | 9, h | 10, h | 11, h | 12, h | 13, h | 14, h | 15, h => exact h
        | 16, ⟨q, h1, h2, h3⟩ => exact ⟨q, h1, h2.grew hg, h3⟩
        | n + 17, _ => trivial
      · refine ⟨?_, ?_, ?_, ?_, ?_, ?_, ?_, ?_, ?_, ?_, ?_, ?_, ?_, ?_, ?_, ?_, ?_, trivial⟩
        · intro vs y hg hd
          simp only [actOf, List.take_succ_cons, List.take_zero, List.drop_succ_cons, List.drop_zero, Act.put, List.setIfInBounds_toArray, List.set_cons_succ, List.set_cons_zero, Nat.reduceAdd]
          go_wp2_with fail
          exact ⟨rfl, _, rfl, grew_refl _, rfl⟩
        · intro vs y hg hd
          obtain ⟨h0, _⟩ := hd
          replace h0 := h0 rfl
          simp only [actOf, List.take_succ_cons, List.take_zero, List.drop_succ_cons, List.drop_zero, Act.put, List.setIfInBounds_toArray, List.set_cons_succ, List.set_cons_zero, Nat.reduceAdd]
          rw [show vs 0 = _ from h0]
          go_wp2_with fail
          exact ⟨rfl, _, rfl, grew_refl _, rfl⟩
        · intro vs y hg hd
          obtain ⟨h1, _⟩ := hd
          replace h1 := h1 rfl
          simp only [actOf, List.take_succ_cons, List.take_zero, List.drop_succ_cons, List.drop_zero, Act.put, List.setIfInBounds_toArray, List.set_cons_succ, List.set_cons_zero, Nat.reduceAdd]
          rw [show vs 1 = _ from h1]
          have hc := (hg.cell (p := ad) hlt).trans k_0
          go_wp2_with fail
          exact ⟨rfl, _, rfl, grew_refl _, rfl⟩
        · intro vs y hg hd
          simp only [actOf, List.take_succ_cons, List.take_zero, List.drop_succ_cons, List.drop_zero, Act.put, List.setIfInBounds_toArray, List.set_cons_succ, List.set_cons_zero, Nat.reduceAdd]
          go_wp2_with fail
          exact ⟨rfl, _, rfl, grew_refl _, rfl⟩
        · intro vs y hg hd
          obtain ⟨h3, _⟩ := hd
          replace h3 := h3 rfl
          simp only [actOf, List.take_succ_cons, List.take_zero, List.drop_succ_cons, List.drop_zero, Act.put, List.setIfInBounds_toArray, List.set_cons_succ, List.set_cons_zero, Nat.reduceAdd]
          rw [show vs 3 = _ from h3]
          go_wp2_with fail
          exact ⟨rfl, _, rfl, grew_refl _, rfl⟩
        · intro vs y hg hd
          obtain ⟨h4, _⟩ := hd
          replace h4 := h4 rfl
          simp only [actOf, List.take_succ_cons, List.take_zero, List.drop_succ_cons, List.drop_zero, Act.put, List.setIfInBounds_toArray, List.set_cons_succ, List.set_cons_zero, Nat.reduceAdd]
          rw [show vs 4 = _ from h4]
          have hc := (hg.cell (p := ⟨ad.block, ad.off + 1, none⟩) hlt).trans k_1
          go_wp2_with fail
          exact ⟨rfl, _, rfl, grew_refl _, rfl⟩
        · intro vs y hg hd
          simp only [actOf, List.take_succ_cons, List.take_zero, List.drop_succ_cons, List.drop_zero, Act.put, List.setIfInBounds_toArray, List.set_cons_succ, List.set_cons_zero, Nat.reduceAdd]
          go_wp2_with fail
          exact ⟨rfl, _, rfl, grew_refl _, rfl⟩
        · intro vs y hg hd
          obtain ⟨h6, _⟩ := hd
          replace h6 := h6 rfl
          simp only [actOf, List.take_succ_cons, List.take_zero, List.drop_succ_cons, List.drop_zero, Act.put, List.setIfInBounds_toArray, List.set_cons_succ, List.set_cons_zero, Nat.reduceAdd]
          rw [show vs 6 = _ from h6]
          go_wp2_with fail
          exact ⟨rfl, _, rfl, grew_refl _, rfl⟩
        · intro vs y hg hd
          obtain ⟨h7, _⟩ := hd
          replace h7 := h7 rfl
          simp only [actOf, List.take_succ_cons, List.take_zero, List.drop_succ_cons, List.drop_zero, Act.put, List.setIfInBounds_toArray, List.set_cons_succ, List.set_cons_zero, Nat.reduceAdd]
          rw [show vs 7 = _ from h7]
          have hc := (hg.cell (p := ⟨ad.block, ad.off + 2, none⟩) hlt).trans k_2
          go_wp2_with fail
          exact ⟨rfl, _, rfl, grew_refl _, rfl⟩
        · intro vs y hg hd
          simp only [actOf, List.take_succ_cons, List.take_zero, List.drop_succ_cons, List.drop_zero, Act.put, List.setIfInBounds_toArray, List.set_cons_succ, List.set_cons_zero, Nat.reduceAdd]
          go_wp2_with fail
          exact ⟨rfl, _, rfl, grew_refl _, rfl⟩
        · intro vs y hg hd
          obtain ⟨h9, _⟩ := hd
          replace h9 := h9 rfl
          simp only [actOf, List.take_succ_cons, List.take_zero, List.drop_succ_cons, List.drop_zero, Act.put, List.setIfInBounds_toArray, List.set_cons_succ, List.set_cons_zero, Nat.reduceAdd]
          rw [show vs 9 = _ from h9]
          go_wp2_with fail
          exact ⟨rfl, _, rfl, grew_refl _, rfl⟩
        · intro vs y hg hd
          obtain ⟨h10, _⟩ := hd
          replace h10 := h10 rfl
          simp only [actOf, List.take_succ_cons, List.take_zero, List.drop_succ_cons, List.drop_zero, Act.put, List.setIfInBounds_toArray, List.set_cons_succ, List.set_cons_zero, Nat.reduceAdd]
          rw [show vs 10 = _ from h10]
          have hc := (hg.cell (p := ⟨ad.block, ad.off + 3, none⟩) hlt).trans k_3
          go_wp2_with fail
          exact ⟨rfl, _, rfl, grew_refl _, rfl⟩
        · intro vs y hg hd
          simp only [actOf, List.take_succ_cons, List.take_zero, List.drop_succ_cons, List.drop_zero, Act.put, List.setIfInBounds_toArray, List.set_cons_succ, List.set_cons_zero, Nat.reduceAdd]
          go_wp2_with fail
          exact ⟨rfl, _, rfl, grew_refl _, rfl⟩
        · intro vs y hg hd
          obtain ⟨h12, _⟩ := hd
          replace h12 := h12 rfl
          simp only [actOf, List.take_succ_cons, List.take_zero, List.drop_succ_cons, List.drop_zero, Act.put, List.setIfInBounds_toArray, List.set_cons_succ, List.set_cons_zero, Nat.reduceAdd]
          rw [show vs 12 = _ from h12]
          go_wp2_with fail
          exact ⟨rfl, _, rfl, grew_refl _, rfl⟩
        · intro vs y hg hd
          obtain ⟨h13, _⟩ := hd
          replace h13 := h13 rfl
          simp only [actOf, List.take_succ_cons, List.take_zero, List.drop_succ_cons, List.drop_zero, Act.put, List.setIfInBounds_toArray, List.set_cons_succ, List.set_cons_zero, Nat.reduceAdd]
          rw [show vs 13 = _ from h13]
          have hc := (hg.cell (p := ⟨ad.block, ad.off + 4, none⟩) hlt).trans k_4
          go_wp2_with fail
          exact ⟨rfl, _, rfl, grew_refl _, rfl⟩
        · intro vs y hg hd
          obtain ⟨h2, h5, h8, h11, h14, _⟩ := hd
          replace h2 := h2 rfl
          replace h5 := h5 rfl
          replace h8 := h8 rfl
          replace h11 := h11 rfl
          replace h14 := h14 rfl
          simp only [actOf, List.take_succ_cons, List.take_zero, List.drop_succ_cons, List.drop_zero, Act.put, List.setIfInBounds_toArray, List.set_cons_succ, List.set_cons_zero, Nat.reduceAdd]
          rw [show vs 2 = _ from h2, show vs 5 = _ from h5, show vs 8 = _ from h8, show vs 11 = _ from h11, show vs 14 = _ from h14]
          go_wp2_with fail
          exact ⟨rfl, _, rfl, grew_refl _, rfl⟩
        · intro vs y hg hd
          simp only [actOf, List.take_succ_cons, List.take_zero, List.drop_succ_cons, List.drop_zero, Act.put, List.setIfInBounds_toArray, List.set_cons_succ, List.set_cons_zero, Nat.reduceAdd]
          have zz := Ag.new y 23 #[.int .i64 0, .int .i64 0, .int .i64 0, .int .i64 0, .int .i64 0]
          go_wp2_with fail
          exact ⟨rfl, _, rfl, grew_alloc (grew_refl _) _, _, rfl, zz, hg.size⟩
      · intro vs w2 hg hJ
        have h15 : vs 15 = .agg #[.int .i64 a, .int .i64 b, .int .i64 c, .int .i64 d, .int .i64 e] := hJ 15 (by decide)
        obtain ⟨q, hv, zq, hq⟩ : ∃ q, vs 16 = .pointer (some ⟨q, 0, none⟩) ∧ Ag w2 q [.int .i64 0, .int .i64 0, .int .i64 0, .int .i64 0, .int .i64 0] ∧ w1.heap.size ≤ q := hJ 16 (by decide)
        simp only [actOf, List.take_succ_cons, List.take_zero, List.drop_succ_cons, List.drop_zero, Act.put, List.setIfInBounds_toArray, List.set_cons_succ, List.set_cons_zero, Nat.reduceAdd]
        rw [hv, h15]
        clear hJ hv h15
        have z2 := z1.grew hg
        have hwq : w.heap.size ≠ q := by have := z1.lt; omega
        have CK := Lib.hid (fun W => check_any ⟨a, b, c, d, e⟩ W)
        unfold Cm.v at CK
        dsimp only at CK
        refine wpList_store_mid rfl 23 (.tmp 8) (.tmp 53) rfl q 0 #[.int .i64 a, .int .i64 b, .int .i64 c, .int .i64 d, .int .i64 e] rfl rfl (zq.thereN 5 rfl) hi5 (by simp [Value.oneCell']) ?_
        have zq3 := Ag.set (vs := [.int .i64 a, .int .i64 b, .int .i64 c, .int .i64 d, .int .i64 e]) zq rfl
        have g3 := setCells_grew (o := 0) (b := q) [.int .i64 a, .int .i64 b, .int .i64 c, .int .i64 d, .int .i64 e] hg hq
        have cq0 := zq3.cell 0 _ rfl
        have cq1 := zq3.cell 1 _ rfl
        have cq2 := zq3.cell 2 _ rfl
        have cq3 := zq3.cell 3 _ rfl
        have cq4 := zq3.cell 4 _ rfl
        simp only [Nat.zero_add] at cq0 cq1 cq2 cq3 cq4
        go_wp2_with fail
        clear cq0 cq1 cq2 cq3 cq4
        have gq := grew_trans gg g3
        have zr3 : Ag _ w.heap.size [.int .i64 0, .int .i64 0, .int .i64 0, .int .i64 0, .int .i64 0] := z2.other (b' := q) (o := 0) (vs := [.int .i64 a, .int .i64 b, .int .i64 c, .int .i64 d, .int .i64 e]) hwq
        by_cases hok : okC ⟨a, b, c, d, e⟩
        · rw [chkC_ok hok] at CK
          have HR := Lib.hid (HR3.out hok)
          clear HR2 HR3
          refine (CK.out _).mono ?_
          rintro x w4 ⟨rfl, g4⟩
          have zq4 := zq3.grew g4
          have zr4 := zr3.grew g4
          have gq4 := grew_trans gq g4
          have cq0 := zq4.cell 0 _ rfl
          have cq1 := zq4.cell 1 _ rfl
          have cq2 := zq4.cell 2 _ rfl
          have cq3 := zq4.cell 3 _ rfl
          have cq4 := zq4.cell 4 _ rfl
          simp only [Nat.zero_add] at cq0 cq1 cq2 cq3 cq4
          go_wp2_with (first
            | (refine wpList_store_mid rfl 23 (.tmp 2) (.tmp 60) rfl w.heap.size 0 #[.int .i64 a, .int .i64 b, .int .i64 c, .int .i64 d, .int .i64 e] rfl rfl (zr4.thereN 5 rfl) hi5 (by simp [Value.oneCell']) ?_; have z5 := Ag.set (vs := [.int .i64 a, .int .i64 b, .int .i64 c, .int .i64 d, .int .i64 e]) zr4 rfl; have g5 := setCells_grew (o := 0) (b := w.heap.size) [.int .i64 a, .int .i64 b, .int .i64 c, .int .i64 d, .int .i64 e] gq4 (Nat.le_refl _)))
          rw [HR.out]
          have c0 := z5.cell 0 _ rfl
          have c1 := z5.cell 1 _ rfl
          have c2 := z5.cell 2 _ rfl
          have c3 := z5.cell 3 _ rfl
          have c4 := z5.cell 4 _ rfl
          simp only [Nat.zero_add] at c0 c1 c2 c3 c4
          exact bodyPost_ret (v := .tuple #[Cm.v ⟨a, b, c, d, e⟩, .int .i64 0]) (by simp [results, Tryd.f11, go_sem, c0, c1, c2, c3, c4]; try rfl) rfl ⟨rfl, g5⟩
        · rw [chkC_no hok] at CK
          have HR := Lib.hid (HR2.out hok)
          clear HR2 HR3
          refine (CK.out _).mono ?_
          rintro x w4 ⟨rfl, g4⟩
          have zr4 := zr3.grew g4
          have gq4 := grew_trans gq g4
          go_wp2_with (first
            | (refine wpList_store_mid rfl 23 (.tmp 2) (.tmp 58) rfl w.heap.size 0 #[.int .i64 0, .int .i64 0, .int .i64 0, .int .i64 0, .int .i64 0] rfl rfl (zr4.thereN 5 rfl) hi5 (by simp [Value.oneCell']) ?_; have z5 := Ag.set (vs := [.int .i64 0, .int .i64 0, .int .i64 0, .int .i64 0, .int .i64 0]) zr4 rfl; have g5 := setCells_grew (o := 0) (b := w.heap.size) [.int .i64 0, .int .i64 0, .int .i64 0, .int .i64 0, .int .i64 0] gq4 (Nat.le_refl _)))
          rw [HR.out]
          have c0 := z5.cell 0 _ rfl
          have c1 := z5.cell 1 _ rfl
          have c2 := z5.cell 2 _ rfl
          have c3 := z5.cell 3 _ rfl
          have c4 := z5.cell 4 _ rfl
          simp only [Nat.zero_add] at c0 c1 c2 c3 c4
          exact bodyPost_ret (v := .tuple #[Cm.zero.v, .int .i64 1]) (by simp [results, Tryd.f11, go_sem, c0, c1, c2, c3, c4]; try rfl) rfl ⟨rfl, g5⟩
theorem cparse_ok (s : ByteArray) (hs : s.size ≤ 1048576) (w : World) (hS : Std w) (hg8 : 2 < w.heap.size) :
    Calls Tryd.prog 11 #[.string s] w fun x w' => x = .returned (.tuple #[(parC s.data.toList).1.v, .int .i64 (parC s.data.toList).2]) ∧ Grew w w' := by
  obtain ⟨v, ev, hpn⟩ : ∃ v ev, pnums s.data.toList = (v, ev) := ⟨_, _, rfl⟩
  by_cases hev : ev = 0
  · subst hev
    by_cases hlen : v.length = 5
    · match v, hlen with
      | [a, b, c, d, e], _ => exact cparse_five s hs a b c d e hpn _ (parC_far hpn) (parC_arg hpn) (parC_five hpn) w hS hg8
    · rw [parC_len hpn hlen]
      exact cparse_len s hs v hpn hlen w hS hg8
  · rw [parC_bad hpn hev]
    exact cparse_bad s hs v ev hpn hev w hS hg8
end Go.Proofs.YtpgbfglfgcidaaaDoor

namespace Go.Proofs.YtpgbfglfgcidaaaDoor
set_option linter.unusedSimpArgs false
set_option linter.unusedVariables false
open Go.RowKit
set_option linter.unusedVariables false
set_option maxRecDepth 100000 in
set_option maxHeartbeats 1000000 in
theorem rparse_bad (s : ByteArray) (hs : s.size ≤ 1048576) (v : List Int) (ev : Int) (hpn : pnums s.data.toList = (v, ev)) (hev : ev ≠ 0) (w : World) :
    Calls Tryd.prog 19 #[.string s] w fun e w' => e = .returned (.tuple #[Cm.zero.v, .int .i64 ev]) ∧ Grew w w' := by
  have g0 := grew_alloc (grew_refl w) (.cells #[.int .i64 0, .int .i64 0, .int .i64 0, .int .i64 0, .int .i64 0] 26)
  have z0 := Ag.new w 26 #[.int .i64 0, .int .i64 0, .int .i64 0, .int .i64 0, .int .i64 0]
  have hi5 : (Tryd.prog.info? 26).map (·.size) = some 5 := by kernel_rfl
  have hb := alloc_size w (.cells #[.int .i64 0, .int .i64 0, .int .i64 0, .int .i64 0, .int .i64 0] 26)
  have CP := Lib.hid (rparseNums_ok s hs (w.alloc (.cells #[.int .i64 0, .int .i64 0, .int .i64 0, .int .i64 0, .int .i64 0] 26)))
  rw [hpn] at CP
  dsimp only at CP
  have hev' : (ev != 0) = true := by simpa using hev
  clear hpn
  go_enter Tryd.func19, Tryd.ntmps19
  go_wp2_with (first
    | (go_at_call 27; refine (CP.out).mono ?_; rintro e w1 ⟨⟨v1, rfl, o1⟩, g1⟩; have z1 := z0.grew g1; have gg := grew_trans g0 g1)
    | (refine wpList_store_mid rfl 26 (.tmp 2) (.tmp 14) rfl w.heap.size 0 #[.int .i64 0, .int .i64 0, .int .i64 0, .int .i64 0, .int .i64 0] rfl rfl (z1.thereN 5 rfl) hi5 (by simp [Value.oneCell']) ?_; have z2 := Ag.set (vs := [.int .i64 0, .int .i64 0, .int .i64 0, .int .i64 0, .int .i64 0]) z1 rfl; have g2 := setCells_grew (o := 0) (b := w.heap.size) [.int .i64 0, .int .i64 0, .int .i64 0, .int .i64 0, .int .i64 0] gg (Nat.le_refl _)))
  have c0 := z2.cell 0 _ rfl
  have c1 := z2.cell 1 _ rfl
  have c2 := z2.cell 2 _ rfl
  have c3 := z2.cell 3 _ rfl
  have c4 := z2.cell 4 _ rfl
  simp only [Nat.zero_add] at c0 c1 c2 c3 c4
  exact bodyPost_ret (v := .tuple #[Cm.zero.v, .int .i64 ev]) (by simp [results, Tryd.f19, go_sem, c0, c1, c2, c3, c4]; try rfl) rfl ⟨rfl, g2⟩
set_option maxRecDepth 100000 in
set_option maxHeartbeats 1000000 in
theorem rparse_len (s : ByteArray) (hs : s.size ≤ 1048576) (v : List Int) (hpn : pnums s.data.toList = (v, 0)) (hlen : v.length ≠ 5) (w : World) :
    Calls Tryd.prog 19 #[.string s] w fun e w' => e = .returned (.tuple #[Cm.zero.v, .int .i64 2]) ∧ Grew w w' := by
  have g0 := grew_alloc (grew_refl w) (.cells #[.int .i64 0, .int .i64 0, .int .i64 0, .int .i64 0, .int .i64 0] 26)
  have z0 := Ag.new w 26 #[.int .i64 0, .int .i64 0, .int .i64 0, .int .i64 0, .int .i64 0]
  have hi5 : (Tryd.prog.info? 26).map (·.size) = some 5 := by kernel_rfl
  have hb := alloc_size w (.cells #[.int .i64 0, .int .i64 0, .int .i64 0, .int .i64 0, .int .i64 0] 26)
  have CP := Lib.hid (rparseNums_ok s hs (w.alloc (.cells #[.int .i64 0, .int .i64 0, .int .i64 0, .int .i64 0, .int .i64 0] 26)))
  rw [hpn] at CP
  dsimp only at CP
  have hne : ((v.length : Int) != 5) = true := by simpa using (by omega : ¬ (v.length : Int) = 5)
  clear hpn hlen
  go_enter Tryd.func19, Tryd.ntmps19
  go_wp2_with (first
    | (go_at_call 27; refine (CP.out).mono ?_; rintro e w1 ⟨⟨v1, rfl, o1⟩, g1⟩; obtain ⟨A1, k1, rfl, _, _, r1⟩ := own_rd o1; have z1 := z0.grew g1; have gg := grew_trans g0 g1)
    | (refine wpList_store_mid rfl 26 (.tmp 2) (.tmp 47) rfl w.heap.size 0 #[.int .i64 0, .int .i64 0, .int .i64 0, .int .i64 0, .int .i64 0] rfl rfl (z1.thereN 5 rfl) hi5 (by simp [Value.oneCell']) ?_; have z2 := Ag.set (vs := [.int .i64 0, .int .i64 0, .int .i64 0, .int .i64 0, .int .i64 0]) z1 rfl; have g2 := setCells_grew (o := 0) (b := w.heap.size) [.int .i64 0, .int .i64 0, .int .i64 0, .int .i64 0, .int .i64 0] gg (Nat.le_refl _)))
  have c0 := z2.cell 0 _ rfl
  have c1 := z2.cell 1 _ rfl
  have c2 := z2.cell 2 _ rfl
  have c3 := z2.cell 3 _ rfl
  have c4 := z2.cell 4 _ rfl
  simp only [Nat.zero_add] at c0 c1 c2 c3 c4
  exact bodyPost_ret (v := .tuple #[Cm.zero.v, .int .i64 2]) (by simp [results, Tryd.f19, go_sem, c0, c1, c2, c3, c4]; try rfl) rfl ⟨rfl, g2⟩
set_option maxRecDepth 100000 in
set_option maxHeartbeats 4000000 in
theorem rparse_five (s : ByteArray) (hs : s.size ≤ 1048576) (a b c d e : Int) (hpn : pnums s.data.toList = ([a, b, c, d, e], 0)) (R : Cm × Int) (hR1 : ¬ (smallC a ∧ smallC b ∧ smallC c ∧ smallC d) → R = (Cm.zero, 2)) (hR2 : (smallC a ∧ smallC b ∧ smallC c ∧ smallC d) → ¬ okC ⟨a, b, c, d, e⟩ → R = (Cm.zero, 1)) (hR3 : (smallC a ∧ smallC b ∧ smallC c ∧ smallC d) → okC ⟨a, b, c, d, e⟩ → R = (⟨a, b, c, d, e⟩, 0)) (w : World) :
    Calls Tryd.prog 19 #[.string s] w fun x w' => x = .returned (.tuple #[R.1.v, .int .i64 R.2]) ∧ Grew w w' := by
  have g0 := grew_alloc (grew_refl w) (.cells #[.int .i64 0, .int .i64 0, .int .i64 0, .int .i64 0, .int .i64 0] 26)
  have z0 := Ag.new w 26 #[.int .i64 0, .int .i64 0, .int .i64 0, .int .i64 0, .int .i64 0]
  have hi5 : (Tryd.prog.info? 26).map (·.size) = some 5 := by kernel_rfl
  have hb := alloc_size w (.cells #[.int .i64 0, .int .i64 0, .int .i64 0, .int .i64 0, .int .i64 0] 26)
  have CP := Lib.hid (rparseNums_ok s hs (w.alloc (.cells #[.int .i64 0, .int .i64 0, .int .i64 0, .int .i64 0, .int .i64 0] 26)))
  rw [hpn] at CP
  dsimp only at CP
  have HR1 := Lib.hid hR1
  have HR2 := Lib.hid hR2
  have HR3 := Lib.hid hR3
  have S := Lib.hid (fun n W => small_is n (decide (smallC n)) rfl W)
  clear hpn hR1 hR2 hR3
  go_enter Tryd.func19, Tryd.ntmps19
  go_wp2_with fail
  refine (CP.out).mono ?_
  rintro e w1 ⟨⟨v1, rfl, o1⟩, g1⟩
  obtain ⟨A1, k1, rfl, hlk, _, r1⟩ := own_rd o1
  obtain ⟨ad, rfl, hlt, k_0⟩ := rd_i64 r1 0 (by simp)
  have hk5 : 5 ≤ k1 := hlk
  have hk4 : (4 : Int) ≤ (k1 : Int) := by omega
  have z1 := z0.grew g1
  have gg := grew_trans g0 g1
  have kk : ∀ (j : Nat) (hj : j < 5), w1.cell? (ad.add j) = some (.int .i64 ([a, b, c, d, e][j]'hj)) := fun j hj => by obtain ⟨ad', e1, _, h⟩ := rd_i64 r1 j hj; injection e1 with e1; subst e1; exact h
  have k_1 : w1.cell? ⟨ad.block, ad.off + 1, none⟩ = some (.int .i64 b) := by
    have h : w1.cell? (ad.add 1) = some (.int .i64 b) := kk 1 (by decide)
    simpa [Addr.add] using h
  have k_2 : w1.cell? ⟨ad.block, ad.off + 2, none⟩ = some (.int .i64 c) := by
    have h : w1.cell? (ad.add 2) = some (.int .i64 c) := kk 2 (by decide)
    simpa [Addr.add] using h
  have k_3 : w1.cell? ⟨ad.block, ad.off + 3, none⟩ = some (.int .i64 d) := by
    have h : w1.cell? (ad.add 3) = some (.int .i64 d) := kk 3 (by decide)
    simpa [Addr.add] using h
  have k_4 : w1.cell? ⟨ad.block, ad.off + 4, none⟩ = some (.int .i64 e) := by
    have h : w1.cell? (ad.add 4) = some (.int .i64 e) := kk 4 (by decide)
    simpa [Addr.add] using h
  have k_0 : w1.cell? ad = some (.int .i64 a) := by simpa [Addr.add] using k_0
  clear kk r1 o1
  by_cases s0 : ¬ smallC a
  · have d0 : decide (smallC a) = false := decide_eq_false s0
    have HR := Lib.hid (HR1.out (fun h => s0 h.1))
    clear HR1 HR2 HR3 s0
    go_wp2_with (first
      | (go_at_call 28; refine (S.out _ _).mono ?_; rintro e w' ⟨rfl, hw⟩; have hw := hw.symm; subst hw)
      | (refine wpList_store_mid rfl 26 (.tmp 2) (.tmp 47) rfl w.heap.size 0 #[.int .i64 0, .int .i64 0, .int .i64 0, .int .i64 0, .int .i64 0] rfl rfl (z1.thereN 5 rfl) hi5 (by simp [Value.oneCell']) ?_; have z2 := Ag.set (vs := [.int .i64 0, .int .i64 0, .int .i64 0, .int .i64 0, .int .i64 0]) z1 rfl; have g2 := setCells_grew (o := 0) (b := w.heap.size) [.int .i64 0, .int .i64 0, .int .i64 0, .int .i64 0, .int .i64 0] gg (Nat.le_refl _)))
    rw [HR.out]
    have c0 := z2.cell 0 _ rfl
    have c1 := z2.cell 1 _ rfl
    have c2 := z2.cell 2 _ rfl
    have c3 := z2.cell 3 _ rfl
    have c4 := z2.cell 4 _ rfl
    simp only [Nat.zero_add] at c0 c1 c2 c3 c4
    exact bodyPost_ret (v := .tuple #[Cm.zero.v, .int .i64 2]) (by simp [results, Tryd.f19, go_sem, c0, c1, c2, c3, c4]; try rfl) rfl ⟨rfl, g2⟩
  · have d0 : decide (smallC a) = true := decide_eq_true (Classical.not_not.1 s0)
    by_cases s1 : ¬ smallC b
    · have d1 : decide (smallC b) = false := decide_eq_false s1
      have HR := Lib.hid (HR1.out (fun h => s1 h.2.1))
      clear HR1 HR2 HR3 s1
      go_wp2_with (first
        | (go_at_call 28; refine (S.out _ _).mono ?_; rintro e w' ⟨rfl, hw⟩; have hw := hw.symm; subst hw)
        | (refine wpList_store_mid rfl 26 (.tmp 2) (.tmp 47) rfl w.heap.size 0 #[.int .i64 0, .int .i64 0, .int .i64 0, .int .i64 0, .int .i64 0] rfl rfl (z1.thereN 5 rfl) hi5 (by simp [Value.oneCell']) ?_; have z2 := Ag.set (vs := [.int .i64 0, .int .i64 0, .int .i64 0, .int .i64 0, .int .i64 0]) z1 rfl; have g2 := setCells_grew (o := 0) (b := w.heap.size) [.int .i64 0, .int .i64 0, .int .i64 0, .int .i64 0, .int .i64 0] gg (Nat.le_refl _)))
      rw [HR.out]
      have c0 := z2.cell 0 _ rfl
      have c1 := z2.cell 1 _ rfl
      have c2 := z2.cell 2 _ rfl
      have c3 := z2.cell 3 _ rfl
      have c4 := z2.cell 4 _ rfl
      simp only [Nat.zero_add] at c0 c1 c2 c3 c4
      exact bodyPost_ret (v := .tuple #[Cm.zero.v, .int .i64 2]) (by simp [results, Tryd.f19, go_sem, c0, c1, c2, c3, c4]; try rfl) rfl ⟨rfl, g2⟩
    · have d1 : decide (smallC b) = true := decide_eq_true (Classical.not_not.1 s1)
      by_cases s2 : ¬ smallC c
      · have d2 : decide (smallC c) = false := decide_eq_false s2
        have HR := Lib.hid (HR1.out (fun h => s2 h.2.2.1))
        clear HR1 HR2 HR3 s2
        go_wp2_with (first
          | (go_at_call 28; refine (S.out _ _).mono ?_; rintro e w' ⟨rfl, hw⟩; have hw := hw.symm; subst hw)
          | (refine wpList_store_mid rfl 26 (.tmp 2) (.tmp 47) rfl w.heap.size 0 #[.int .i64 0, .int .i64 0, .int .i64 0, .int .i64 0, .int .i64 0] rfl rfl (z1.thereN 5 rfl) hi5 (by simp [Value.oneCell']) ?_; have z2 := Ag.set (vs := [.int .i64 0, .int .i64 0, .int .i64 0, .int .i64 0, .int .i64 0]) z1 rfl; have g2 := setCells_grew (o := 0) (b := w.heap.size) [.int .i64 0, .int .i64 0, .int .i64 0, .int .i64 0, .int .i64 0] gg (Nat.le_refl _)))
        rw [HR.out]
        have c0 := z2.cell 0 _ rfl
        have c1 := z2.cell 1 _ rfl
        have c2 := z2.cell 2 _ rfl
        have c3 := z2.cell 3 _ rfl
        have c4 := z2.cell 4 _ rfl
        simp only [Nat.zero_add] at c0 c1 c2 c3 c4
        exact bodyPost_ret (v := .tuple #[Cm.zero.v, .int .i64 2]) (by simp [results, Tryd.f19, go_sem, c0, c1, c2, c3, c4]; try rfl) rfl ⟨rfl, g2⟩
      · have d2 : decide (smallC c) = true := decide_eq_true (Classical.not_not.1 s2)
        by_cases s3 : ¬ smallC d
        · have d3 : decide (smallC d) = false := decide_eq_false s3
          have HR := Lib.hid (HR1.out (fun h => s3 h.2.2.2))
          clear HR1 HR2 HR3 s3
          go_wp2_with (first
            | (go_at_call 28; refine (S.out _ _).mono ?_; rintro e w' ⟨rfl, hw⟩; have hw := hw.symm; subst hw)
            | (refine wpList_store_mid rfl 26 (.tmp 2) (.tmp 47) rfl w.heap.size 0 #[.int .i64 0, .int .i64 0, .int .i64 0, .int .i64 0, .int .i64 0] rfl rfl (z1.thereN 5 rfl) hi5 (by simp [Value.oneCell']) ?_; have z2 := Ag.set (vs := [.int .i64 0, .int .i64 0, .int .i64 0, .int .i64 0, .int .i64 0]) z1 rfl; have g2 := setCells_grew (o := 0) (b := w.heap.size) [.int .i64 0, .int .i64 0, .int .i64 0, .int .i64 0, .int .i64 0] gg (Nat.le_refl _)))
          rw [HR.out]
          have c0 := z2.cell 0 _ rfl
          have c1 := z2.cell 1 _ rfl
          have c2 := z2.cell 2 _ rfl
          have c3 := z2.cell 3 _ rfl
          have c4 := z2.cell 4 _ rfl
          simp only [Nat.zero_add] at c0 c1 c2 c3 c4
          exact bodyPost_ret (v := .tuple #[Cm.zero.v, .int .i64 2]) (by simp [results, Tryd.f19, go_sem, c0, c1, c2, c3, c4]; try rfl) rfl ⟨rfl, g2⟩
        · have d3 : decide (smallC d) = true := decide_eq_true (Classical.not_not.1 s3)
          have hall : smallC a ∧ smallC b ∧ smallC c ∧ smallC d := ⟨Classical.not_not.1 s0, Classical.not_not.1 s1, Classical.not_not.1 s2, Classical.not_not.1 s3⟩
          have HR2 := Lib.hid (HR2.out hall)
          have HR3 := Lib.hid (HR3.out hall)
          clear hall HR1 s0 s1 s2 s3
          go_wp2_with (go_at_call 28; refine (S.out _ _).mono ?_; rintro e w' ⟨rfl, hw⟩; have hw := hw.symm; subst hw)
          clear d0 d1 d2 d3
          refine wp_region_rel 17 (fun i => match i with
              | 0 => fun v _ => v = .slice (some ad) 5 k1
              | 1 => fun v _ => v = .pointer (some ad)
              | 2 => fun v _ => v = .int .i64 a
              | 3 => fun v _ => v = .slice (some ad) 5 k1
              | 4 => fun v _ => v = .pointer (some ⟨ad.block, ad.off + 1, none⟩)
              | 5 => fun v _ => v = .int .i64 b
              | 6 => fun v _ => v = .slice (some ad) 5 k1
              | 7 => fun v _ => v = .pointer (some ⟨ad.block, ad.off + 2, none⟩)
              | 8 => fun v _ => v = .int .i64 c
              | 9 => fun v _ => v = .slice (some ad) 5 k1
              | 10 => fun v _ => v = .pointer (some ⟨ad.block, ad.off + 3, none⟩)
              | 11 => fun v _ => v = .int .i64 d
              | 12 => fun v _ => v = .slice (some ad) 5 k1
              | 13 => fun v _ => v = .pointer (some ⟨ad.block, ad.off + 4, none⟩)
              | 14 => fun v _ => v = .int .i64 e
              | 15 => fun v _ => v = .agg #[.int .i64 a, .int .i64 b, .int .i64 c, .int .i64 d, .int .i64 e]
              | 16 => fun v w => ∃ q, v = .pointer (some ⟨q, 0, none⟩) ∧ Ag w q [.int .i64 0, .int .i64 0, .int .i64 0, .int .i64 0, .int .i64 0] ∧ w1.heap.size ≤ q
              | _ => fun _ _ => True) (by kernel_rfl) (by kernel_rfl) ?_ ?_ ?_
          · intro i v x y h hg
            match i, h with
            | 0, h | 1, h | 2, h | 3, h | 4, h | 5, h | 6, h | 7, h | 8, h | 9, h | 10, h | 11, h | 12, h | 13, h | 14, h | 15, h => exact h
            | 16, ⟨q, h1, h2, h3⟩ => exact ⟨q, h1, h2.grew hg, h3⟩
            | n + 17, _ => trivial
          · refine ⟨?_, ?_, ?_, ?_, ?_, ?_, ?_, ?_, ?_, ?_, ?_, ?_, ?_, ?_, ?_, ?_, ?_, trivial⟩
            · intro vs y hg hd
              simp only [actOf, List.take_succ_cons, List.take_zero, List.drop_succ_cons, List.drop_zero, Act.put, List.setIfInBounds_toArray, List.set_cons_succ, List.set_cons_zero, Nat.reduceAdd]
              go_wp2_with fail
              exact ⟨rfl, _, rfl, grew_refl _, rfl⟩
            · intro vs y hg hd
              obtain ⟨h0, _⟩ := hd
              replace h0 := h0 rfl
              simp only [actOf, List.take_succ_cons, List.take_zero, List.drop_succ_cons, List.drop_zero, Act.put, List.setIfInBounds_toArray, List.set_cons_succ, List.set_cons_zero, Nat.reduceAdd]
              rw [show vs 0 = _ from h0]
              go_wp2_with fail
              exact ⟨rfl, _, rfl, grew_refl _, rfl⟩
            · intro vs y hg hd
              obtain ⟨h1, _⟩ := hd
              replace h1 := h1 rfl
              simp only [actOf, List.take_succ_cons, List.take_zero, List.drop_succ_cons, List.drop_zero, Act.put, List.setIfInBounds_toArray, List.set_cons_succ, List.set_cons_zero, Nat.reduceAdd]
              rw [show vs 1 = _ from h1]
              have hc := (hg.cell (p := ad) hlt).trans k_0
              go_wp2_with fail
              exact ⟨rfl, _, rfl, grew_refl _, rfl⟩
            · intro vs y hg hd
              simp only [actOf, List.take_succ_cons, List.take_zero, List.drop_succ_cons, List.drop_zero, Act.put, List.setIfInBounds_toArray, List.set_cons_succ, List.set_cons_zero, Nat.reduceAdd]
              go_wp2_with fail
              exact ⟨rfl, _, rfl, grew_refl _, rfl⟩
            · intro vs y hg hd
              obtain ⟨h3, _⟩ := hd
              replace h3 := h3 rfl
              simp only [actOf, List.take_succ_cons, List.take_zero, List.drop_succ_cons, List.drop_zero, Act.put, List.setIfInBounds_toArray, List.set_cons_succ, List.set_cons_zero, Nat.reduceAdd]
              rw [show vs 3 = _ from h3]
              go_wp2_with fail
              exact ⟨rfl, _, rfl, grew_refl _, rfl⟩
            · intro vs y hg hd
              obtain ⟨h4, _⟩ := hd
              replace h4 := h4 rfl
              simp only [actOf, List.take_succ_cons, List.take_zero, List.drop_succ_cons, List.drop_zero, Act.put, List.setIfInBounds_toArray, List.set_cons_succ, List.set_cons_zero, Nat.reduceAdd]
              rw [show vs 4 = _ from h4]
              have hc := (hg.cell (p := ⟨ad.block, ad.off + 1, none⟩) hlt).trans k_1
              go_wp2_with fail
              exact ⟨rfl, _, rfl, grew_refl _, rfl⟩
            · intro vs y hg hd
              simp only [actOf, List.take_succ_cons, List.take_zero, List.drop_succ_cons, List.drop_zero, Act.put, List.setIfInBounds_toArray, List.set_cons_succ, List.set_cons_zero, Nat.reduceAdd]
              go_wp2_with fail
              exact ⟨rfl, _, rfl, grew_refl _, rfl⟩
            · intro vs y hg hd
              obtain ⟨h6, _⟩ := hd
              replace h6 := h6 rfl
              simp only [actOf, List.take_succ_cons, List.take_zero, List.drop_succ_cons, List.drop_zero, Act.put, List.setIfInBounds_toArray, List.set_cons_succ, List.set_cons_zero, Nat.reduceAdd]
              rw [show vs 6 = _ from h6]
              go_wp2_with fail
              exact ⟨rfl, _, rfl, grew_refl _, rfl⟩
            · intro vs y hg hd
              obtain ⟨h7, _⟩ := hd
              replace h7 := h7 rfl
              simp only [actOf, List.take_succ_cons, List.take_zero, List.drop_succ_cons, List.drop_zero, Act.put, List.setIfInBounds_toArray, List.set_cons_succ, List.set_cons_zero, Nat.reduceAdd]
              rw [show vs 7 = _ from h7]
              have hc := (hg.cell (p := ⟨ad.block, ad.off + 2, none⟩) hlt).trans k_2
              go_wp2_with fail
              exact ⟨rfl, _, rfl, grew_refl _, rfl⟩
            · intro vs y hg hd
              simp only [actOf, List.take_succ_cons, List.take_zero, List.drop_succ_cons, List.drop_zero, Act.put, List.setIfInBounds_toArray, List.set_cons_succ, List.set_cons_zero, Nat.reduceAdd]
              go_wp2_with fail
              exact ⟨rfl, _, rfl, grew_refl _, rfl⟩
            · intro vs y hg hd
              obtain ⟨h9, _⟩ := hd
              replace h9 := h9 rfl
              simp only [actOf, List.take_succ_cons, List.take_zero, List.drop_succ_cons, List.drop_zero, Act.put, List.setIfInBounds_toArray, List.set_cons_succ, List.set_cons_zero, Nat.reduceAdd]
              rw [show vs 9 = _ from h9]
              go_wp2_with fail
              exact ⟨rfl, _, rfl, grew_refl _, rfl⟩
            · intro vs y hg hd
              obtain ⟨h10, _⟩ := hd
              replace h10 := h10 rfl
              simp only [actOf, List.take_succ_cons, List.take_zero, List.drop_succ_cons, List.drop_zero, Act.put, List.setIfInBounds_toArray, List.set_cons_succ, List.set_cons_zero, Nat.reduceAdd]
              rw [show vs 10 = _ from h10]
              have hc := (hg.cell (p := ⟨ad.block, ad.off + 3, none⟩) hlt).trans k_3
              go_wp2_with fail
              exact ⟨rfl, _, rfl, grew_refl _, rfl⟩
            · intro vs y hg hd
              simp only [actOf, List.take_succ_cons, List.take_zero, List.drop_succ_cons, List.drop_zero, Act.put, List.setIfInBounds_toArray, List.set_cons_succ, List.set_cons_zero, Nat.reduceAdd]
              go_wp2_with fail
              exact ⟨rfl, _, rfl, grew_refl _, rfl⟩
            · intro vs y hg hd
              obtain ⟨h12, _⟩ := hd
              replace h12 := h12 rfl
              simp only [actOf, List.take_succ_cons, List.take_zero, List.drop_succ_cons, List.drop_zero, Act.put, List.setIfInBounds_toArray, List.set_cons_succ, List.set_cons_zero, Nat.reduceAdd]
              rw [show vs 12 = _ from h12]
              go_wp2_with fail
              exact ⟨rfl, _, rfl, grew_refl _, rfl⟩
            · intro vs y hg hd
              obtain ⟨h13, _⟩ := hd
              replace h13 := h13 rfl
              simp only [actOf, List.take_succ_cons, List.take_zero, List.drop_succ_cons, List.drop_zero, Act.put, List.setIfInBounds_toArray, List.set_cons_succ, List.set_cons_zero, Nat.reduceAdd]
              rw [show vs 13 = _ from h13]
              have hc := (hg.cell (p := ⟨ad.block, ad.off + 4, none⟩) hlt).trans k_4
              go_wp2_with fail
              exact ⟨rfl, _, rfl, grew_refl _, rfl⟩
            · intro vs y hg hd
              obtain ⟨h2, h5, h8, h11, h14, _⟩ := hd
              replace h2 := h2 rfl
              replace h5 := h5 rfl
              replace h8 := h8 rfl
              replace h11 := h11 rfl
              replace h14 := h14 rfl
              simp only [actOf, List.take_succ_cons, List.take_zero, List.drop_succ_cons, List.drop_zero, Act.put, List.setIfInBounds_toArray, List.set_cons_succ, List.set_cons_zero, Nat.reduceAdd]
              rw [show vs 2 = _ from h2, show vs 5 = _ from h5, show vs 8 = _ from h8, show vs 11 = _ from h11, show vs 14 = _ from h14]
              go_wp2_with fail
              exact ⟨rfl, _, rfl, grew_refl _, rfl⟩
            · intro vs y hg hd
              simp only [actOf, List.take_succ_cons, List.take_zero, List.drop_succ_cons, List.drop_zero, Act.put, List.setIfInBounds_toArray, List.set_cons_succ, List.set_cons_zero, Nat.reduceAdd]
              have zz := Ag.new y 26 #[.int .i64 0, .int .i64 0, .int .i64 0, .int .i64 0, .int .i64 0]
              go_wp2_with fail
              exact ⟨rfl, _, rfl, grew_alloc (grew_refl _) _, _, rfl, zz, hg.size⟩
          · intro vs w2 hg hJ
            have h15 : vs 15 = .agg #[.int .i64 a, .int .i64 b, .int .i64 c, .int .i64 d, .int .i64 e] := hJ 15 (by decide)
            obtain ⟨q, hv, zq, hq⟩ : ∃ q, vs 16 = .pointer (some ⟨q, 0, none⟩) ∧ Ag w2 q [.int .i64 0, .int .i64 0, .int .i64 0, .int .i64 0, .int .i64 0] ∧ w1.heap.size ≤ q := hJ 16 (by decide)
            simp only [actOf, List.take_succ_cons, List.take_zero, List.drop_succ_cons, List.drop_zero, Act.put, List.setIfInBounds_toArray, List.set_cons_succ, List.set_cons_zero, Nat.reduceAdd]
            rw [hv, h15]
            clear hJ hv h15
            have z2 := z1.grew hg
            have hwq : w.heap.size ≠ q := by have := z1.lt; omega
            have CK := Lib.hid (fun W => rcheck_any ⟨a, b, c, d, e⟩ W)
            unfold Cm.v at CK
            dsimp only at CK
            refine wpList_store_mid rfl 26 (.tmp 6) (.tmp 63) rfl q 0 #[.int .i64 a, .int .i64 b, .int .i64 c, .int .i64 d, .int .i64 e] rfl rfl (zq.thereN 5 rfl) hi5 (by simp [Value.oneCell']) ?_
            have zq3 := Ag.set (vs := [.int .i64 a, .int .i64 b, .int .i64 c, .int .i64 d, .int .i64 e]) zq rfl
            have g3 := setCells_grew (o := 0) (b := q) [.int .i64 a, .int .i64 b, .int .i64 c, .int .i64 d, .int .i64 e] hg hq
            have cq0 := zq3.cell 0 _ rfl
            have cq1 := zq3.cell 1 _ rfl
            have cq2 := zq3.cell 2 _ rfl
            have cq3 := zq3.cell 3 _ rfl
            have cq4 := zq3.cell 4 _ rfl
            simp only [Nat.zero_add] at cq0 cq1 cq2 cq3 cq4
            go_wp2_with fail
            clear cq0 cq1 cq2 cq3 cq4
            have gq := grew_trans gg g3
            have zr3 : Ag _ w.heap.size [.int .i64 0, .int .i64 0, .int .i64 0, .int .i64 0, .int .i64 0] := z2.other (b' := q) (o := 0) (vs := [.int .i64 a, .int .i64 b, .int .i64 c, .int .i64 d, .int .i64 e]) hwq
            by_cases hok : okC ⟨a, b, c, d, e⟩
            · rw [chkC_ok hok] at CK
              have HR := Lib.hid (HR3.out hok)
              clear HR2 HR3
              refine (CK.out _).mono ?_
              rintro x w4 ⟨rfl, g4⟩
              have zq4 := zq3.grew g4
              have zr4 := zr3.grew g4
              have gq4 := grew_trans gq g4
              have cq0 := zq4.cell 0 _ rfl
              have cq1 := zq4.cell 1 _ rfl
              have cq2 := zq4.cell 2 _ rfl
              have cq3 := zq4.cell 3 _ rfl
              have cq4 := zq4.cell 4 _ rfl
              simp only [Nat.zero_add] at cq0 cq1 cq2 cq3 cq4
              go_wp2_with (first
                | (refine wpList_store_mid rfl 26 (.tmp 2) (.tmp 70) rfl w.heap.size 0 #[.int .i64 a, .int .i64 b, .int .i64 c, .int .i64 d, .int .i64 e] rfl rfl (zr4.thereN 5 rfl) hi5 (by simp [Value.oneCell']) ?_; have z5 := Ag.set (vs := [.int .i64 a, .int .i64 b, .int .i64 c, .int .i64 d, .int .i64 e]) zr4 rfl; have g5 := setCells_grew (o := 0) (b := w.heap.size) [.int .i64 a, .int .i64 b, .int .i64 c, .int .i64 d, .int .i64 e] gq4 (Nat.le_refl _)))
              rw [HR.out]
              have c0 := z5.cell 0 _ rfl
              have c1 := z5.cell 1 _ rfl
              have c2 := z5.cell 2 _ rfl
              have c3 := z5.cell 3 _ rfl
              have c4 := z5.cell 4 _ rfl
              simp only [Nat.zero_add] at c0 c1 c2 c3 c4
              exact bodyPost_ret (v := .tuple #[Cm.v ⟨a, b, c, d, e⟩, .int .i64 0]) (by simp [results, Tryd.f19, go_sem, c0, c1, c2, c3, c4]; try rfl) rfl ⟨rfl, g5⟩
            · rw [chkC_no hok] at CK
              have HR := Lib.hid (HR2.out hok)
              clear HR2 HR3
              refine (CK.out _).mono ?_
              rintro x w4 ⟨rfl, g4⟩
              have zr4 := zr3.grew g4
              have gq4 := grew_trans gq g4
              go_wp2_with (first
                | (refine wpList_store_mid rfl 26 (.tmp 2) (.tmp 68) rfl w.heap.size 0 #[.int .i64 0, .int .i64 0, .int .i64 0, .int .i64 0, .int .i64 0] rfl rfl (zr4.thereN 5 rfl) hi5 (by simp [Value.oneCell']) ?_; have z5 := Ag.set (vs := [.int .i64 0, .int .i64 0, .int .i64 0, .int .i64 0, .int .i64 0]) zr4 rfl; have g5 := setCells_grew (o := 0) (b := w.heap.size) [.int .i64 0, .int .i64 0, .int .i64 0, .int .i64 0, .int .i64 0] gq4 (Nat.le_refl _)))
              rw [HR.out]
              have c0 := z5.cell 0 _ rfl
              have c1 := z5.cell 1 _ rfl
              have c2 := z5.cell 2 _ rfl
              have c3 := z5.cell 3 _ rfl
              have c4 := z5.cell 4 _ rfl
              simp only [Nat.zero_add] at c0 c1 c2 c3 c4
              exact bodyPost_ret (v := .tuple #[Cm.zero.v, .int .i64 1]) (by simp [results, Tryd.f19, go_sem, c0, c1, c2, c3, c4]; try rfl) rfl ⟨rfl, g5⟩
theorem rcparse_ok (s : ByteArray) (hs : s.size ≤ 1048576) (w : World) :
    Calls Tryd.prog 19 #[.string s] w fun x w' => x = .returned (.tuple #[(parC s.data.toList).1.v, .int .i64 (parC s.data.toList).2]) ∧ Grew w w' := by
  obtain ⟨v, ev, hpn⟩ : ∃ v ev, pnums s.data.toList = (v, ev) := ⟨_, _, rfl⟩
  by_cases hev : ev = 0
  · subst hev
    by_cases hlen : v.length = 5
    · match v, hlen with
      | [a, b, c, d, e], _ => exact rparse_five s hs a b c d e hpn _ (parC_far hpn) (parC_arg hpn) (parC_five hpn) w
    · rw [parC_len hpn hlen]
      exact rparse_len s hs v hpn hlen w
  · rw [parC_bad hpn hev]
    exact rparse_bad s hs v ev hpn hev w
end Go.Proofs.YtpgbfglfgcidaaaDoor

namespace Go.Proofs.YtpgbfglfgcidaaaDoor
set_option linter.unusedSimpArgs false
set_option linter.unusedVariables false
open Go.RowKit
set_option linter.unusedVariables false
theorem eq_step {P : Program} {W : World} {d : Nat} {xs ys : Array Value} {f : Field} {fs : List Field} {a b : Int} {k : IntKind} (hn : (f.name ≠ "_") = True) (ha : (part f.type xs f.offset).run P W = .ok (.int k a) W) (hb : (part f.type ys f.offset).run P W = .ok (.int k b) W) (hu : P.underlying f.type = some (.int k)) :
    (Op.eqFields (d + 1) xs ys (f :: fs)).run P W = if a = b then (Op.eqFields (d + 1) xs ys fs).run P W else .ok false W := by
  rw [Op.eqFields, if_pos (of_eq_true hn)]
  simp only [Sem.run_bind, ha, hb, Result.andThen_ok, run_equalIn_int W d f.type k k a b hu]
  by_cases h : a = b
  · subst h; simp
  · have h' : (a == b) = false := by simpa using h
    simp [h', h]
set_option maxRecDepth 100000 in
theorem cm_eq (a b : Cm) (W : World) : (Op.equalIn 10000 23 a.v b.v).run Tryd.prog W = .ok (decide (a = b)) W := by
  obtain ⟨a0, a1, a2, a3, a4⟩ := a
  obtain ⟨b0, b1, b2, b3, b4⟩ := b
  unfold Cm.v
  rw [run_equalIn_struct W 9999 23 _ _ (by kernel_rfl) (by kernel_rfl)]
  simp only [Program.fieldsOf, Tryd.underlying23]
  rw [eq_step (k := .i64) (a := a0) (b := b0) (by simp) (by kernel_rfl) (by kernel_rfl) (by kernel_rfl), eq_step (k := .i64) (a := a1) (b := b1) (by simp) (by kernel_rfl) (by kernel_rfl) (by kernel_rfl), eq_step (k := .i64) (a := a2) (b := b2) (by simp) (by kernel_rfl) (by kernel_rfl) (by kernel_rfl), eq_step (k := .i64) (a := a3) (b := b3) (by simp) (by kernel_rfl) (by kernel_rfl) (by kernel_rfl), eq_step (k := .i64) (a := a4) (b := b4) (by simp) (by kernel_rfl) (by kernel_rfl) (by kernel_rfl)]
  simp only [Op.eqFields, Sem.run_pure, Cm.mk.injEq]
  by_cases h0 : a0 = b0 <;> by_cases h1 : a1 = b1 <;> by_cases h2 : a2 = b2 <;> by_cases h3 : a3 = b3 <;> by_cases h4 : a4 = b4 <;> simp [h0, h1, h2, h3, h4]
set_option maxRecDepth 100000 in
theorem cof_ok (c : Cm) (w : World) : Calls Tryd.prog 10 #[c.v] w fun e w' => e = .returned c.v ∧ Grew w w' := by
  obtain ⟨a, b, c, d, e⟩ := c
  have z0 := Ag.new (w.alloc (.cells #[.int .i64 a, .int .i64 b, .int .i64 c, .int .i64 d, .int .i64 e] 23)) 26 #[.int .i64 0, .int .i64 0, .int .i64 0, .int .i64 0, .int .i64 0]
  have g0 := grew_alloc (grew_alloc (grew_refl w) (.cells #[.int .i64 a, .int .i64 b, .int .i64 c, .int .i64 d, .int .i64 e] 23)) (.cells #[.int .i64 0, .int .i64 0, .int .i64 0, .int .i64 0, .int .i64 0] 26)
  have hi5 : (Tryd.prog.info? 26).map (·.size) = some 5 := by kernel_rfl
  rw [alloc_size] at z0
  unfold Cm.v
  go_enter Tryd.func10, Tryd.ntmps10
  go_wp2_with (refine wpList_store_mid rfl 26 (.tmp 2) (.tmp 13) rfl (w.heap.size + 1) 0 #[.int .i64 a, .int .i64 b, .int .i64 c, .int .i64 d, .int .i64 e] rfl rfl (z0.thereN 5 rfl) hi5 (by simp [Value.oneCell']) ?_; have z1 := Ag.set (vs := [.int .i64 a, .int .i64 b, .int .i64 c, .int .i64 d, .int .i64 e]) z0 rfl; have g1 := setCells_grew (o := 0) (b := w.heap.size + 1) [.int .i64 a, .int .i64 b, .int .i64 c, .int .i64 d, .int .i64 e] g0 (by omega))
  have c0 := z1.cell 0 _ rfl
  have c1 := z1.cell 1 _ rfl
  have c2 := z1.cell 2 _ rfl
  have c3 := z1.cell 3 _ rfl
  have c4 := z1.cell 4 _ rfl
  simp only [Nat.zero_add] at c0 c1 c2 c3 c4
  exact bodyPost_ret (v := Cm.v ⟨a, b, c, d, e⟩) (by simp [results, Tryd.f10, go_sem, c0, c1, c2, c3, c4]; try rfl) rfl ⟨rfl, g1⟩
/-- a struct is loaded, in a quiet walk of worlds that grow -/
theorem quiet_load_ag {P : Program} {w0 : World} {a : Act} {o : Oper} {K : Act → Prop} (ty : TypeId) (x : Operand) (h : o.op = .load ty x) (b : Nat) (hx : a.eval x = .pointer (some ⟨b, 0, none⟩)) (cs : List Value) (d : TypeDesc)
    (hg : ∀ y : Gr w0, Ag y.val b cs) (hu : P.underlying ty = some d) (hd : d.isRow = true) (hi : (P.info? ty).map (·.size) = some cs.length)
    (hk : K (a.put o.dst (.agg cs.toArray))) : o.quiet P a (fun w' => ∃ x : Gr w0, w' = x.val) K := by
  refine ⟨_, fun w hw => ?_, hk⟩
  obtain ⟨y, rfl⟩ := hw
  unfold Oper.quietAt execOp
  simp only [h, hx, Instr.loadAt, Instr.sureAddr, Sem.run_bind, Sem.run_pure, Result.andThen_ok, run_loadVar_mid y.val b 0 ty cs d (hg y).cell hu hd hi]
  exact ⟨rfl, rfl⟩
end Go.Proofs.YtpgbfglfgcidaaaDoor

namespace Go.Proofs.YtpgbfglfgcidaaaDoor
set_option linter.unusedSimpArgs false
set_option linter.unusedVariables false
open Go.RowKit
set_option linter.unusedVariables false
theorem cparse_lit (s : List UInt8) (c : Cm) (ev : Int) (h : parC s = (c, ev)) (hz : s.length ≤ 1000) (w : World) (hS : Std w) :
    Calls Tryd.prog 11 #[.string ⟨s.toArray⟩] w fun x w' => x = .returned (.tuple #[c.v, .int .i64 ev]) ∧ Grew w w' := by
  have := cparse_ok ⟨s.toArray⟩ (by show s.toArray.size ≤ _; simp; omega) w hS (by obtain ⟨m, hm⟩ := hS.mx; exact cell_lt hm)
  simpa [h] using this
def kc : Cm := ⟨1, 0, 2, 3, 50⟩
theorem kc_in : kc.in := Cm.in_of ⟨by decide, by decide⟩ ⟨by decide, by decide⟩ ⟨by decide, by decide⟩ ⟨by decide, by decide⟩ ⟨by decide, by decide⟩
theorem ck_1 : parC [49, 44, 48, 44, 50, 44, 51, 44, 53, 48] = (kc, 0) := by decide +kernel
theorem ck_2 : parC [49, 44, 48, 44, 50, 44, 50, 44, 53, 48] = (Cm.zero, 1) := by decide +kernel
theorem ck_3 : parC [49, 44, 48, 44, 50] = (Cm.zero, 2) := by decide +kernel
theorem ck_4 : parC [49, 44, 48, 44, 50, 44, 51, 44, 48] = (Cm.zero, 1) := by decide +kernel
theorem ck_t : txC kc = [49, 44, 48, 44, 50, 44, 51, 44, 53, 48] := by
  have h1 : pnums [49, 44, 48, 44, 50, 44, 51, 44, 53, 48] = (kc.l, 0) := by decide +kernel
  have := nums_pnums (s := [49, 44, 48, 44, 50, 44, 51, 44, 53, 48]) (by rw [h1])
  rw [h1] at this
  exact this
set_option maxRecDepth 100000 in
set_option maxHeartbeats 4000000 in
theorem cknown_ok (w : World) (hs : Std w) : Calls Tryd.prog 8 #[] w fun e w' => e = .returned (.bool true) ∧ Grew w w' := by
  have hi5 : (Tryd.prog.info? 23).map (·.size) = some 5 := by kernel_rfl
  have HS := Lib.hid hs
  clear hs
  go_enter Tryd.func8, Tryd.ntmps8
  go_wp2_with fail
  refine (cparse_lit _ _ _ ck_1 (by decide) w HS.out).mono ?_
  rintro e w1 ⟨rfl, g1⟩
  unfold kc Cm.v
  dsimp only
  have z1 := Ag.new w1 23 #[.int .i64 1, .int .i64 0, .int .i64 2, .int .i64 3, .int .i64 50]
  have G1 := grew_alloc g1 (.cells #[.int .i64 1, .int .i64 0, .int .i64 2, .int .i64 3, .int .i64 50] 23)
  clear g1
  go_wp2_with fail
  refine (cparse_lit _ _ _ ck_2 (by decide) _ (HS.out.grew G1)).mono ?_
  rintro e w2 ⟨rfl, gg⟩
  have z2 := (z1.grew gg).grew (grew_alloc (grew_refl w2) (.cells #[.int .i64 0, .int .i64 0, .int .i64 0, .int .i64 0, .int .i64 0] 23))
  have G2 := grew_alloc (grew_trans G1 gg) (.cells #[.int .i64 0, .int .i64 0, .int .i64 0, .int .i64 0, .int .i64 0] 23)
  clear gg z1 G1
  unfold Cm.zero Cm.v
  dsimp only
  go_wp2_with fail
  refine (cparse_lit _ _ _ ck_3 (by decide) _ (HS.out.grew G2)).mono ?_
  rintro e w3 ⟨rfl, gg⟩
  have z3 := (z2.grew gg).grew (grew_alloc (grew_refl w3) (.cells #[.int .i64 0, .int .i64 0, .int .i64 0, .int .i64 0, .int .i64 0] 23))
  have G3 := grew_alloc (grew_trans G2 gg) (.cells #[.int .i64 0, .int .i64 0, .int .i64 0, .int .i64 0, .int .i64 0] 23)
  clear gg z2 G2
  unfold Cm.zero Cm.v
  dsimp only
  go_wp2_with fail
  refine (cparse_lit _ _ _ ck_4 (by decide) _ (HS.out.grew G3)).mono ?_
  rintro e w4 ⟨rfl, gg⟩
  have z4 := (z3.grew gg).grew (grew_alloc (grew_refl w4) (.cells #[.int .i64 0, .int .i64 0, .int .i64 0, .int .i64 0, .int .i64 0] 23))
  have G4 := grew_alloc (grew_trans G3 gg) (.cells #[.int .i64 0, .int .i64 0, .int .i64 0, .int .i64 0, .int .i64 0] 23)
  clear gg z3 G3
  unfold Cm.zero Cm.v
  dsimp only
  have c0 := z4.cell 0 _ rfl
  have c1 := z4.cell 1 _ rfl
  have c2 := z4.cell 2 _ rfl
  have c3 := z4.cell 3 _ rfl
  have c4 := z4.cell 4 _ rfl
  simp only [Nat.zero_add] at c0 c1 c2 c3 c4
  go_wp2_with fail
  clear c0 c1 c2 c3 c4
  have C := text_ok kc kc_in _ (HS.out.grew G4)
  rw [ck_t] at C
  refine C.mono ?_
  clear C
  rintro e w5 ⟨rfl, gg⟩
  have z5 := z4.grew gg
  have G5 := grew_trans G4 gg
  clear gg z4 G4
  unfold txtV
  have c0 := z5.cell 0 _ rfl
  have c1 := z5.cell 1 _ rfl
  have c2 := z5.cell 2 _ rfl
  have c3 := z5.cell 3 _ rfl
  have c4 := z5.cell 4 _ rfl
  simp only [Nat.zero_add] at c0 c1 c2 c3 c4
  go_wp2_with fail
  clear c0 c1 c2 c3 c4
  have C := check_any kc w5
  rw [show chkC kc = 0 from by decide] at C
  refine C.mono ?_
  clear C
  rintro e w6 ⟨rfl, gg⟩
  have z6 := z5.grew gg
  have G6 := grew_trans G5 gg
  clear gg z5 G5
  have c0 := z6.cell 0 _ rfl
  have c1 := z6.cell 1 _ rfl
  have c2 := z6.cell 2 _ rfl
  have c3 := z6.cell 3 _ rfl
  have c4 := z6.cell 4 _ rfl
  simp only [Nat.zero_add] at c0 c1 c2 c3 c4
  go_wp2_with fail
  clear c0 c1 c2 c3 c4
  have C := sameID_any kc ⟨1, 0, 0, 0, 0⟩ w6
  rw [show decide (kc.cl = _ ∧ kc.no = _) = true from by decide] at C
  refine C.mono ?_
  clear C
  rintro e w7 ⟨rfl, gg⟩
  have z7 := z6.grew gg
  have G7 := grew_trans G6 gg
  clear gg z6 G6
  have c0 := z7.cell 0 _ rfl
  have c1 := z7.cell 1 _ rfl
  have c2 := z7.cell 2 _ rfl
  have c3 := z7.cell 3 _ rfl
  have c4 := z7.cell 4 _ rfl
  simp only [Nat.zero_add] at c0 c1 c2 c3 c4
  go_wp2_with fail
  clear c0 c1 c2 c3 c4
  have C := sameID_any kc ⟨1, 1, 0, 0, 0⟩ w7
  rw [show decide (kc.cl = _ ∧ kc.no = _) = false from by decide] at C
  refine C.mono ?_
  clear C
  rintro e w8 ⟨rfl, gg⟩
  have z8 := z7.grew gg
  have G8 := grew_trans G7 gg
  clear gg z7 G7
  have c0 := z8.cell 0 _ rfl
  have c1 := z8.cell 1 _ rfl
  have c2 := z8.cell 2 _ rfl
  have c3 := z8.cell 3 _ rfl
  have c4 := z8.cell 4 _ rfl
  simp only [Nat.zero_add] at c0 c1 c2 c3 c4
  go_wp2_with fail
  clear c0 c1 c2 c3 c4
  have C := digest_ok kc kc_in w8 (HS.out.grew G8)
  refine C.mono ?_
  clear C
  rintro e w9 ⟨rfl, gg⟩
  have z9 := z8.grew gg
  have G9 := grew_trans G8 gg
  clear gg z8 G8
  have c0 := z9.cell 0 _ rfl
  have c1 := z9.cell 1 _ rfl
  have c2 := z9.cell 2 _ rfl
  have c3 := z9.cell 3 _ rfl
  have c4 := z9.cell 4 _ rfl
  simp only [Nat.zero_add] at c0 c1 c2 c3 c4
  go_wp2_with fail
  refine (refof_any ⟨#[99, 109, 100]⟩ ⟨#[49, 44, 48, 44, 50, 44, 51, 44, 53, 48]⟩ (by decide) (by decide) _).mono ?_
  rintro e w10 ⟨rfl, gg⟩
  have G10 := grew_trans G9 gg
  have hd : (sumL (⟨#[99, 109, 100]⟩ : ByteArray).data.toList (⟨#[49, 44, 48, 44, 50, 44, 51, 44, 53, 48]⟩ : ByteArray).data.toList : Nat) = dgC kc := by unfold dgC; rw [ck_t]; rfl
  rw [hd]
  go_wp2_with fail
  go_ret
  exact ⟨rfl, G10⟩
end Go.Proofs.YtpgbfglfgcidaaaDoor

namespace Go.Proofs.YtpgbfglfgcidaaaDoor
set_option linter.unusedSimpArgs false
set_option linter.unusedVariables false
open Go.RowKit
set_option linter.unusedVariables false
theorem Ag.gr {w : World} {b : Nat} {cs : List Value} (h : Ag w b cs) (y : Gr w) : Ag y.val b cs := h.grew y.ok
theorem txt_beq (s t : List UInt8) : ((⟨s.toArray⟩ : ByteArray).toList == (⟨t.toArray⟩ : ByteArray).toList) = decide (s = t) := by
  rw [ByteArray.toList_eq, ByteArray.toList_eq]
  by_cases h : s = t
  · simp [h]
  · simp [h]
set_option maxRecDepth 100000 in
set_option maxHeartbeats 4000000 in
theorem cmdAny_law (a b : Cm) (ha : a.in) (hb : b.in) (w : World) (hS : Std w) :
    Calls Tryd.prog 3 #[a.v, b.v] w fun e w' => e = .returned (.bool true) ∧ Grew w w' := by
  have hla := txC_len ha
  have TA := Lib.hid (fun (W : World) (h : Std W) => text_ok a ha W h)
  have TB := Lib.hid (fun (W : World) (h : Std W) => text_ok b hb W h)
  have RA := Lib.hid (fun (W : World) => rtext_ok a ha W)
  have DA := Lib.hid (fun (W : World) (h : Std W) => digest_ok a ha W h)
  have SA := Lib.hid (fun (W : World) => rdigest_ok a ha W)
  have OA := Lib.hid (fun (W : World) => cof_ok a W)
  have OB := Lib.hid (fun (W : World) => cof_ok b W)
  have KA := Lib.hid (fun (W : World) => check_any a W)
  have KR := Lib.hid (fun (W : World) => rcheck_any a W)
  have IA := Lib.hid (fun (W : World) => sameID_any a b W)
  have IR := Lib.hid (fun (W : World) => rsameID_any a b W)
  have EQ := Lib.hid (fun W => cm_eq a b W)
  have EQA := Lib.hid (fun W => cm_eq a a W)
  rw [decide_eq_true rfl] at EQA
  have PP := Lib.hid (fun (W : World) (h : Std W) => cparse_ok ⟨(txC a).toArray⟩ (by show (txC a).toArray.size ≤ _; simp; omega) W h (by obtain ⟨m, hm⟩ := h.mx; exact cell_lt hm))
  dsimp only at PP
  have hTT : Hid (((⟨(txC a).toArray⟩ : ByteArray).toList == (⟨(txC b).toArray⟩ : ByteArray).toList) = decide (a = b)) := Lib.hid (by
    rw [txt_beq]
    by_cases h : a = b
    · subst h; simp
    · rw [decide_eq_false h, decide_eq_false (fun h' => h (txC_inj ha hb h'))])
  have HPC : Hid (chkC a ≠ 0 ∨ parC (txC a) = (a, 0)) := Lib.hid (by
    by_cases h : okC a
    · exact .inr (parC_txC h ha)
    · exact .inl (by rw [chkC_no h]; decide))
  unfold txtV at TA TB RA
  generalize (⟨(txC a).toArray⟩ : ByteArray) = ta at *
  generalize (⟨(txC b).toArray⟩ : ByteArray) = tb at *
  generalize decide (a = b) = eb at *
  generalize decide (a.cl = b.cl ∧ a.no = b.no) = ib at *
  generalize dgC a = da at *
  generalize chkC a = ck at *
  obtain ⟨pc, pe, hp⟩ : ∃ pc pe, parC (txC a) = (pc, pe) := ⟨_, _, rfl⟩
  simp only [hp] at PP
  have HPE : Hid (ck ≠ 0 ∨ pc = a ∧ pe = 0) := Lib.hid (by
    rcases HPC.out with h | h
    · exact .inl h
    · rw [hp] at h; injection h with h1 h2; exact .inr ⟨h1, h2⟩)
  clear HPC hp hla ha hb
  have HS := Lib.hid hS
  clear hS
  have hi5 : (Tryd.prog.info? 23).map (·.size) = some 5 := by kernel_rfl
  have hu5 := Tryd.underlying23
  obtain ⟨a0, a1, a2, a3, a4⟩ := a
  obtain ⟨b0, b1, b2, b3, b4⟩ := b
  obtain ⟨p0, p1, p2, p3, p4⟩ := pc
  simp only [Cm.mk.injEq] at HPE
  unfold Cm.v at *
  dsimp only at *
  have zA := (Ag.new w 23 #[.int .i64 a0, .int .i64 a1, .int .i64 a2, .int .i64 a3, .int .i64 a4]).grew (grew_alloc (grew_refl _) (.cells #[.int .i64 b0, .int .i64 b1, .int .i64 b2, .int .i64 b3, .int .i64 b4] 23))
  have zB := Ag.new (w.alloc (.cells #[.int .i64 a0, .int .i64 a1, .int .i64 a2, .int .i64 a3, .int .i64 a4] 23)) 23 #[.int .i64 b0, .int .i64 b1, .int .i64 b2, .int .i64 b3, .int .i64 b4]
  rw [alloc_size] at zB
  have G0 := grew_alloc (grew_alloc (grew_refl w) (.cells #[.int .i64 a0, .int .i64 a1, .int .i64 a2, .int .i64 a3, .int .i64 a4] 23)) (.cells #[.int .i64 b0, .int .i64 b1, .int .i64 b2, .int .i64 b3, .int .i64 b4] 23)
  go_enter Tryd.func3, Tryd.ntmps3
  go_wp2_with fail
  refine (cknown_ok _ (HS.out.grew G0)).mono ?_
  rintro e w1 ⟨rfl, gg⟩
  have yA := zA.grew gg
  have yB := zB.grew gg
  have G1 := grew_trans G0 gg
  clear gg zA zB G0
  have zA := yA
  have zB := yB
  clear yA yB
  have c0 := zA.cell 0 _ rfl
  have c1 := zA.cell 1 _ rfl
  have c2 := zA.cell 2 _ rfl
  have c3 := zA.cell 3 _ rfl
  have c4 := zA.cell 4 _ rfl
  simp only [Nat.zero_add] at c0 c1 c2 c3 c4
  go_wp2_with fail
  clear c0 c1 c2 c3 c4
  refine (OA.out _).mono ?_
  rintro e w2 ⟨rfl, gg⟩
  have yA := zA.grew gg
  have yB := zB.grew gg
  have G2 := grew_trans G1 gg
  clear gg zA zB G1
  have zA := yA
  have zB := yB
  clear yA yB
  go_wp2_with fail
  refine (KR.out _).mono ?_
  rintro e w3 ⟨rfl, gg⟩
  have yA := zA.grew gg
  have yB := zB.grew gg
  have G3 := grew_trans G2 gg
  clear gg zA zB G2
  have zA := yA
  have zB := yB
  clear yA yB
  have c0 := zA.cell 0 _ rfl
  have c1 := zA.cell 1 _ rfl
  have c2 := zA.cell 2 _ rfl
  have c3 := zA.cell 3 _ rfl
  have c4 := zA.cell 4 _ rfl
  simp only [Nat.zero_add] at c0 c1 c2 c3 c4
  go_wp2_with fail
  clear c0 c1 c2 c3 c4
  refine (TA.out _ (HS.out.grew G3)).mono ?_
  rintro e w4 ⟨rfl, gg⟩
  have yA := zA.grew gg
  have yB := zB.grew gg
  have G4 := grew_trans G3 gg
  clear gg zA zB G3
  have zA := yA
  have zB := yB
  clear yA yB
  go_wp2_with fail
  refine (PP.out _ (HS.out.grew G4)).mono ?_
  rintro e w5 ⟨rfl, gg⟩
  have yA := zA.grew gg
  have yB := zB.grew gg
  have G5 := grew_trans G4 gg
  clear gg zA zB G4
  have zA := yA
  have zB := yB
  clear yA yB
  go_wp2_with fail
  have zP := Ag.new w5 23 #[.int .i64 p0, .int .i64 p1, .int .i64 p2, .int .i64 p3, .int .i64 p4]
  have yA := zA.grew (grew_alloc (grew_refl _) (.cells #[.int .i64 p0, .int .i64 p1, .int .i64 p2, .int .i64 p3, .int .i64 p4] 23))
  have yB := zB.grew (grew_alloc (grew_refl _) (.cells #[.int .i64 p0, .int .i64 p1, .int .i64 p2, .int .i64 p3, .int .i64 p4] 23))
  have G6 := grew_alloc G5 (.cells #[.int .i64 p0, .int .i64 p1, .int .i64 p2, .int .i64 p3, .int .i64 p4] 23)
  clear zA zB G5
  generalize w5.heap.size = bp at *
  generalize w5.alloc (.cells #[.int .i64 p0, .int .i64 p1, .int .i64 p2, .int .i64 p3, .int .i64 p4] 23) = w6 at *
  have LA : Hid (∀ y : Gr w6, Ag y.val w.heap.size [.int .i64 a0, .int .i64 a1, .int .i64 a2, .int .i64 a3, .int .i64 a4]) := Lib.hid (fun y => yA.gr y)
  have LB : Hid (∀ y : Gr w6, Ag y.val (w.heap.size + 1) [.int .i64 b0, .int .i64 b1, .int .i64 b2, .int .i64 b3, .int .i64 b4]) := Lib.hid (fun y => yB.gr y)
  have LP : Hid (∀ y : Gr w6, Ag y.val bp [.int .i64 p0, .int .i64 p1, .int .i64 p2, .int .i64 p3, .int .i64 p4]) := Lib.hid (fun y => zP.gr y)
  have SS : Hid (∀ y : Gr w6, Std y.val) := Lib.hid (fun y => HS.out.grew (grew_trans G6 y.ok))
  have ebb : (eb == eb) = true := by simp
  have k1 : (ck != ck) = false := by simp
  have k2 : (ta.toList == ta.toList) = true := by simp
  have k3 : ((da : Int) != (da : Int)) = false := by simp
  have k4 : (ib != ib) = false := by simp
  refine wp_region_grew (grew_refl w6) (by kernel_rfl) (by kernel_rfl) ?_
  repeat (first
    | (go_big_quiet_want; refine quiet_load_ag 23 (.tmp 2) rfl w.heap.size rfl [.int .i64 a0, .int .i64 a1, .int .i64 a2, .int .i64 a3, .int .i64 a4] _ LA.out hu5 rfl hi5 ?_; simp only [Act.put, List.setIfInBounds_toArray, List.set_cons_succ, List.set_cons_zero]; go_big_quiet_on)
    | (go_big_quiet_want; refine quiet_load_ag 23 (.tmp 3) rfl (w.heap.size + 1) rfl [.int .i64 b0, .int .i64 b1, .int .i64 b2, .int .i64 b3, .int .i64 b4] _ LB.out hu5 rfl hi5 ?_; simp only [Act.put, List.setIfInBounds_toArray, List.set_cons_succ, List.set_cons_zero]; go_big_quiet_on)
    | (go_big_quiet_step (first
      | (go_at_call 13; exact callG (KA.out _))
      | (go_at_call 12; exact callG (TA.out _ (SS.out _)))
      | (go_at_call_of 10 (Value.agg #[Value.int IntKind.i64 a0, Value.int IntKind.i64 a1, Value.int IntKind.i64 a2, Value.int IntKind.i64 a3, Value.int IntKind.i64 a4]); exact callG (OA.out _))
      | (go_at_call_of 10 (Value.agg #[Value.int IntKind.i64 b0, Value.int IntKind.i64 b1, Value.int IntKind.i64 b2, Value.int IntKind.i64 b3, Value.int IntKind.i64 b4]); exact callG (OB.out _))
      | (go_at_call 14; exact callG (RA.out _))
      | (go_at_call 15; exact callG (DA.out _ (SS.out _)))
      | (go_at_call 16; exact callG (SA.out _))
      | (go_at_call 17; exact callG (IA.out _))
      | (go_at_call 18; exact callG (IR.out _)))))
  refine wpQuiet_nil ?_
  rintro w7 ⟨⟨w7', g7⟩, rfl⟩
  go_wp2_with fail
  have xA : Ag w7 w.heap.size [.int .i64 a0, .int .i64 a1, .int .i64 a2, .int .i64 a3, .int .i64 a4] := LA.out ⟨w7, g7⟩
  have xB : Ag w7 (w.heap.size + 1) [.int .i64 b0, .int .i64 b1, .int .i64 b2, .int .i64 b3, .int .i64 b4] := LB.out ⟨w7, g7⟩
  have xP : Ag w7 bp [.int .i64 p0, .int .i64 p1, .int .i64 p2, .int .i64 p3, .int .i64 p4] := LP.out ⟨w7, g7⟩
  have G7 := grew_trans G6 g7
  clear LA LB LP SS OA OB RA DA SA KA KR IA IR PP g7
  have LA : Hid (∀ y : Gr w7, Ag y.val w.heap.size [.int .i64 a0, .int .i64 a1, .int .i64 a2, .int .i64 a3, .int .i64 a4]) := Lib.hid (fun y => xA.gr y)
  have LB : Hid (∀ y : Gr w7, Ag y.val (w.heap.size + 1) [.int .i64 b0, .int .i64 b1, .int .i64 b2, .int .i64 b3, .int .i64 b4]) := Lib.hid (fun y => xB.gr y)
  have SS : Hid (∀ y : Gr w7, Std y.val) := Lib.hid (fun y => HS.out.grew (grew_trans G7 y.ok))
  have T1 := hTT.out
  have E1 := EQ.out
  have E2 := EQA.out
  by_cases hck : ck = 0
  · have hz : (ck != 0) = false := by simpa using hck
    obtain ⟨⟨e0, e1, e2, e3, e4⟩, e5⟩ := HPE.out.resolve_left (fun h => h hck)
    have e0 := e0.symm
    have e1 := e1.symm
    have e2 := e2.symm
    have e3 := e3.symm
    have e4 := e4.symm
    subst e0 e1 e2 e3 e4 e5
    have LP : Hid (∀ y : Gr w7, Ag y.val bp [.int .i64 a0, .int .i64 a1, .int .i64 a2, .int .i64 a3, .int .i64 a4]) := Lib.hid (fun y => xP.gr y)
    clear hck HPE xA xB xP hTT EQ EQA
    refine wp_region_grew (grew_refl w7) (by kernel_rfl) (by kernel_rfl) ?_
    repeat (first
      | (go_big_quiet_want; refine quiet_load_ag 23 (.tmp 2) rfl w.heap.size rfl [.int .i64 a0, .int .i64 a1, .int .i64 a2, .int .i64 a3, .int .i64 a4] _ LA.out hu5 rfl hi5 ?_; simp only [Act.put, List.setIfInBounds_toArray, List.set_cons_succ, List.set_cons_zero]; go_big_quiet_on)
      | (go_big_quiet_want; refine quiet_load_ag 23 (.tmp 3) rfl (w.heap.size + 1) rfl [.int .i64 b0, .int .i64 b1, .int .i64 b2, .int .i64 b3, .int .i64 b4] _ LB.out hu5 rfl hi5 ?_; simp only [Act.put, List.setIfInBounds_toArray, List.set_cons_succ, List.set_cons_zero]; go_big_quiet_on)
      | (go_big_quiet_want; refine quiet_load_ag 23 (.tmp 6) rfl bp rfl [.int .i64 a0, .int .i64 a1, .int .i64 a2, .int .i64 a3, .int .i64 a4] _ LP.out hu5 rfl hi5 ?_; simp only [Act.put, List.setIfInBounds_toArray, List.set_cons_succ, List.set_cons_zero]; go_big_quiet_on)
      | (go_big_quiet_step (first
        | (go_at_call_of 12 (Value.agg #[Value.int IntKind.i64 a0, Value.int IntKind.i64 a1, Value.int IntKind.i64 a2, Value.int IntKind.i64 a3, Value.int IntKind.i64 a4]); exact callG (TA.out _ (SS.out _)))
        | (go_at_call_of 12 (Value.agg #[Value.int IntKind.i64 b0, Value.int IntKind.i64 b1, Value.int IntKind.i64 b2, Value.int IntKind.i64 b3, Value.int IntKind.i64 b4]); exact callG (TB.out _ (SS.out _))))))
    refine wpQuiet_nil ?_
    rintro w8 ⟨⟨w8', g8⟩, rfl⟩
    go_wp2_with fail
    go_ret
    exact ⟨by first | rfl | trivial, grew_trans G7 g8⟩
  · have hz : (ck != 0) = true := by simpa using hck
    have LP : Hid (∀ y : Gr w7, Ag y.val bp [.int .i64 p0, .int .i64 p1, .int .i64 p2, .int .i64 p3, .int .i64 p4]) := Lib.hid (fun y => xP.gr y)
    clear hck HPE xA xB xP hTT EQ EQA
    refine wp_region_grew (grew_refl w7) (by kernel_rfl) (by kernel_rfl) ?_
    repeat (first
      | (go_big_quiet_want; refine quiet_load_ag 23 (.tmp 2) rfl w.heap.size rfl [.int .i64 a0, .int .i64 a1, .int .i64 a2, .int .i64 a3, .int .i64 a4] _ LA.out hu5 rfl hi5 ?_; simp only [Act.put, List.setIfInBounds_toArray, List.set_cons_succ, List.set_cons_zero]; go_big_quiet_on)
      | (go_big_quiet_want; refine quiet_load_ag 23 (.tmp 3) rfl (w.heap.size + 1) rfl [.int .i64 b0, .int .i64 b1, .int .i64 b2, .int .i64 b3, .int .i64 b4] _ LB.out hu5 rfl hi5 ?_; simp only [Act.put, List.setIfInBounds_toArray, List.set_cons_succ, List.set_cons_zero]; go_big_quiet_on)
      | (go_big_quiet_want; refine quiet_load_ag 23 (.tmp 6) rfl bp rfl [.int .i64 a0, .int .i64 a1, .int .i64 a2, .int .i64 a3, .int .i64 a4] _ LP.out hu5 rfl hi5 ?_; simp only [Act.put, List.setIfInBounds_toArray, List.set_cons_succ, List.set_cons_zero]; go_big_quiet_on)
      | (go_big_quiet_step (first
        | (go_at_call_of 12 (Value.agg #[Value.int IntKind.i64 a0, Value.int IntKind.i64 a1, Value.int IntKind.i64 a2, Value.int IntKind.i64 a3, Value.int IntKind.i64 a4]); exact callG (TA.out _ (SS.out _)))
        | (go_at_call_of 12 (Value.agg #[Value.int IntKind.i64 b0, Value.int IntKind.i64 b1, Value.int IntKind.i64 b2, Value.int IntKind.i64 b3, Value.int IntKind.i64 b4]); exact callG (TB.out _ (SS.out _))))))
    refine wpQuiet_nil ?_
    rintro w8 ⟨⟨w8', g8⟩, rfl⟩
    go_wp2_with fail
    go_ret
    exact ⟨by first | rfl | trivial, grew_trans G7 g8⟩
end Go.Proofs.YtpgbfglfgcidaaaDoor

namespace Go.Proofs.YtpgbfglfgcidaaaDoor
set_option linter.unusedSimpArgs false
set_option linter.unusedVariables false
open Go.RowKit
set_option linter.unusedVariables false
set_option maxRecDepth 100000 in
theorem rcm_eq (a b : Cm) (W : World) : (Op.equalIn 10000 26 a.v b.v).run Tryd.prog W = .ok (decide (a = b)) W := by
  obtain ⟨a0, a1, a2, a3, a4⟩ := a
  obtain ⟨b0, b1, b2, b3, b4⟩ := b
  unfold Cm.v
  rw [run_equalIn_struct W 9999 26 _ _ (by kernel_rfl) (by kernel_rfl)]
  simp only [Program.fieldsOf, Tryd.underlying26]
  rw [eq_step (k := .i64) (a := a0) (b := b0) (by simp) (by kernel_rfl) (by kernel_rfl) (by kernel_rfl), eq_step (k := .i64) (a := a1) (b := b1) (by simp) (by kernel_rfl) (by kernel_rfl) (by kernel_rfl), eq_step (k := .i64) (a := a2) (b := b2) (by simp) (by kernel_rfl) (by kernel_rfl) (by kernel_rfl), eq_step (k := .i64) (a := a3) (b := b3) (by simp) (by kernel_rfl) (by kernel_rfl) (by kernel_rfl), eq_step (k := .i64) (a := a4) (b := b4) (by simp) (by kernel_rfl) (by kernel_rfl) (by kernel_rfl)]
  simp only [Op.eqFields, Sem.run_pure, Cm.mk.injEq]
  by_cases h0 : a0 = b0 <;> by_cases h1 : a1 = b1 <;> by_cases h2 : a2 = b2 <;> by_cases h3 : a3 = b3 <;> by_cases h4 : a4 = b4 <;> simp [h0, h1, h2, h3, h4]
theorem parC_in {s : List UInt8} : (parC s).1.in := by
  have hz : Cm.zero.in := Cm.in_of ⟨by decide, by decide⟩ ⟨by decide, by decide⟩ ⟨by decide, by decide⟩ ⟨by decide, by decide⟩ ⟨by decide, by decide⟩
  have hi := pnums_i64 (s := s)
  obtain ⟨v, ev, hpn⟩ : ∃ v ev, pnums s = (v, ev) := ⟨_, _, rfl⟩
  rw [hpn] at hi
  by_cases hev : ev = 0
  · subst hev
    by_cases hlen : v.length = 5
    · match v, hlen with
      | [a, b, c, d, e], _ =>
        rw [parC_l5 hpn]
        split
        · split
          · exact hi
          · exact hz
        · exact hz
    · rw [parC_len hpn hlen]; exact hz
  · rw [parC_bad hpn hev]; exact hz
theorem txC_parC {s : List UInt8} (h : (parC s).2 = 0) : txC (parC s).1 = s := by
  obtain ⟨v, ev, hpn⟩ : ∃ v ev, pnums s = (v, ev) := ⟨_, _, rfl⟩
  by_cases hev : ev = 0
  · subst hev
    by_cases hlen : v.length = 5
    · match v, hlen with
      | [a, b, c, d, e], _ =>
        have hn := nums_pnums (s := s) (by rw [hpn])
        rw [hpn] at hn
        rw [parC_l5 hpn] at h ⊢
        split at h
        · rename_i h1
          rw [if_pos h1]
          split at h
          · rename_i h2
            rw [if_pos h2]
            exact hn
          · cases h
        · cases h
    · rw [parC_len hpn hlen] at h; cases h
  · rw [parC_bad hpn hev] at h; exact absurd h hev
set_option maxRecDepth 100000 in
set_option maxHeartbeats 4000000 in
theorem cmdWords_law (s : ByteArray) (hs : s.size ≤ 9223372036854775807) (w : World) (hS : Std w) :
    Calls Tryd.prog 4 #[.string s] w fun e w' => e = .returned (.bool true) ∧ Grew w w' := by
  have CK := Lib.hid (cknown_ok w hS)
  by_cases hbs : 300 < s.size
  · have hbi : (300 : Int) < (s.size : Int) := by omega
    clear hS
    go_enter Tryd.func4, Tryd.ntmps4
    go_wp2_with (first | (go_at_call 8; refine (CK.out).mono ?_; rintro e w1 ⟨rfl, hg1⟩))
    go_ret
    exact ⟨rfl, hg1⟩
  · have hbi : ¬ (300 : Int) < (s.size : Int) := by omega
    have PA := Lib.hid (fun (W : World) (h : Std W) => cparse_ok s (by omega) W h (by obtain ⟨m, hm⟩ := h.mx; exact cell_lt hm))
    have PR := Lib.hid (fun (W : World) => rcparse_ok s (by omega) W)
    have TP := Lib.hid (fun (W : World) (h : Std W) => text_ok (parC s.data.toList).1 parC_in W h)
    have OP := Lib.hid (fun (W : World) => cof_ok (parC s.data.toList).1 W)
    have EQ := Lib.hid (fun W => rcm_eq (parC s.data.toList).1 (parC s.data.toList).1 W)
    rw [decide_eq_true rfl] at EQ
    have HT : Hid ((parC s.data.toList).2 = 0 → (⟨(txC (parC s.data.toList).1).toArray⟩ : ByteArray) = s) := Lib.hid (fun h => by rw [txC_parC h])
    unfold txtV at TP
    generalize (⟨(txC (parC s.data.toList).1).toArray⟩ : ByteArray) = t at *
    generalize (parC s.data.toList).1 = pc at *
    generalize (parC s.data.toList).2 = pe at *
    have HS := Lib.hid hS
    clear hS hbs
    have hi5 : (Tryd.prog.info? 23).map (·.size) = some 5 := by kernel_rfl
    have hu5 := Tryd.underlying23
    have hj5 : (Tryd.prog.info? 26).map (·.size) = some 5 := by kernel_rfl
    have hv5 := Tryd.underlying26
    obtain ⟨p0, p1, p2, p3, p4⟩ := pc
    unfold Cm.v at *
    dsimp only at *
    go_enter Tryd.func4, Tryd.ntmps4
    go_wp2_with fail
    refine CK.out.mono ?_
    rintro e w1 ⟨rfl, G1⟩
    go_wp2_with fail
    refine (PA.out _ (HS.out.grew G1)).mono ?_
    rintro e w2 ⟨rfl, gg⟩
    have zP := Ag.new w2 23 #[.int .i64 p0, .int .i64 p1, .int .i64 p2, .int .i64 p3, .int .i64 p4]
    have G2 := grew_alloc (grew_trans G1 gg) (.cells #[.int .i64 p0, .int .i64 p1, .int .i64 p2, .int .i64 p3, .int .i64 p4] 23)
    clear gg G1 CK
    go_wp2_with fail
    refine (PR.out _).mono ?_
    rintro e w3 ⟨rfl, gg⟩
    have yP := (zP.grew gg).grew (grew_alloc (grew_refl _) (.cells #[.int .i64 p0, .int .i64 p1, .int .i64 p2, .int .i64 p3, .int .i64 p4] 26))
    have zR := Ag.new w3 26 #[.int .i64 p0, .int .i64 p1, .int .i64 p2, .int .i64 p3, .int .i64 p4]
    have G3 := grew_alloc (grew_trans G2 gg) (.cells #[.int .i64 p0, .int .i64 p1, .int .i64 p2, .int .i64 p3, .int .i64 p4] 26)
    clear gg G2 zP
    go_wp2_with fail
    generalize w2.heap.size = bp at *
    generalize w3.heap.size = br at *
    generalize w3.alloc (.cells #[.int .i64 p0, .int .i64 p1, .int .i64 p2, .int .i64 p3, .int .i64 p4] 26) = w4 at *
    have LP : Hid (∀ y : Gr w4, Ag y.val bp [.int .i64 p0, .int .i64 p1, .int .i64 p2, .int .i64 p3, .int .i64 p4]) := Lib.hid (fun y => yP.gr y)
    have LR : Hid (∀ y : Gr w4, Ag y.val br [.int .i64 p0, .int .i64 p1, .int .i64 p2, .int .i64 p3, .int .i64 p4]) := Lib.hid (fun y => zR.gr y)
    have SS : Hid (∀ y : Gr w4, Std y.val) := Lib.hid (fun y => HS.out.grew (grew_trans G3 y.ok))
    have E1 := EQ.out
    have pp : (pe == pe) = true := by simp
    by_cases hz : pe = 0
    · have hn : (pe != 0) = false := by simpa using hz
      obtain rfl := HT.out hz
      have tt : (t.toList == t.toList) = true := by simp
      clear hz HT yP zR PA PR
      refine wp_region_grew (grew_refl w4) (by kernel_rfl) (by kernel_rfl) ?_
      repeat (first
        | (go_big_quiet_want; refine quiet_load_ag 23 (.tmp 3) rfl bp rfl [.int .i64 p0, .int .i64 p1, .int .i64 p2, .int .i64 p3, .int .i64 p4] _ LP.out hu5 rfl hi5 ?_; simp only [Act.put, List.setIfInBounds_toArray, List.set_cons_succ, List.set_cons_zero]; go_big_quiet_on)
        | (go_big_quiet_want; refine quiet_load_ag 26 (.tmp 5) rfl br rfl [.int .i64 p0, .int .i64 p1, .int .i64 p2, .int .i64 p3, .int .i64 p4] _ LR.out hv5 rfl hj5 ?_; simp only [Act.put, List.setIfInBounds_toArray, List.set_cons_succ, List.set_cons_zero]; go_big_quiet_on)
        | (go_big_quiet_step (first
          | (go_at_call 10; exact callG (OP.out _))
          | (go_at_call 12; exact callG (TP.out _ (SS.out _))))))
      refine wpQuiet_nil ?_
      rintro w8 ⟨⟨w8', g8⟩, rfl⟩
      go_wp2_with fail
      go_ret
      exact ⟨by first | rfl | trivial, grew_trans G3 g8⟩
    · have hn : (pe != 0) = true := by simpa using hz
      clear hz HT yP zR PA PR
      refine wp_region_grew (grew_refl w4) (by kernel_rfl) (by kernel_rfl) ?_
      repeat (first
        | (go_big_quiet_want; refine quiet_load_ag 23 (.tmp 3) rfl bp rfl [.int .i64 p0, .int .i64 p1, .int .i64 p2, .int .i64 p3, .int .i64 p4] _ LP.out hu5 rfl hi5 ?_; simp only [Act.put, List.setIfInBounds_toArray, List.set_cons_succ, List.set_cons_zero]; go_big_quiet_on)
        | (go_big_quiet_want; refine quiet_load_ag 26 (.tmp 5) rfl br rfl [.int .i64 p0, .int .i64 p1, .int .i64 p2, .int .i64 p3, .int .i64 p4] _ LR.out hv5 rfl hj5 ?_; simp only [Act.put, List.setIfInBounds_toArray, List.set_cons_succ, List.set_cons_zero]; go_big_quiet_on)
        | (go_big_quiet_step (first
          | (go_at_call 10; exact callG (OP.out _))
          | (go_at_call 12; exact callG (TP.out _ (SS.out _))))))
      refine wpQuiet_nil ?_
      rintro w8 ⟨⟨w8', g8⟩, rfl⟩
      go_wp2_with fail
      go_ret
      exact ⟨by first | rfl | trivial, grew_trans G3 g8⟩
end Go.Proofs.YtpgbfglfgcidaaaDoor

namespace Go.Proofs.YtpgbfglfgcidaaaDoor
set_option linter.unusedSimpArgs false
set_option linter.unusedVariables false
open Go.RowKit
set_option linter.unusedVariables false
set_option maxRecDepth 100000 in
set_option maxHeartbeats 4000000 in
theorem cmdTells_law (a b : Cm) (ha : a.in) (hb : b.in) (w : World) (hS : Std w) :
    Calls Tryd.prog 6 #[a.v, b.v] w fun e w' => e = .returned (.bool true) ∧ Grew w w' := by
  have hla := txC_len ha
  have TA := Lib.hid (fun (W : World) (h : Std W) => text_ok a ha W h)
  have DA := Lib.hid (fun (W : World) (h : Std W) => digest_ok a ha W h)
  have DB := Lib.hid (fun (W : World) (h : Std W) => digest_ok b hb W h)
  have IA := Lib.hid (fun (W : World) => sameID_any a b W)
  have EQ := Lib.hid (fun W => cm_eq a b W)
  have PP := Lib.hid (fun (W : World) (h : Std W) => parseNums_ok ⟨(txC a).toArray⟩ (by show (txC a).toArray.size ≤ _; simp; omega) W h (by obtain ⟨m, hm⟩ := h.mx; exact cell_lt hm))
  simp only [pnums_txC ha] at PP
  have HD : Hid (a = b → dgC b = dgC a) := Lib.hid (fun h => by rw [h])
  unfold txtV at TA
  generalize (⟨(txC a).toArray⟩ : ByteArray) = ta at *
  generalize dgC a = da at *
  generalize dgC b = db at *
  clear ha hb hla
  have HS := Lib.hid hS
  clear hS
  have hi5 : (Tryd.prog.info? 23).map (·.size) = some 5 := by kernel_rfl
  have hu5 := Tryd.underlying23
  obtain ⟨a0, a1, a2, a3, a4⟩ := a
  obtain ⟨b0, b1, b2, b3, b4⟩ := b
  unfold Cm.v at *
  unfold Cm.l at PP
  simp only [Cm.mk.injEq] at HD EQ
  dsimp only at *
  have zA := (Ag.new w 23 #[.int .i64 a0, .int .i64 a1, .int .i64 a2, .int .i64 a3, .int .i64 a4]).grew (grew_alloc (grew_refl _) (.cells #[.int .i64 b0, .int .i64 b1, .int .i64 b2, .int .i64 b3, .int .i64 b4] 23))
  have zB := Ag.new (w.alloc (.cells #[.int .i64 a0, .int .i64 a1, .int .i64 a2, .int .i64 a3, .int .i64 a4] 23)) 23 #[.int .i64 b0, .int .i64 b1, .int .i64 b2, .int .i64 b3, .int .i64 b4]
  rw [alloc_size] at zB
  have G0 := grew_alloc (grew_alloc (grew_refl w) (.cells #[.int .i64 a0, .int .i64 a1, .int .i64 a2, .int .i64 a3, .int .i64 a4] 23)) (.cells #[.int .i64 b0, .int .i64 b1, .int .i64 b2, .int .i64 b3, .int .i64 b4] 23)
  go_enter Tryd.func6, Tryd.ntmps6
  go_wp2_with fail
  refine (cknown_ok _ (HS.out.grew G0)).mono ?_
  rintro e w1 ⟨rfl, gg⟩
  have yA := zA.grew gg
  have yB := zB.grew gg
  have G1 := grew_trans G0 gg
  clear gg zA zB G0
  have c0 := yA.cell 0 _ rfl
  have c1 := yA.cell 1 _ rfl
  have c2 := yA.cell 2 _ rfl
  have c3 := yA.cell 3 _ rfl
  have c4 := yA.cell 4 _ rfl
  simp only [Nat.zero_add] at c0 c1 c2 c3 c4
  go_wp2_with fail
  clear c0 c1 c2 c3 c4
  refine (TA.out _ (HS.out.grew G1)).mono ?_
  rintro e w2 ⟨rfl, gg⟩
  have zA := yA.grew gg
  have zB := yB.grew gg
  have G2 := grew_trans G1 gg
  clear gg yA yB G1
  go_wp2_with fail
  refine (PP.out _ (HS.out.grew G2)).mono ?_
  rintro e w3 ⟨⟨v3, rfl, o3⟩, gg⟩
  obtain ⟨A3, k3, rfl, hlk, _, r3⟩ := own_rd o3
  obtain ⟨ad, rfl, hlt, k_0⟩ := rd_i64 r3 0 (by simp)
  have hk5 : 5 ≤ k3 := hlk
  have kk : ∀ (j : Nat) (hj : j < 5), w3.cell? (ad.add j) = some (.int .i64 ([a0, a1, a2, a3, a4][j]'hj)) := fun j hj => by obtain ⟨ad', e1, _, h⟩ := rd_i64 r3 j hj; injection e1 with e1; subst e1; exact h
  have q0 : ∀ y : Gr w3, y.val.cell? ad = some (.int .i64 a0) := fun y => (y.ok.cell (p := ad) hlt).trans (by
    have h : w3.cell? (ad.add 0) = some (.int .i64 a0) := kk 0 (by decide)
    simpa [Addr.add] using h)
  have q1 : ∀ y : Gr w3, y.val.cell? ⟨ad.block, ad.off + 1, none⟩ = some (.int .i64 a1) := fun y => (y.ok.cell (p := ⟨ad.block, ad.off + 1, none⟩) hlt).trans (by
    have h : w3.cell? (ad.add 1) = some (.int .i64 a1) := kk 1 (by decide)
    simpa [Addr.add] using h)
  have q2 : ∀ y : Gr w3, y.val.cell? ⟨ad.block, ad.off + 2, none⟩ = some (.int .i64 a2) := fun y => (y.ok.cell (p := ⟨ad.block, ad.off + 2, none⟩) hlt).trans (by
    have h : w3.cell? (ad.add 2) = some (.int .i64 a2) := kk 2 (by decide)
    simpa [Addr.add] using h)
  have q3 : ∀ y : Gr w3, y.val.cell? ⟨ad.block, ad.off + 3, none⟩ = some (.int .i64 a3) := fun y => (y.ok.cell (p := ⟨ad.block, ad.off + 3, none⟩) hlt).trans (by
    have h : w3.cell? (ad.add 3) = some (.int .i64 a3) := kk 3 (by decide)
    simpa [Addr.add] using h)
  have q4 : ∀ y : Gr w3, y.val.cell? ⟨ad.block, ad.off + 4, none⟩ = some (.int .i64 a4) := fun y => (y.ok.cell (p := ⟨ad.block, ad.off + 4, none⟩) hlt).trans (by
    have h : w3.cell? (ad.add 4) = some (.int .i64 a4) := kk 4 (by decide)
    simpa [Addr.add] using h)
  have yA := zA.grew gg
  have yB := zB.grew gg
  have G3 := grew_trans G2 gg
  clear gg zA zB G2 kk k_0 r3 o3 PP TA
  have aq0 : ∀ y : Gr w3, y.val.cell? ⟨w.heap.size, 0, none⟩ = some (.int .i64 a0) := fun y => by have := (yA.gr y).cell 0 _ rfl; simpa using this
  have aq1 : ∀ y : Gr w3, y.val.cell? ⟨w.heap.size, 1, none⟩ = some (.int .i64 a1) := fun y => by have := (yA.gr y).cell 1 _ rfl; simpa using this
  have aq2 : ∀ y : Gr w3, y.val.cell? ⟨w.heap.size, 2, none⟩ = some (.int .i64 a2) := fun y => by have := (yA.gr y).cell 2 _ rfl; simpa using this
  have aq3 : ∀ y : Gr w3, y.val.cell? ⟨w.heap.size, 3, none⟩ = some (.int .i64 a3) := fun y => by have := (yA.gr y).cell 3 _ rfl; simpa using this
  have aq4 : ∀ y : Gr w3, y.val.cell? ⟨w.heap.size, 4, none⟩ = some (.int .i64 a4) := fun y => by have := (yA.gr y).cell 4 _ rfl; simpa using this
  have bq0 : ∀ y : Gr w3, y.val.cell? ⟨w.heap.size + 1, 0, none⟩ = some (.int .i64 b0) := fun y => by have := (yB.gr y).cell 0 _ rfl; simpa using this
  have bq1 : ∀ y : Gr w3, y.val.cell? ⟨w.heap.size + 1, 1, none⟩ = some (.int .i64 b1) := fun y => by have := (yB.gr y).cell 1 _ rfl; simpa using this
  have e0 : (a0 == a0) = true := by simp
  have e1 : (a1 == a1) = true := by simp
  have e2 : (a2 == a2) = true := by simp
  have e3 : (a3 == a3) = true := by simp
  have e4 : (a4 == a4) = true := by simp
  have LA : Hid (∀ y : Gr w3, Ag y.val w.heap.size [.int .i64 a0, .int .i64 a1, .int .i64 a2, .int .i64 a3, .int .i64 a4]) := Lib.hid (fun y => yA.gr y)
  have LB : Hid (∀ y : Gr w3, Ag y.val (w.heap.size + 1) [.int .i64 b0, .int .i64 b1, .int .i64 b2, .int .i64 b3, .int .i64 b4]) := Lib.hid (fun y => yB.gr y)
  have SS : Hid (∀ y : Gr w3, Std y.val) := Lib.hid (fun y => HS.out.grew (grew_trans G3 y.ok))
  clear yA yB
  by_cases h0 : a0 = b0
  · by_cases h1 : a1 = b1
    · by_cases h2 : a2 = b2 ∧ a3 = b3 ∧ a4 = b4
      · obtain ⟨h2, h3, h4⟩ := h2
        subst h0 h1 h2 h3 h4
        have E1 := EQ.out
        rw [decide_eq_true ⟨rfl, rfl, rfl, rfl, rfl⟩] at E1
        rw [decide_eq_true ⟨rfl, rfl⟩] at IA
        have hd := HD.out ⟨rfl, rfl, rfl, rfl, rfl⟩
        subst hd
        have d1 : ∀ z : Int, (z == z) = true := fun z => by simp
        clear EQ HD
        go_wp2_with fail
        refine wp_region_grew (grew_refl w3) (by kernel_rfl) (by kernel_rfl) ?_
        simp only [List.append_eq, List.cons_append, List.nil_append]
        repeat (first
          | (go_big_quiet_want; refine quiet_load_ag 23 (.tmp 2) rfl w.heap.size rfl [.int .i64 a0, .int .i64 a1, .int .i64 a2, .int .i64 a3, .int .i64 a4] _ LA.out hu5 rfl hi5 ?_; simp only [Act.put, List.setIfInBounds_toArray, List.set_cons_succ, List.set_cons_zero]; go_big_quiet_on)
          | (go_big_quiet_want; refine quiet_load_ag 23 (.tmp 3) rfl (w.heap.size + 1) rfl [.int .i64 a0, .int .i64 a1, .int .i64 a2, .int .i64 a3, .int .i64 a4] _ LB.out hu5 rfl hi5 ?_; simp only [Act.put, List.setIfInBounds_toArray, List.set_cons_succ, List.set_cons_zero]; go_big_quiet_on)
          | (go_big_quiet_step (first
            | (go_at_call 17; exact callG (IA.out _))
            | (go_at_call_of 15 (Value.agg #[Value.int IntKind.i64 a0, Value.int IntKind.i64 a1, Value.int IntKind.i64 a2, Value.int IntKind.i64 a3, Value.int IntKind.i64 a4]); exact callG (DA.out _ (SS.out _)))
            | (go_at_call_of 15 (Value.agg #[Value.int IntKind.i64 a0, Value.int IntKind.i64 a1, Value.int IntKind.i64 a2, Value.int IntKind.i64 a3, Value.int IntKind.i64 a4]); exact callG (DB.out _ (SS.out _))))))
        refine wpQuiet_nil ?_
        rintro w8 ⟨⟨w8', g8⟩, rfl⟩
        go_wp2_with fail
        go_ret
        exact ⟨by first | rfl | trivial, grew_trans G3 g8⟩
      · have E1 := EQ.out
        rw [decide_eq_false (fun h => h2 h.2.2)] at E1
        rw [decide_eq_true ⟨h0, h1⟩] at IA
        have f0 : (a0 == b0) = true := by simpa using h0
        have f1 : (a1 == b1) = true := by simpa using h1
        clear EQ HD h0 h1 h2
        go_wp2_with fail
        refine wp_region_grew (grew_refl w3) (by kernel_rfl) (by kernel_rfl) ?_
        simp only [List.append_eq, List.cons_append, List.nil_append]
        repeat (first
          | (go_big_quiet_want; refine quiet_load_ag 23 (.tmp 2) rfl w.heap.size rfl [.int .i64 a0, .int .i64 a1, .int .i64 a2, .int .i64 a3, .int .i64 a4] _ LA.out hu5 rfl hi5 ?_; simp only [Act.put, List.setIfInBounds_toArray, List.set_cons_succ, List.set_cons_zero]; go_big_quiet_on)
          | (go_big_quiet_want; refine quiet_load_ag 23 (.tmp 3) rfl (w.heap.size + 1) rfl [.int .i64 b0, .int .i64 b1, .int .i64 b2, .int .i64 b3, .int .i64 b4] _ LB.out hu5 rfl hi5 ?_; simp only [Act.put, List.setIfInBounds_toArray, List.set_cons_succ, List.set_cons_zero]; go_big_quiet_on)
          | (go_big_quiet_step (first
            | (go_at_call 17; exact callG (IA.out _))
            | (go_at_call_of 15 (Value.agg #[Value.int IntKind.i64 a0, Value.int IntKind.i64 a1, Value.int IntKind.i64 a2, Value.int IntKind.i64 a3, Value.int IntKind.i64 a4]); exact callG (DA.out _ (SS.out _)))
            | (go_at_call_of 15 (Value.agg #[Value.int IntKind.i64 b0, Value.int IntKind.i64 b1, Value.int IntKind.i64 b2, Value.int IntKind.i64 b3, Value.int IntKind.i64 b4]); exact callG (DB.out _ (SS.out _))))))
        refine wpQuiet_nil ?_
        rintro w8 ⟨⟨w8', g8⟩, rfl⟩
        go_wp2_with fail
        go_ret
        exact ⟨by first | rfl | trivial, grew_trans G3 g8⟩
    · have E1 := EQ.out
      rw [decide_eq_false (fun h => h1 h.2.1)] at E1
      rw [decide_eq_false (fun h => h1 h.2)] at IA
      have f0 : (a0 == b0) = true := by simpa using h0
      have f1 : (a1 == b1) = false := by simpa using h1
      clear EQ HD h0 h1
      go_wp2_with fail
      refine wp_region_grew (grew_refl w3) (by kernel_rfl) (by kernel_rfl) ?_
      simp only [List.append_eq, List.cons_append, List.nil_append]
      repeat (first
        | (go_big_quiet_want; refine quiet_load_ag 23 (.tmp 2) rfl w.heap.size rfl [.int .i64 a0, .int .i64 a1, .int .i64 a2, .int .i64 a3, .int .i64 a4] _ LA.out hu5 rfl hi5 ?_; simp only [Act.put, List.setIfInBounds_toArray, List.set_cons_succ, List.set_cons_zero]; go_big_quiet_on)
        | (go_big_quiet_want; refine quiet_load_ag 23 (.tmp 3) rfl (w.heap.size + 1) rfl [.int .i64 b0, .int .i64 b1, .int .i64 b2, .int .i64 b3, .int .i64 b4] _ LB.out hu5 rfl hi5 ?_; simp only [Act.put, List.setIfInBounds_toArray, List.set_cons_succ, List.set_cons_zero]; go_big_quiet_on)
        | (go_big_quiet_step (first
          | (go_at_call 17; exact callG (IA.out _))
          | (go_at_call_of 15 (Value.agg #[Value.int IntKind.i64 a0, Value.int IntKind.i64 a1, Value.int IntKind.i64 a2, Value.int IntKind.i64 a3, Value.int IntKind.i64 a4]); exact callG (DA.out _ (SS.out _)))
          | (go_at_call_of 15 (Value.agg #[Value.int IntKind.i64 b0, Value.int IntKind.i64 b1, Value.int IntKind.i64 b2, Value.int IntKind.i64 b3, Value.int IntKind.i64 b4]); exact callG (DB.out _ (SS.out _))))))
      refine wpQuiet_nil ?_
      rintro w8 ⟨⟨w8', g8⟩, rfl⟩
      go_wp2_with fail
      go_ret
      exact ⟨by first | rfl | trivial, grew_trans G3 g8⟩
  · have E1 := EQ.out
    rw [decide_eq_false (fun h => h0 h.1)] at E1
    rw [decide_eq_false (fun h => h0 h.1)] at IA
    have f0 : (a0 == b0) = false := by simpa using h0
    clear EQ HD h0
    go_wp2_with fail
    refine wp_region_grew (grew_refl w3) (by kernel_rfl) (by kernel_rfl) ?_
    simp only [List.append_eq, List.cons_append, List.nil_append]
    repeat (first
      | (go_big_quiet_want; refine quiet_load_ag 23 (.tmp 2) rfl w.heap.size rfl [.int .i64 a0, .int .i64 a1, .int .i64 a2, .int .i64 a3, .int .i64 a4] _ LA.out hu5 rfl hi5 ?_; simp only [Act.put, List.setIfInBounds_toArray, List.set_cons_succ, List.set_cons_zero]; go_big_quiet_on)
      | (go_big_quiet_want; refine quiet_load_ag 23 (.tmp 3) rfl (w.heap.size + 1) rfl [.int .i64 b0, .int .i64 b1, .int .i64 b2, .int .i64 b3, .int .i64 b4] _ LB.out hu5 rfl hi5 ?_; simp only [Act.put, List.setIfInBounds_toArray, List.set_cons_succ, List.set_cons_zero]; go_big_quiet_on)
      | (go_big_quiet_step (first
        | (go_at_call 17; exact callG (IA.out _))
        | (go_at_call_of 15 (Value.agg #[Value.int IntKind.i64 a0, Value.int IntKind.i64 a1, Value.int IntKind.i64 a2, Value.int IntKind.i64 a3, Value.int IntKind.i64 a4]); exact callG (DA.out _ (SS.out _)))
        | (go_at_call_of 15 (Value.agg #[Value.int IntKind.i64 b0, Value.int IntKind.i64 b1, Value.int IntKind.i64 b2, Value.int IntKind.i64 b3, Value.int IntKind.i64 b4]); exact callG (DB.out _ (SS.out _))))))
    refine wpQuiet_nil ?_
    rintro w8 ⟨⟨w8', g8⟩, rfl⟩
    go_wp2_with fail
    go_ret
    exact ⟨by first | rfl | trivial, grew_trans G3 g8⟩
end Go.Proofs.YtpgbfglfgcidaaaDoor
