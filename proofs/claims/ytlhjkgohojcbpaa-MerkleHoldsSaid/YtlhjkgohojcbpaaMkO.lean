/- The statements of layer 4: MerkleHolds. -/
import Derived.Test.YtlhjkgohojcbpaaMkN
import Derived.Deep.QuietTactic
import Derived.BigQuiet
import Derived.IntWalk
namespace Go.Proofs.Ytlhjkgohojcbpaa
open Go.RowKit
set_option linter.unusedVariables false
set_option maxRecDepth 100000 in
set_option maxHeartbeats 1600000 in
theorem merkleHolds_law (s : Nat) (ht a b : Int) (w : World) (hs : s < 18446744073709551616) (h0 : 0 ≤ ht ∧ ht ≤ 255) (ha : 0 ≤ a ∧ a ≤ 255) (hb : 0 ≤ b ∧ b ≤ 255) :
    Calls Try.prog 10 #[.int .u64 s, .int .u8 ht, .int .u8 a, .int .u8 b] w fun e w' => e = .returned (.bool true) ∧ Grew w w' := by
  obtain ⟨i0, hi0, hz0, hz1, hz2⟩ := info_parts infoD
  obtain ⟨h, hh⟩ : ∃ h : Nat, ht % 9 = h := ⟨(ht % 9).toNat, by omega⟩
  have hh8 : h ≤ 8 := by omega
  obtain ⟨n, hn⟩ : ∃ n : Nat, 2 ^ h = n := ⟨_, rfl⟩
  have hn2 := pow_nat8 h hh8
  have hok := leavesOk_pow h hh8
  rw [hn] at hn2 hok
  have hpw : wrap64 (2 ^ h) = (n : Int) := by
    have : (2 : Int) ^ h = (n : Int) := by rw [← hn]; simp
    rw [this]; unfold wrap64; omega
  have HOK := Lib.hid hok
  have HN := Lib.hid hn
  clear hok hn
  have hn0 : (0 : Int) < (n : Int) := by omega
  go_enter Try.func10, Try.ntmps10
  go_wp2_with (refine (mkknown_any _).mono ?_; rintro e w1 ⟨rfl, hb1⟩)
  rw [hpw, hh]
  have HH := Lib.hid hh
  have HPW := Lib.hid hpw
  clear hh hpw
  go_loopw [11, 12] (fun pv iv wr => ∃ (k : Nat) (p : Value), p = pv ∧ k ≤ n ∧ iv = .int .i64 k ∧ wr.ownsRow w1.heap.size 24 1 p k (u64L (leafL s k)) ∧ Grew w1 wr) (fun _ iv _ => n - (intOf iv).toNat)
  case atStart => exact ⟨0, _, rfl, Nat.zero_le _, rfl, World.ownsRow_nil _ _ _ _, Below.refl _ _⟩
  case round =>
    obtain ⟨k, p, hp, hk, rfl, hown, hbw⟩ := hrel
    subst hp
    by_cases hlt : k < n
    · have hzs := hbw.size
      have HA := Lib.hid (leafL_succ s k)
      have C := two_any ⟨#[120]⟩ (s : Int) (k : Int) (by decide) (u64_nat hs) ⟨by omega, by omega⟩
      rw [Int.toNat_natCast, Int.toNat_natCast, show (⟨#[120]⟩ : ByteArray).data.toList = tagX from rfl] at C
      have C2 := Lib.hid C
      clear C
      generalize twoN tagX s k = z at *
      go_wp2_with fail
      refine (C2.out _).mono ?_
      rintro e w' ⟨rfl, rfl⟩
      go_wp2_with (at_builtin; refine wpList_append_lies _ rfl _ _ _ rfl w1.heap.size 24 i0 _ 1 8 Try.underlying56 hi0 hz0 hz1 hz2 rfl (by omega) p k (u64L (leafL s k)) rfl (hown.alloc _) ⟨wr.heap.size, 0, none⟩ 1 1 [.int .u64 (z : Int)] rfl rfl (World.news_of_block (cs := #[.int .u64 (z : Int)]) (t := 24) (fr := (0, 0)) (heap_alloc_new wr _)) (by simp [Value.oneCell']) (by omega) (by unfold maxLen; omega) (by omega) (by simp; omega) (wr.heap.size + 1) (by simp) ?_; intro gg cap w2 hown2 hgrow hat hlt2)
      have hb2 : Grew w1 w2 := (hbw.alloc hzs _).grown hgrow (by simp; omega) (fun g hg => own_base hown _ hg)
      go_wp2_with fail
      go_roundw
      case rel => exact ⟨k + 1, _, rfl, by omega, by go_num, by rw [HA.out, show u64L (leafL s k ++ [z]) = u64L (leafL s k) ++ [.int .u64 (z : Int)] by simp [u64L]]; exact hown2, hb2⟩
      case measure => simp [intOf]; omega
    · obtain rfl : k = n := by omega
      obtain ⟨A3, c3, rfl, hn1, hn3, hrd⟩ := own_rd hown
      have hll := leafL_length s k
      have hlb := leafL_lt s k
      obtain ⟨l, hl⟩ : ∃ l, leafL s k = l := ⟨_, rfl⟩
      rw [hl] at hrd hll hlb
      have HR := Lib.hid hrd
      have HB := Lib.hid hlb
      clear hlb hrd hown hl
      obtain ⟨i, hi⟩ : ∃ i : Nat, a % (k : Int) = i := ⟨(a % (k : Int)).toNat, by have := Int.emod_nonneg a (show (k : Int) ≠ 0 by omega); omega⟩
      obtain ⟨j, hj⟩ : ∃ i : Nat, b % (k : Int) = i := ⟨(b % (k : Int)).toNat, by have := Int.emod_nonneg b (show (k : Int) ≠ 0 by omega); omega⟩
      have hilt : i < k := by have := Int.emod_lt_of_pos a hn0; omega
      have hjlt : j < k := by have := Int.emod_lt_of_pos b hn0; omega
      go_wp2_with fail
      go_quiet (fail)
      go_wp2_with fail
      rw [hi, hj]
      clear hi hj
      subst hll
      have hR := rootN_lt l HB.out
      refine (root_ok A3 c3 wr.heap.size l (by omega) HOK.out HB.out _ (HR.out.drewN nq) (Nat.le_refl _)).mono ?_
      rintro e w3 ⟨rfl, hb3⟩
      have hPP := path_pow h hh8 l i HN.out.symm hilt
      have hPl := pathN_lt l i HB.out
      generalize rootN l = R at *
      have HR3 := Lib.hid ((HR.out.drewN nq).below hb3)
      go_wp2_with fail
      refine (path_ok A3 c3 wr.heap.size l i hilt (by omega) HOK.out HB.out _ HR3.out hb3.size).mono ?_
      rintro e w4 ⟨Ap, cp, rfl, hrp, _, hb4⟩
      generalize pathN l i = P at *
      have hbb : Grew w w4 := grew_trans hb1 (grew_trans (grew_drewN hbw nq) (grew_trans hb3 hb4))
      have hr4 := HR3.out.below (hb4.mono hb3.size)
      obtain ⟨ad, rfl, hbl, hc⟩ := rd_u64 hr4 i hilt
      have hx := HB.out _ (List.getElem_mem hilt)
      rw [getD_lt l i hilt] at hPP
      generalize l[i] = x at *
      have V1 : verN R x (i : Int) P = true := by
        rw [verN_yes (by rw [hPP.1]; have := HN.out; refine ⟨hh8, by omega, ?_⟩; rw [show (2 : Int) ^ h = ((2 ^ h : Nat) : Int) by simp]; omega), Int.toNat_natCast, hPP.2]
        simp
      have V3 : verN R x ((i : Int) + (l.length : Int)) P = false := by
        apply verN_no
        rw [hPP.1, show (2 : Int) ^ h = ((2 ^ h : Nat) : Int) by simp, HN.out]
        omega
      have V2 : verN R x (j : Int) P = (climbN x j P == R) := by
        rw [verN_yes (by rw [hPP.1]; have := HN.out; refine ⟨hh8, by omega, ?_⟩; rw [show (2 : Int) ^ h = ((2 ^ h : Nat) : Int) by simp]; omega), Int.toNat_natCast]
      have hy := climbN_lt P x j hx
      have CC := Lib.hid (fun W h => climb_any x j Ap cp w4.heap.size P (by omega) (by omega) hx hPl W h)
      have hlenP : (P.length : Int) = (h : Int) := by omega
      have hlenP2 : P.length ≤ 8 := by omega
      have VV := Lib.hid (fun (t : Int) W h1 h => ver_any R x t Ap cp w4.heap.size P (by omega) h1 hx hPl W h)
      have HRP := Lib.hid hrp
      have i1 : IntKind.i64.wrap ((i : Int) + (l.length : Int)) = (i : Int) + (l.length : Int) := IntWalk.i64_in _ (by omega)
      have i2 : (0 : Int) ≤ (i : Int) := by omega
      have i3 : (i : Int) < (l.length : Int) := by omega
      clear hPP hPl hrp hr4
      generalize climbN x j P = y at *
      by_cases he : y = R
      · subst he
        rw [show (y == y) = true by simp] at V2
        go_wp2_with fail
        go_quiet (first
          | (go_at_call 39; exact quietL (VV.out _ _ (by omega) (HRP.out.drewN _)))
          | (go_at_call 37; exact quietL (CC.out _ (HRP.out.drewN _))))
        go_wp2_with fail
        go_ret
        exact ⟨rfl, grew_drewN hbb _⟩
      · have hf : ((y : Int) == (R : Int)) = false := by rw [beq_eq_false_iff_ne]; omega
        rw [show (y == R) = false by simpa using he] at V2
        go_wp2_with fail
        go_quiet (first
          | (go_at_call 39; exact quietL (VV.out _ _ (by omega) (HRP.out.drewN _)))
          | (go_at_call 37; exact quietL (CC.out _ (HRP.out.drewN _))))
        go_wp2_with fail
        go_ret
        exact ⟨rfl, grew_drewN hbb _⟩
end Go.Proofs.Ytlhjkgohojcbpaa
