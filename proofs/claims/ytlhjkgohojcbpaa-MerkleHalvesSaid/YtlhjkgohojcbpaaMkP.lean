/- The statements of layer 4: MerkleHalves. -/
import Derived.Test.YtlhjkgohojcbpaaMkN
import Derived.Deep.QuietTactic
import Derived.BigQuiet
import Derived.IntWalk
namespace Go.Proofs.Ytlhjkgohojcbpaa
open Go.RowKit
set_option linter.unusedVariables false
set_option maxRecDepth 100000 in
set_option maxHeartbeats 1600000 in
theorem merkleHalves_law (s : Nat) (ht : Int) (w : World) (hs : s < 18446744073709551616) (h0 : 0 ≤ ht ∧ ht ≤ 255) :
    Calls Try.prog 11 #[.int .u64 s, .int .u8 ht] w fun e w' => e = .returned (.bool true) ∧ Grew w w' := by
  obtain ⟨i0, hi0, hz0, hz1, hz2⟩ := info_parts infoD
  obtain ⟨m, hm⟩ : ∃ m : Nat, ht % 8 = m := ⟨(ht % 8).toNat, by omega⟩
  have hm8 : m ≤ 7 := by omega
  obtain ⟨h, hh⟩ : ∃ h : Nat, 1 + (m : Int) = h := ⟨m + 1, by omega⟩
  have hh8 : h ≤ 8 := by omega
  obtain ⟨n, hn⟩ : ∃ n : Nat, 2 ^ h = n := ⟨_, rfl⟩
  have hn2 := pow_nat8 h hh8
  have hok := leavesOk_pow h hh8
  rw [hn] at hn2 hok
  have hpw : wrap64 (2 ^ h) = (n : Int) := by
    have : (2 : Int) ^ h = (n : Int) := by rw [← hn]; simp
    rw [this]; unfold wrap64; omega
  have hhm : h = m + 1 := by omega
  have hnm : n = 2 * 2 ^ m := by rw [← hn, hhm, Nat.pow_succ]; omega
  have hpm := pow_nat8 m (by omega)
  have hok2 := leavesOk_pow m (by omega)
  have HOK := Lib.hid hok
  have HOK2 := Lib.hid hok2
  have HN := Lib.hid hn
  have HM := Lib.hid hhm
  obtain ⟨q, hq⟩ : ∃ q : Nat, 2 ^ m = q := ⟨_, rfl⟩
  rw [hq] at hnm hpm HOK2
  have HQ := Lib.hid hq
  have hnq : (n : Int) / 2 = (q : Int) := by omega
  have HNQ := Lib.hid hnm
  clear hok hok2 hn hhm hnm hq
  have hn0 : (0 : Int) < (n : Int) := by omega
  go_enter Try.func11, Try.ntmps11
  go_wp2_with (refine (mkknown_any _).mono ?_; rintro e w1 ⟨rfl, hb1⟩)
  rw [hpw, hm]
  have HH := Lib.hid hh
  have HMM := Lib.hid hm
  have HPW := Lib.hid hpw
  have HNQ2 := Lib.hid hnq
  clear hh hpw hm hnq
  go_loopw [6, 7] (fun pv iv wr => ∃ (k : Nat) (p : Value), p = pv ∧ k ≤ n ∧ iv = .int .i64 k ∧ wr.ownsRow w1.heap.size 24 1 p k (u64L (leafL s k)) ∧ Grew w1 wr) (fun _ iv _ => n - (intOf iv).toNat)
  case atStart => exact ⟨0, _, rfl, Nat.zero_le _, rfl, World.ownsRow_nil _ _ _ _, Below.refl _ _⟩
  case round =>
    obtain ⟨k, p, hp, hk, rfl, hown, hbw⟩ := hrel
    subst hp
    by_cases hlt : k < n
    · have hzs := hbw.size
      have HA := Lib.hid (leafL_succ s k)
      have C := two_any ⟨#[120]⟩ (s : Int) (k : Int) (by decide) (u64_nat hs) ⟨by omega, by omega⟩
      rw [Int.toNat_natCast, Int.toNat_natCast, show (⟨#[120]⟩ : ByteArray).data.toList = tagX from rfl] at C
      have C2 := Lib.hid C
      clear C
      generalize twoN tagX s k = z at *
      go_wp2_with fail
      refine (C2.out _).mono ?_
      rintro e w' ⟨rfl, rfl⟩
      go_wp2_with (at_builtin; refine wpList_append_lies _ rfl _ _ _ rfl w1.heap.size 24 i0 _ 1 8 Try.underlying56 hi0 hz0 hz1 hz2 rfl (by omega) p k (u64L (leafL s k)) rfl (hown.alloc _) ⟨wr.heap.size, 0, none⟩ 1 1 [.int .u64 (z : Int)] rfl rfl (World.news_of_block (cs := #[.int .u64 (z : Int)]) (t := 24) (fr := (0, 0)) (heap_alloc_new wr _)) (by simp [Value.oneCell']) (by omega) (by unfold maxLen; omega) (by omega) (by simp; omega) (wr.heap.size + 1) (by simp) ?_; intro gg cap w2 hown2 hgrow hat hlt2)
      have hb2 : Grew w1 w2 := (hbw.alloc hzs _).grown hgrow (by simp; omega) (fun g hg => own_base hown _ hg)
      go_wp2_with fail
      go_roundw
      case rel => exact ⟨k + 1, _, rfl, by omega, by go_num, by rw [HA.out, show u64L (leafL s k ++ [z]) = u64L (leafL s k) ++ [.int .u64 (z : Int)] by simp [u64L]]; exact hown2, hb2⟩
      case measure => simp [intOf]; omega
    · obtain rfl : k = n := by omega
      obtain ⟨A3, c3, rfl, hn1, hn3, hrd⟩ := own_rd hown
      have hll := leafL_length s k
      have hlb := leafL_lt s k
      obtain ⟨l, hl⟩ : ∃ l, leafL s k = l := ⟨_, rfl⟩
      rw [hl] at hrd hll hlb
      have hnq := HNQ2.out
      have hq0 : (0 : Int) ≤ (q : Int) := by omega
      have hq1 : (q : Int) ≤ (k : Int) := by omega
      have hq2 : q < c3 := by have := HNQ.out; omega
      have hq3 : q < k := by have := HNQ.out; omega
      have hq4 : q ≤ k := by omega
      have hq5 : q ≤ c3 := by omega
      obtain ⟨ad, rfl, hbl, hc0⟩ := rd_u64 hrd 0 (by omega)
      have HR := Lib.hid hrd
      have HB := Lib.hid hlb
      clear hlb hrd hown hl hc0
      have htl : (l.take q).length = q := by rw [List.length_take]; omega
      have hdl : (l.drop q).length = k - q := by rw [List.length_drop]; omega
      have hkq : k - q = q := by have := HNQ.out; omega
      have HKQ := Lib.hid hkq
      clear hkq
      have T1 := fun W h1 h2 h3 h4 => root_ok (some ad) c3 wr.heap.size (l.take q) h1 h2 (fun n hn => HB.out n (List.mem_of_mem_take hn)) W h3 h4
      have T2 := fun (c : Nat) W h1 h2 h3 h4 => root_ok (some (ad.add q)) c wr.heap.size (l.drop q) h1 h2 (fun n hn => HB.out n (List.mem_of_mem_drop hn)) W h3 h4
      have T3 := fun W h1 h2 h3 h4 => root_ok (some ad) c3 wr.heap.size l h1 h2 HB.out W h3 h4
      have T4 := fun W h0 h1 h2 h3 h4 => path_ok (some ad) c3 wr.heap.size l 0 h0 h1 h2 HB.out W h3 h4
      rw [htl] at T1
      rw [hdl] at T2
      rw [hll] at T3 T4
      have T1 := Lib.hid T1
      have T2 := Lib.hid T2
      have T3 := Lib.hid T3
      have T4 := Lib.hid T4
      go_wp2_with fail
      refine (T1.out _ (by omega) HOK2.out (HR.out.take_ q) (Nat.le_refl _)).mono ?_
      rintro e w2 ⟨rfl, hb2⟩
      have HR2 := Lib.hid (HR.out.below hb2)
      go_wp2_with fail
      refine (T2.out _ _ (by omega) (by rw [HKQ.out]; exact HOK2.out) (HR2.out.drop_ q) hb2.size).mono ?_
      rintro e w3 ⟨rfl, hb3⟩
      have hb23 := grew_trans hb2 hb3
      have HR3 := Lib.hid (HR.out.below hb23)
      go_wp2_with fail
      refine (T3.out _ (by omega) HOK.out HR3.out hb23.size).mono ?_
      rintro e w4 ⟨rfl, hb4⟩
      have hb24 := grew_trans hb23 hb4
      have HR4 := Lib.hid (HR.out.below hb24)
      go_wp2_with fail
      refine (T4.out _ (by omega) (by omega) HOK.out HR4.out hb24.size).mono ?_
      rintro e w5 ⟨Ap, cp, rfl, hrp, _, hb5⟩
      have hbb : Grew w w5 := grew_trans hb1 (grew_trans hbw (grew_trans hb24 hb5))
      have hV := halves m hm8 l (by rw [hll, ← HN.out, HM.out])
      rw [HQ.out] at hV
      have hxa := rootN_lt (l.take q) (fun n hn => HB.out n (List.mem_of_mem_take hn))
      have hxb := rootN_lt (l.drop q) (fun n hn => HB.out n (List.mem_of_mem_drop hn))
      have hr5 := HR4.out.below (hb5.mono hb24.size)
      obtain ⟨ad1, had1, _, hc1⟩ := rd_u64 hr5 1 (by omega)
      injection had1 with had1
      subst had1
      rw [getD_lt l 1 (by omega)] at hV
      generalize l[1] = y at *
      generalize rootN (l.take q) = xa at *
      generalize rootN (l.drop q) = xb at *
      generalize rootN l = R at *
      generalize pathN l 0 = P at *
      obtain ⟨v1, v2, v3, v4⟩ := hV
      obtain ⟨adp, rfl, _, hcp⟩ := rd_u64 hrp m (by omega)
      obtain ⟨adq, hadq, _, hcq⟩ := rd_u64 hrp 0 (by omega)
      injection hadq with hadq
      subst hadq
      rw [← getD_lt P m (by omega), v3] at hcp
      rw [← getD_lt P 0 (by omega), v4] at hcq
      have hcq : w5.cell? adp = some (.int .u64 (y : Int)) := by simpa [Addr.add] using hcq
      rw [addr_add1] at hc1
      have CT := two_any ⟨#[109, 116]⟩ (xa : Int) (xb : Int) (by decide) (u64_nat hxa) (u64_nat hxb)
      rw [Int.toNat_natCast, Int.toNat_natCast, show (⟨#[109, 116]⟩ : ByteArray).data.toList = tagMt from rfl, ← v1] at CT
      have CT2 := Lib.hid CT
      have i1 : IntKind.i64.wrap ((P.length : Int) - 1) = (m : Int) := by rw [IntWalk.i64_in _ (by omega)]; omega
      have i2 : (0 : Int) ≤ (m : Int) := by omega
      have i3 : (m : Int) < (P.length : Int) := by omega
      have i4 : (0 : Int) < (P.length : Int) := by omega
      have i5 : ¬ (P.length : Int) < 1 := by omega
      have i6 : (1 : Int) < (k : Int) := by omega
      have i7 : 1 ≤ P.length := by omega
      have i8 : 1 < k := by omega
      clear v1 v2 v3 v4 hrp hr5 CT
      go_wp2_with fail
      go_quiet ((go_at_call 27; exact quietL (CT2.out _)))
      go_wp2_with fail
      go_ret
      exact ⟨rfl, grew_drewN hbb _⟩
end Go.Proofs.Ytlhjkgohojcbpaa
