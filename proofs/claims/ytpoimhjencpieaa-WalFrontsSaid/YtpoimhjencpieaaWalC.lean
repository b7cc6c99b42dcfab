/- Contracts of package wal, at int: falls, trimming. -/
import Derived.Test.YtpoimhjencpieaaWalB
namespace Go.Proofs.Ytpoimhjencpieaa
open Go.RowKit
set_option linter.unusedVariables false
theorem zero_int (w : World) : (zeroValue 3).run Try.prog w = .ok (.int .i64 0) w := by kernel_rfl
theorem bk_setCells {g : Nat} {t : TypeId} : ∀ (vs : List Value) (o : Nat) (w : World) (cur : Array Value), Bk w g t cur → ∃ cur', Bk (w.setCells g o vs) g t cur' ∧ cur'.size = cur.size ∧ cur'.toList.take o = cur.toList.take o
  | [], o, w, cur, h => ⟨cur, h, rfl, rfl⟩
  | v :: vs, o, w, cur, h => by
    obtain ⟨cur', h1, h2, h3⟩ := bk_setCells vs (o + 1) _ _ (h.set_ o v)
    refine ⟨cur', h1, by rw [h2, Array.size_setIfInBounds], ?_⟩
    have h4 := congrArg (List.take o) h3
    rw [List.take_take, List.take_take, Nat.min_eq_left (by omega), Array.toList_setIfInBounds, List.take_set_of_le (Nat.le_refl o)] at h4
    exact h4
theorem kp_setCells {S : Nat → Prop} {g : Nat} (hg : S g) : ∀ (vs : List Value) (o : Nat) (w : World), Kp S w (w.setCells g o vs)
  | [], o, w => kp_refl _ _
  | v :: vs, o, w => kp_trans (kp_set (p := ⟨g, o, none⟩) (kp_refl _ _) (.inl hg) v) (kp_setCells hg vs (o + 1) _)
theorem own_parts {w : World} {base : Nat} {e : TypeId} {n c : Nat} {ad : Addr} {xs : List Value} (h : w.ownsRow base e 1 (.slice (some ad) n c) n xs) : ∃ g, ad = ⟨g, 0, none⟩ ∧ base ≤ g ∧ ∃ cur, Bk w g e cur ∧ n ≤ c ∧ c ≤ maxLen ∧ cur.size = c ∧ cur.toList.take n = xs := by
  obtain ⟨_, hq | ⟨g2, cap2, cur, hq, hg2, hbk, hk2, hm, hcs, htk⟩⟩ := h
  · cases hq.1
  · injection hq with hq1 hq2 hq3
    injection hq1 with hq1
    subst hq3
    exact ⟨g2, hq1, hg2, cur, hbk, hk2, hm, by rw [hcs, Nat.mul_one], by rw [← htk, Nat.mul_one]⟩
theorem own_mk {w : World} {base : Nat} {e : TypeId} {n c g : Nat} {cur : Array Value} {xs : List Value} (hg : base ≤ g) (hb : Bk w g e cur) (h1 : n ≤ c) (h2 : c ≤ maxLen) (h3 : cur.size = c) (h4 : cur.toList.take n = xs) : w.ownsRow base e 1 (.slice (some ⟨g, 0, none⟩) n c) n xs := by
  refine ⟨?_, .inr ⟨g, c, cur, rfl, hg, hb, h1, h2, by omega, by rw [Nat.mul_one]; exact h4⟩⟩
  rw [← h4, List.length_take, Array.length_toList]; omega
theorem run_clear_zero {P : Program} (w : World) (t e ty : TypeId) (A : Option Addr) (c : Nat) (ht : P.underlying t = some (.slice e)) (hv : ∀ w, (zeroValue e).run P w = .ok (.int .i64 0) w) :
    (Builtin.clear_ #[t] ty #[.slice A 0 c]).run P w = .ok (.tuple #[]) w := by
  cases A <;> simp [Builtin.clear_, run_underlying ht]
/-- how many records stay -/
def keptN (sy n : Nat) (keep : Int) : Nat := sy + min keep.toNat (n - sy)
set_option maxRecDepth 100000 in
set_option maxHeartbeats 1600000 in
theorem wcrash_a (base g room sy : Nat) (ad : Addr) (c : Nat) (l : List Int) (keep : Int) (K : Nat) (hi64 : -9223372036854775808 ≤ keep ∧ keep ≤ 9223372036854775807) (hk : keep < 0) (hK : K = sy) (w : World) (h : WalS w base g room sy (some ad) c l) :
    Calls Try.prog 47 #[.pointer (some ⟨g, 0, none⟩), .int .i64 keep] w (WRet (.tuple #[]) w base g room (some ad) K (l.take K)) := by
  have hc1 : w.cell? ⟨g, 1, none⟩ = some (.int .i64 sy) := h.bk.cell 1
  have hc2 : w.cell? ⟨g, 2, none⟩ = some (.slice (some ad) l.length c) := h.bk.cell 2
  have h1 := h.sy
  have h2 := h.le
  have h3 := h.rm
  have hne := h.ne ad rfl
  obtain ⟨b, rfl, hbl, cur, hbk, hnc, hcm, hcs, htk⟩ := own_parts h.own
  have C0 := fun n => wwaits_any base g room sy _ c l _ (h.drewN n)
  obtain ⟨d, hdd⟩ : ∃ d : Int, (l.length : Int) - (sy : Int) = d := ⟨_, rfl⟩
  rw [hdd] at C0
  have C := Lib.hid C0
  have HS := Lib.hid h
  have HT := Lib.hid htk
  have HC := Lib.hid hcs
  have hd0 : 0 ≤ d := by omega
  have hd1 : d ≤ 65536 := by omega
  have HD := Lib.hid hdd
  have hm1 : ¬ 0 ≤ keep := by omega
  have hs1 : IntKind.i64.wrap ((sy : Int) + 0) = (K : Int) := by rw [IntWalk.i64_in _ (by omega)]; omega
  have hs2 : IntKind.i64.wrap (sy : Int) = (K : Int) := by rw [IntWalk.i64_in _ (by omega)]; omega
  have hkl : K ≤ l.length := by omega
  have hsk : sy ≤ K := by omega
  clear h htk hcs C0 hdd hK
  go_enter Try.func47, Try.ntmps47
  go_wp2_with fail
  go_quiet ((go_at_call 52; exact quietD (C.out _)))
  have hbk' : Bk (w.drewN nq) b 3 cur := hbk
  have hbg' : Bk (w.drewN nq) g 122 (walC room sy (.slice (some ⟨b, 0, none⟩) l.length c)) := HS.out.bk
  have hbne : b ≠ g := hne
  have hlk : (l.take K).length = K := by rw [List.length_take]; omega
  by_cases hz : K < l.length
  · have hkc : K < c := by omega
    have hkl2 : K ≤ c := by omega
    have hclr := fun ty => Lib.run_clear_slice (P := Try.prog) (w.drewN nq) 22 3 ty (.int .i64 0) Try.underlying22 zero_int rfl rfl b K (l.length - K) (c - K) (by omega)
      (fun j hj => by rw [hbk'.cell, Array.getElem?_eq_getElem (by have := HC.out; omega)]; rfl) (fun j hj => hbk'.frozen _)
    obtain ⟨cur', hb1, hs1', ht1⟩ := bk_setCells (List.replicate (l.length - K) (.int .i64 0)) K (w.drewN nq) cur hbk'
    have k1 : Kp (fun i => i = b) (w.drewN nq) ((w.drewN nq).setCells b K (List.replicate (l.length - K) (.int .i64 0))) := kp_setCells (S := fun i => i = b) rfl _ _ _
    have hbg1 := hbg'.kp k1 (fun e => hbne e.symm)
    have hq2 := (show _ = some (Value.slice (some ⟨b, 0, none⟩) l.length c) from hbg1.cell 2)
    have hqf := hbg1.frozen 2
    generalize (w.drewN nq).setCells b K (List.replicate (l.length - K) (.int .i64 0)) = w1 at *
    have KK := Lib.hid k1
    have H1 := Lib.hid hb1
    have H2 := Lib.hid hs1'
    have H3 := Lib.hid ht1
    clear k1 hb1 hs1' ht1
    go_wp2_with fail
    have k2 : Kp (fun i => i = g) w1 (w1.setCell ⟨g, 2, none⟩ (.slice (some ⟨b, 0, none⟩) K c)) := kp_set (S := fun i => i = g) (p := ⟨g, 2, none⟩) (kp_refl _ _) (.inl rfl) _
    have hs2 : WalS (w1.setCell ⟨g, 2, none⟩ (.slice (some ⟨b, 0, none⟩) K c)) base g room sy (some ⟨b, 0, none⟩) c (l.take K) := by
      refine ⟨?_, ?_, ?_, HS.out.lo, ?_, ?_, h3⟩
      · rw [hlk]; exact hbg1.set_ 2 _
      · rw [hlk]
        refine own_mk hbl (H1.out.kp k2 hbne) (by omega) hcm (by rw [H2.out, HC.out]) ?_
        rw [H3.out, i64L_take, ← HT.out, List.take_take, Nat.min_eq_left (by omega)]
      · intro ad had; injection had with had; subst had; exact hbne
      · rw [hlk]; omega
      · rw [hlk]; omega
    have C3 := wsync_any base g room sy _ c (l.take K) _ hs2
    rw [hlk] at C3
    have C4 := Lib.hid C3
    clear C3
    refine C4.out.mono ?_
    rintro e w4 ⟨rfl, hs4, k4⟩
    go_wp2_with fail
    go_end0
    have kA : Kp (WN g (some ⟨b, 0, none⟩)) w w1 := kp_undrewN (n := nq) (kp_then (kp_refl _ _) KK.out (fun i hi => .inl (.inr ⟨_, rfl, hi.symm⟩)))
    refine ⟨rfl, some ⟨b, 0, none⟩, c, hs4, kp_trans kA (kp_trans (kp_mono k2 (fun i hi => .inl hi)) k4), fun i hi => .inl hi⟩
  · have hK0 : l.length - K = 0 := by omega
    have hq2 := (show _ = some (Value.slice (some ⟨b, 0, none⟩) l.length c) from hbg'.cell 2)
    have hqf := hbg'.frozen 2
    obtain ⟨cur2, hb1, hs1', ht1⟩ : ∃ cur2, Bk (w.drewN nq) b 3 cur2 ∧ cur2.size = cur.size ∧ cur2.toList.take K = cur.toList.take K := ⟨cur, hbk', rfl, rfl⟩
    have H1 := Lib.hid hb1
    have H2 := Lib.hid hs1'
    have H3 := Lib.hid ht1
    clear hb1 hs1' ht1
    have KK := Lib.hid (kp_refl (fun i => i = b) (w.drewN nq))
    have hbg1 := hbg'
    have hclr := fun W A c => run_clear_zero (P := Try.prog) W 22 3 0 A c Try.underlying22 zero_int
    by_cases hc : K < c
    · have hkl2 : K ≤ c := by omega
      go_wp2_with fail
      have k2 : Kp (fun i => i = g) (w.drewN nq) ((w.drewN nq).setCell ⟨g, 2, none⟩ (.slice (some ⟨b, 0, none⟩) K c)) := kp_set (S := fun i => i = g) (p := ⟨g, 2, none⟩) (kp_refl _ _) (.inl rfl) _
      have hs2 : WalS ((w.drewN nq).setCell ⟨g, 2, none⟩ (.slice (some ⟨b, 0, none⟩) K c)) base g room sy (some ⟨b, 0, none⟩) c (l.take K) := by
        refine ⟨?_, ?_, ?_, HS.out.lo, ?_, ?_, h3⟩
        · rw [hlk]; exact hbg1.set_ 2 _
        · rw [hlk]
          refine own_mk hbl (H1.out.kp k2 hbne) (by omega) hcm (by rw [H2.out, HC.out]) ?_
          rw [H3.out, i64L_take, ← HT.out, List.take_take, Nat.min_eq_left (by omega)]
        · intro ad had; injection had with had; subst had; exact hbne
        · rw [hlk]; omega
        · rw [hlk]; omega
      have C3 := wsync_any base g room sy _ c (l.take K) _ hs2
      rw [hlk] at C3
      have C4 := Lib.hid C3
      clear C3
      refine C4.out.mono ?_
      rintro e w4 ⟨rfl, hs4, k4⟩
      go_wp2_with fail
      go_end0
      have kA : Kp (WN g (some ⟨b, 0, none⟩)) w (w.drewN nq) := kp_undrewN (n := nq) (kp_then (kp_refl _ _) KK.out (fun i hi => .inl (.inr ⟨_, rfl, hi.symm⟩)))
      refine ⟨rfl, some ⟨b, 0, none⟩, c, hs4, kp_trans kA (kp_trans (kp_mono k2 (fun i hi => .inl hi)) k4), fun i hi => .inl hi⟩
    · have hkl2 : K ≤ c := by omega
      go_wp2_with fail
      have k2 : Kp (fun i => i = g) (w.drewN nq) ((w.drewN nq).setCell ⟨g, 2, none⟩ (.slice (some ⟨b, 0, none⟩) K c)) := kp_set (S := fun i => i = g) (p := ⟨g, 2, none⟩) (kp_refl _ _) (.inl rfl) _
      have hs2 : WalS ((w.drewN nq).setCell ⟨g, 2, none⟩ (.slice (some ⟨b, 0, none⟩) K c)) base g room sy (some ⟨b, 0, none⟩) c (l.take K) := by
        refine ⟨?_, ?_, ?_, HS.out.lo, ?_, ?_, h3⟩
        · rw [hlk]; exact hbg1.set_ 2 _
        · rw [hlk]
          refine own_mk hbl (H1.out.kp k2 hbne) (by omega) hcm (by rw [H2.out, HC.out]) ?_
          rw [H3.out, i64L_take, ← HT.out, List.take_take, Nat.min_eq_left (by omega)]
        · intro ad had; injection had with had; subst had; exact hbne
        · rw [hlk]; omega
        · rw [hlk]; omega
      have C3 := wsync_any base g room sy _ c (l.take K) _ hs2
      rw [hlk] at C3
      have C4 := Lib.hid C3
      clear C3
      refine C4.out.mono ?_
      rintro e w4 ⟨rfl, hs4, k4⟩
      go_wp2_with fail
      go_end0
      have kA : Kp (WN g (some ⟨b, 0, none⟩)) w (w.drewN nq) := kp_undrewN (n := nq) (kp_then (kp_refl _ _) KK.out (fun i hi => .inl (.inr ⟨_, rfl, hi.symm⟩)))
      refine ⟨rfl, some ⟨b, 0, none⟩, c, hs4, kp_trans kA (kp_trans (kp_mono k2 (fun i hi => .inl hi)) k4), fun i hi => .inl hi⟩
set_option maxRecDepth 100000 in
set_option maxHeartbeats 1600000 in
theorem wcrash_b (base g room sy : Nat) (ad : Addr) (c : Nat) (l : List Int) (keep : Int) (K : Nat) (hi64 : -9223372036854775808 ≤ keep ∧ keep ≤ 9223372036854775807) (hk : 0 ≤ keep ∧ keep ≤ (l.length : Int) - sy) (hK : (K : Int) = sy + keep) (w : World) (h : WalS w base g room sy (some ad) c l) :
    Calls Try.prog 47 #[.pointer (some ⟨g, 0, none⟩), .int .i64 keep] w (WRet (.tuple #[]) w base g room (some ad) K (l.take K)) := by
  have hc1 : w.cell? ⟨g, 1, none⟩ = some (.int .i64 sy) := h.bk.cell 1
  have hc2 : w.cell? ⟨g, 2, none⟩ = some (.slice (some ad) l.length c) := h.bk.cell 2
  have h1 := h.sy
  have h2 := h.le
  have h3 := h.rm
  have hne := h.ne ad rfl
  obtain ⟨b, rfl, hbl, cur, hbk, hnc, hcm, hcs, htk⟩ := own_parts h.own
  have C0 := fun n => wwaits_any base g room sy _ c l _ (h.drewN n)
  obtain ⟨d, hdd⟩ : ∃ d : Int, (l.length : Int) - (sy : Int) = d := ⟨_, rfl⟩
  rw [hdd] at C0
  have C := Lib.hid C0
  have HS := Lib.hid h
  have HT := Lib.hid htk
  have HC := Lib.hid hcs
  have hd0 : 0 ≤ d := by omega
  have hd1 : d ≤ 65536 := by omega
  have HD := Lib.hid hdd
  have hm1 : 0 ≤ keep := hk.1
  have hm2 : keep ≤ d := by omega
  have hs1 : IntKind.i64.wrap ((sy : Int) + keep) = (K : Int) := by rw [IntWalk.i64_in _ (by omega)]; omega
  have hkl : K ≤ l.length := by omega
  have hsk : sy ≤ K := by omega
  clear h htk hcs C0 hdd hK
  go_enter Try.func47, Try.ntmps47
  go_wp2_with fail
  go_quiet ((go_at_call 52; exact quietD (C.out _)))
  have hbk' : Bk (w.drewN nq) b 3 cur := hbk
  have hbg' : Bk (w.drewN nq) g 122 (walC room sy (.slice (some ⟨b, 0, none⟩) l.length c)) := HS.out.bk
  have hbne : b ≠ g := hne
  have hlk : (l.take K).length = K := by rw [List.length_take]; omega
  by_cases hz : K < l.length
  · have hkc : K < c := by omega
    have hkl2 : K ≤ c := by omega
    have hclr := fun ty => Lib.run_clear_slice (P := Try.prog) (w.drewN nq) 22 3 ty (.int .i64 0) Try.underlying22 zero_int rfl rfl b K (l.length - K) (c - K) (by omega)
      (fun j hj => by rw [hbk'.cell, Array.getElem?_eq_getElem (by have := HC.out; omega)]; rfl) (fun j hj => hbk'.frozen _)
    obtain ⟨cur', hb1, hs1', ht1⟩ := bk_setCells (List.replicate (l.length - K) (.int .i64 0)) K (w.drewN nq) cur hbk'
    have k1 : Kp (fun i => i = b) (w.drewN nq) ((w.drewN nq).setCells b K (List.replicate (l.length - K) (.int .i64 0))) := kp_setCells (S := fun i => i = b) rfl _ _ _
    have hbg1 := hbg'.kp k1 (fun e => hbne e.symm)
    have hq2 := (show _ = some (Value.slice (some ⟨b, 0, none⟩) l.length c) from hbg1.cell 2)
    have hqf := hbg1.frozen 2
    generalize (w.drewN nq).setCells b K (List.replicate (l.length - K) (.int .i64 0)) = w1 at *
    have KK := Lib.hid k1
    have H1 := Lib.hid hb1
    have H2 := Lib.hid hs1'
    have H3 := Lib.hid ht1
    clear k1 hb1 hs1' ht1
    go_wp2_with fail
    have k2 : Kp (fun i => i = g) w1 (w1.setCell ⟨g, 2, none⟩ (.slice (some ⟨b, 0, none⟩) K c)) := kp_set (S := fun i => i = g) (p := ⟨g, 2, none⟩) (kp_refl _ _) (.inl rfl) _
    have hs2 : WalS (w1.setCell ⟨g, 2, none⟩ (.slice (some ⟨b, 0, none⟩) K c)) base g room sy (some ⟨b, 0, none⟩) c (l.take K) := by
      refine ⟨?_, ?_, ?_, HS.out.lo, ?_, ?_, h3⟩
      · rw [hlk]; exact hbg1.set_ 2 _
      · rw [hlk]
        refine own_mk hbl (H1.out.kp k2 hbne) (by omega) hcm (by rw [H2.out, HC.out]) ?_
        rw [H3.out, i64L_take, ← HT.out, List.take_take, Nat.min_eq_left (by omega)]
      · intro ad had; injection had with had; subst had; exact hbne
      · rw [hlk]; omega
      · rw [hlk]; omega
    have C3 := wsync_any base g room sy _ c (l.take K) _ hs2
    rw [hlk] at C3
    have C4 := Lib.hid C3
    clear C3
    refine C4.out.mono ?_
    rintro e w4 ⟨rfl, hs4, k4⟩
    go_wp2_with fail
    go_end0
    have kA : Kp (WN g (some ⟨b, 0, none⟩)) w w1 := kp_undrewN (n := nq) (kp_then (kp_refl _ _) KK.out (fun i hi => .inl (.inr ⟨_, rfl, hi.symm⟩)))
    refine ⟨rfl, some ⟨b, 0, none⟩, c, hs4, kp_trans kA (kp_trans (kp_mono k2 (fun i hi => .inl hi)) k4), fun i hi => .inl hi⟩
  · have hK0 : l.length - K = 0 := by omega
    have hq2 := (show _ = some (Value.slice (some ⟨b, 0, none⟩) l.length c) from hbg'.cell 2)
    have hqf := hbg'.frozen 2
    obtain ⟨cur2, hb1, hs1', ht1⟩ : ∃ cur2, Bk (w.drewN nq) b 3 cur2 ∧ cur2.size = cur.size ∧ cur2.toList.take K = cur.toList.take K := ⟨cur, hbk', rfl, rfl⟩
    have H1 := Lib.hid hb1
    have H2 := Lib.hid hs1'
    have H3 := Lib.hid ht1
    clear hb1 hs1' ht1
    have KK := Lib.hid (kp_refl (fun i => i = b) (w.drewN nq))
    have hbg1 := hbg'
    have hclr := fun W A c => run_clear_zero (P := Try.prog) W 22 3 0 A c Try.underlying22 zero_int
    by_cases hc : K < c
    · have hkl2 : K ≤ c := by omega
      go_wp2_with fail
      have k2 : Kp (fun i => i = g) (w.drewN nq) ((w.drewN nq).setCell ⟨g, 2, none⟩ (.slice (some ⟨b, 0, none⟩) K c)) := kp_set (S := fun i => i = g) (p := ⟨g, 2, none⟩) (kp_refl _ _) (.inl rfl) _
      have hs2 : WalS ((w.drewN nq).setCell ⟨g, 2, none⟩ (.slice (some ⟨b, 0, none⟩) K c)) base g room sy (some ⟨b, 0, none⟩) c (l.take K) := by
        refine ⟨?_, ?_, ?_, HS.out.lo, ?_, ?_, h3⟩
        · rw [hlk]; exact hbg1.set_ 2 _
        · rw [hlk]
          refine own_mk hbl (H1.out.kp k2 hbne) (by omega) hcm (by rw [H2.out, HC.out]) ?_
          rw [H3.out, i64L_take, ← HT.out, List.take_take, Nat.min_eq_left (by omega)]
        · intro ad had; injection had with had; subst had; exact hbne
        · rw [hlk]; omega
        · rw [hlk]; omega
      have C3 := wsync_any base g room sy _ c (l.take K) _ hs2
      rw [hlk] at C3
      have C4 := Lib.hid C3
      clear C3
      refine C4.out.mono ?_
      rintro e w4 ⟨rfl, hs4, k4⟩
      go_wp2_with fail
      go_end0
      have kA : Kp (WN g (some ⟨b, 0, none⟩)) w (w.drewN nq) := kp_undrewN (n := nq) (kp_then (kp_refl _ _) KK.out (fun i hi => .inl (.inr ⟨_, rfl, hi.symm⟩)))
      refine ⟨rfl, some ⟨b, 0, none⟩, c, hs4, kp_trans kA (kp_trans (kp_mono k2 (fun i hi => .inl hi)) k4), fun i hi => .inl hi⟩
    · have hkl2 : K ≤ c := by omega
      go_wp2_with fail
      have k2 : Kp (fun i => i = g) (w.drewN nq) ((w.drewN nq).setCell ⟨g, 2, none⟩ (.slice (some ⟨b, 0, none⟩) K c)) := kp_set (S := fun i => i = g) (p := ⟨g, 2, none⟩) (kp_refl _ _) (.inl rfl) _
      have hs2 : WalS ((w.drewN nq).setCell ⟨g, 2, none⟩ (.slice (some ⟨b, 0, none⟩) K c)) base g room sy (some ⟨b, 0, none⟩) c (l.take K) := by
        refine ⟨?_, ?_, ?_, HS.out.lo, ?_, ?_, h3⟩
        · rw [hlk]; exact hbg1.set_ 2 _
        · rw [hlk]
          refine own_mk hbl (H1.out.kp k2 hbne) (by omega) hcm (by rw [H2.out, HC.out]) ?_
          rw [H3.out, i64L_take, ← HT.out, List.take_take, Nat.min_eq_left (by omega)]
        · intro ad had; injection had with had; subst had; exact hbne
        · rw [hlk]; omega
        · rw [hlk]; omega
      have C3 := wsync_any base g room sy _ c (l.take K) _ hs2
      rw [hlk] at C3
      have C4 := Lib.hid C3
      clear C3
      refine C4.out.mono ?_
      rintro e w4 ⟨rfl, hs4, k4⟩
      go_wp2_with fail
      go_end0
      have kA : Kp (WN g (some ⟨b, 0, none⟩)) w (w.drewN nq) := kp_undrewN (n := nq) (kp_then (kp_refl _ _) KK.out (fun i hi => .inl (.inr ⟨_, rfl, hi.symm⟩)))
      refine ⟨rfl, some ⟨b, 0, none⟩, c, hs4, kp_trans kA (kp_trans (kp_mono k2 (fun i hi => .inl hi)) k4), fun i hi => .inl hi⟩
set_option maxRecDepth 100000 in
set_option maxHeartbeats 1600000 in
theorem wcrash_c (base g room sy : Nat) (ad : Addr) (c : Nat) (l : List Int) (keep : Int) (K : Nat) (hi64 : -9223372036854775808 ≤ keep ∧ keep ≤ 9223372036854775807) (hk : (l.length : Int) - sy < keep) (hK : K = l.length) (w : World) (h : WalS w base g room sy (some ad) c l) :
    Calls Try.prog 47 #[.pointer (some ⟨g, 0, none⟩), .int .i64 keep] w (WRet (.tuple #[]) w base g room (some ad) K (l.take K)) := by
  have hc1 : w.cell? ⟨g, 1, none⟩ = some (.int .i64 sy) := h.bk.cell 1
  have hc2 : w.cell? ⟨g, 2, none⟩ = some (.slice (some ad) l.length c) := h.bk.cell 2
  have h1 := h.sy
  have h2 := h.le
  have h3 := h.rm
  have hne := h.ne ad rfl
  obtain ⟨b, rfl, hbl, cur, hbk, hnc, hcm, hcs, htk⟩ := own_parts h.own
  have C0 := fun n => wwaits_any base g room sy _ c l _ (h.drewN n)
  obtain ⟨d, hdd⟩ : ∃ d : Int, (l.length : Int) - (sy : Int) = d := ⟨_, rfl⟩
  rw [hdd] at C0
  have C := Lib.hid C0
  have HS := Lib.hid h
  have HT := Lib.hid htk
  have HC := Lib.hid hcs
  have hd0 : 0 ≤ d := by omega
  have hd1 : d ≤ 65536 := by omega
  have HD := Lib.hid hdd
  have hm1 : 0 ≤ keep := by omega
  have hm2 : ¬ keep ≤ d := by omega
  have hs1 : IntKind.i64.wrap ((sy : Int) + d) = (K : Int) := by rw [IntWalk.i64_in _ (by omega)]; omega
  have hkl : K ≤ l.length := by omega
  have hsk : sy ≤ K := by omega
  clear h htk hcs C0 hdd hK
  go_enter Try.func47, Try.ntmps47
  go_wp2_with fail
  go_quiet ((go_at_call 52; exact quietD (C.out _)))
  have hbk' : Bk (w.drewN nq) b 3 cur := hbk
  have hbg' : Bk (w.drewN nq) g 122 (walC room sy (.slice (some ⟨b, 0, none⟩) l.length c)) := HS.out.bk
  have hbne : b ≠ g := hne
  have hlk : (l.take K).length = K := by rw [List.length_take]; omega
  by_cases hz : K < l.length
  · have hkc : K < c := by omega
    have hkl2 : K ≤ c := by omega
    have hclr := fun ty => Lib.run_clear_slice (P := Try.prog) (w.drewN nq) 22 3 ty (.int .i64 0) Try.underlying22 zero_int rfl rfl b K (l.length - K) (c - K) (by omega)
      (fun j hj => by rw [hbk'.cell, Array.getElem?_eq_getElem (by have := HC.out; omega)]; rfl) (fun j hj => hbk'.frozen _)
    obtain ⟨cur', hb1, hs1', ht1⟩ := bk_setCells (List.replicate (l.length - K) (.int .i64 0)) K (w.drewN nq) cur hbk'
    have k1 : Kp (fun i => i = b) (w.drewN nq) ((w.drewN nq).setCells b K (List.replicate (l.length - K) (.int .i64 0))) := kp_setCells (S := fun i => i = b) rfl _ _ _
    have hbg1 := hbg'.kp k1 (fun e => hbne e.symm)
    have hq2 := (show _ = some (Value.slice (some ⟨b, 0, none⟩) l.length c) from hbg1.cell 2)
    have hqf := hbg1.frozen 2
    generalize (w.drewN nq).setCells b K (List.replicate (l.length - K) (.int .i64 0)) = w1 at *
    have KK := Lib.hid k1
    have H1 := Lib.hid hb1
    have H2 := Lib.hid hs1'
    have H3 := Lib.hid ht1
    clear k1 hb1 hs1' ht1
    go_wp2_with fail
    have k2 : Kp (fun i => i = g) w1 (w1.setCell ⟨g, 2, none⟩ (.slice (some ⟨b, 0, none⟩) K c)) := kp_set (S := fun i => i = g) (p := ⟨g, 2, none⟩) (kp_refl _ _) (.inl rfl) _
    have hs2 : WalS (w1.setCell ⟨g, 2, none⟩ (.slice (some ⟨b, 0, none⟩) K c)) base g room sy (some ⟨b, 0, none⟩) c (l.take K) := by
      refine ⟨?_, ?_, ?_, HS.out.lo, ?_, ?_, h3⟩
      · rw [hlk]; exact hbg1.set_ 2 _
      · rw [hlk]
        refine own_mk hbl (H1.out.kp k2 hbne) (by omega) hcm (by rw [H2.out, HC.out]) ?_
        rw [H3.out, i64L_take, ← HT.out, List.take_take, Nat.min_eq_left (by omega)]
      · intro ad had; injection had with had; subst had; exact hbne
      · rw [hlk]; omega
      · rw [hlk]; omega
    have C3 := wsync_any base g room sy _ c (l.take K) _ hs2
    rw [hlk] at C3
    have C4 := Lib.hid C3
    clear C3
    refine C4.out.mono ?_
    rintro e w4 ⟨rfl, hs4, k4⟩
    go_wp2_with fail
    go_end0
    have kA : Kp (WN g (some ⟨b, 0, none⟩)) w w1 := kp_undrewN (n := nq) (kp_then (kp_refl _ _) KK.out (fun i hi => .inl (.inr ⟨_, rfl, hi.symm⟩)))
    refine ⟨rfl, some ⟨b, 0, none⟩, c, hs4, kp_trans kA (kp_trans (kp_mono k2 (fun i hi => .inl hi)) k4), fun i hi => .inl hi⟩
  · have hK0 : l.length - K = 0 := by omega
    have hq2 := (show _ = some (Value.slice (some ⟨b, 0, none⟩) l.length c) from hbg'.cell 2)
    have hqf := hbg'.frozen 2
    obtain ⟨cur2, hb1, hs1', ht1⟩ : ∃ cur2, Bk (w.drewN nq) b 3 cur2 ∧ cur2.size = cur.size ∧ cur2.toList.take K = cur.toList.take K := ⟨cur, hbk', rfl, rfl⟩
    have H1 := Lib.hid hb1
    have H2 := Lib.hid hs1'
    have H3 := Lib.hid ht1
    clear hb1 hs1' ht1
    have KK := Lib.hid (kp_refl (fun i => i = b) (w.drewN nq))
    have hbg1 := hbg'
    have hclr := fun W A c => run_clear_zero (P := Try.prog) W 22 3 0 A c Try.underlying22 zero_int
    by_cases hc : K < c
    · have hkl2 : K ≤ c := by omega
      go_wp2_with fail
      have k2 : Kp (fun i => i = g) (w.drewN nq) ((w.drewN nq).setCell ⟨g, 2, none⟩ (.slice (some ⟨b, 0, none⟩) K c)) := kp_set (S := fun i => i = g) (p := ⟨g, 2, none⟩) (kp_refl _ _) (.inl rfl) _
      have hs2 : WalS ((w.drewN nq).setCell ⟨g, 2, none⟩ (.slice (some ⟨b, 0, none⟩) K c)) base g room sy (some ⟨b, 0, none⟩) c (l.take K) := by
        refine ⟨?_, ?_, ?_, HS.out.lo, ?_, ?_, h3⟩
        · rw [hlk]; exact hbg1.set_ 2 _
        · rw [hlk]
          refine own_mk hbl (H1.out.kp k2 hbne) (by omega) hcm (by rw [H2.out, HC.out]) ?_
          rw [H3.out, i64L_take, ← HT.out, List.take_take, Nat.min_eq_left (by omega)]
        · intro ad had; injection had with had; subst had; exact hbne
        · rw [hlk]; omega
        · rw [hlk]; omega
      have C3 := wsync_any base g room sy _ c (l.take K) _ hs2
      rw [hlk] at C3
      have C4 := Lib.hid C3
      clear C3
      refine C4.out.mono ?_
      rintro e w4 ⟨rfl, hs4, k4⟩
      go_wp2_with fail
      go_end0
      have kA : Kp (WN g (some ⟨b, 0, none⟩)) w (w.drewN nq) := kp_undrewN (n := nq) (kp_then (kp_refl _ _) KK.out (fun i hi => .inl (.inr ⟨_, rfl, hi.symm⟩)))
      refine ⟨rfl, some ⟨b, 0, none⟩, c, hs4, kp_trans kA (kp_trans (kp_mono k2 (fun i hi => .inl hi)) k4), fun i hi => .inl hi⟩
    · have hkl2 : K ≤ c := by omega
      go_wp2_with fail
      have k2 : Kp (fun i => i = g) (w.drewN nq) ((w.drewN nq).setCell ⟨g, 2, none⟩ (.slice (some ⟨b, 0, none⟩) K c)) := kp_set (S := fun i => i = g) (p := ⟨g, 2, none⟩) (kp_refl _ _) (.inl rfl) _
      have hs2 : WalS ((w.drewN nq).setCell ⟨g, 2, none⟩ (.slice (some ⟨b, 0, none⟩) K c)) base g room sy (some ⟨b, 0, none⟩) c (l.take K) := by
        refine ⟨?_, ?_, ?_, HS.out.lo, ?_, ?_, h3⟩
        · rw [hlk]; exact hbg1.set_ 2 _
        · rw [hlk]
          refine own_mk hbl (H1.out.kp k2 hbne) (by omega) hcm (by rw [H2.out, HC.out]) ?_
          rw [H3.out, i64L_take, ← HT.out, List.take_take, Nat.min_eq_left (by omega)]
        · intro ad had; injection had with had; subst had; exact hbne
        · rw [hlk]; omega
        · rw [hlk]; omega
      have C3 := wsync_any base g room sy _ c (l.take K) _ hs2
      rw [hlk] at C3
      have C4 := Lib.hid C3
      clear C3
      refine C4.out.mono ?_
      rintro e w4 ⟨rfl, hs4, k4⟩
      go_wp2_with fail
      go_end0
      have kA : Kp (WN g (some ⟨b, 0, none⟩)) w (w.drewN nq) := kp_undrewN (n := nq) (kp_then (kp_refl _ _) KK.out (fun i hi => .inl (.inr ⟨_, rfl, hi.symm⟩)))
      refine ⟨rfl, some ⟨b, 0, none⟩, c, hs4, kp_trans kA (kp_trans (kp_mono k2 (fun i hi => .inl hi)) k4), fun i hi => .inl hi⟩
set_option maxRecDepth 100000 in
set_option maxHeartbeats 1600000 in
theorem wcrash_nil (base g room sy : Nat) (c : Nat) (l : List Int) (keep : Int) (hi64 : -9223372036854775808 ≤ keep ∧ keep ≤ 9223372036854775807) (w : World) (h : WalS w base g room sy none c l) :
    Calls Try.prog 47 #[.pointer (some ⟨g, 0, none⟩), .int .i64 keep] w (WRet (.tuple #[]) w base g room none 0 []) := by
  have hl : l.length = 0 ∧ c = 0 := by
    rcases h.own.2 with ⟨hq, h0⟩ | ⟨g', cap, cur, hq, _⟩
    · injection hq with _ e2 e3; exact ⟨e2, e3⟩
    · injection hq with e1; cases e1
  obtain ⟨hl, rfl⟩ := hl
  obtain rfl : l = [] := List.eq_nil_of_length_eq_zero hl
  have hsy : sy = 0 := by have := h.sy; simpa using this
  subst hsy
  have hc1 : w.cell? ⟨g, 1, none⟩ = some (.int .i64 0) := h.bk.cell 1
  have hc2 : w.cell? ⟨g, 2, none⟩ = some (.slice none 0 0) := h.bk.cell 2
  have C0 := fun n => wwaits_any base g room 0 none 0 [] _ (h.drewN n)
  rw [show ((([] : List Int).length : Int) - ((0 : Nat) : Int)) = 0 from rfl] at C0
  have C := Lib.hid C0
  have HS := Lib.hid h
  have hqf := h.bk.frozen 2
  have hclr := fun W A c => run_clear_zero (P := Try.prog) W 22 3 0 A c Try.underlying22 zero_int
  have fin : ∀ nq, Calls Try.prog 46 #[.pointer (some ⟨g, 0, none⟩)] ((w.drewN nq).setCell ⟨g, 2, none⟩ (.slice none 0 0)) (WRet (.tuple #[]) w base g room none 0 []) := by
    intro nq
    have k2 : Kp (fun i => i = g) (w.drewN nq) ((w.drewN nq).setCell ⟨g, 2, none⟩ (.slice none 0 0)) := kp_set (S := fun i => i = g) (p := ⟨g, 2, none⟩) (kp_refl _ _) (.inl rfl) _
    have hs2 : WalS ((w.drewN nq).setCell ⟨g, 2, none⟩ (.slice none 0 0)) base g room 0 none 0 [] :=
      ⟨(HS.out.drewN nq).bk.set_ 2 _, World.ownsRow_nil _ _ _ _, (fun _ h => by cases h), HS.out.lo, by simp, by simp, HS.out.rm⟩
    refine (wsync_any base g room 0 none 0 [] _ hs2).mono ?_
    rintro e w4 ⟨rfl, hs4, k4⟩
    exact ⟨rfl, none, 0, hs4, kp_undrewN (n := nq) (kp_trans (kp_mono k2 (fun i hi => .inl hi)) k4), fun i hi => .inl hi⟩
  have FIN := Lib.hid fin
  clear h C0 fin hl
  by_cases hk : 0 ≤ keep
  · by_cases hk2 : keep ≤ 0
    · obtain rfl : keep = 0 := by omega
      go_enter Try.func47, Try.ntmps47
      go_wp2_with fail
      go_quiet ((go_at_call 52; exact quietD (C.out _)))
      go_wp2_with fail
      refine (FIN.out nq).mono ?_
      rintro e w4 hw
      obtain ⟨rfl, hw2⟩ := hw
      go_wp2_with fail
      go_end0
      exact ⟨rfl, hw2⟩
    · go_enter Try.func47, Try.ntmps47
      go_wp2_with fail
      go_quiet ((go_at_call 52; exact quietD (C.out _)))
      go_wp2_with fail
      refine (FIN.out nq).mono ?_
      rintro e w4 hw
      obtain ⟨rfl, hw2⟩ := hw
      go_wp2_with fail
      go_end0
      exact ⟨rfl, hw2⟩
  · go_enter Try.func47, Try.ntmps47
    go_wp2_with fail
    go_quiet ((go_at_call 52; exact quietD (C.out _)))
    go_wp2_with fail
    refine (FIN.out nq).mono ?_
    rintro e w4 hw
    obtain ⟨rfl, hw2⟩ := hw
    go_wp2_with fail
    go_end0
    exact ⟨rfl, hw2⟩
theorem wcrash_any (base g room sy : Nat) (A : Option Addr) (c : Nat) (l : List Int) (keep : Int) (hi64 : -9223372036854775808 ≤ keep ∧ keep ≤ 9223372036854775807) (w : World) (h : WalS w base g room sy A c l) :
    Calls Try.prog 47 #[.pointer (some ⟨g, 0, none⟩), .int .i64 keep] w (WRet (.tuple #[]) w base g room A (keptN sy l.length keep) (l.take (keptN sy l.length keep))) := by
  have h1 := h.sy
  cases A with
  | none =>
    have hl : l.length = 0 := by
      rcases h.own.2 with ⟨hq, h0⟩ | ⟨g', cap, cur, hq, _⟩
      · exact h0
      · injection hq with e1; cases e1
    have e1 : keptN sy l.length keep = 0 := by unfold keptN; omega
    rw [e1, List.take_zero]
    exact wcrash_nil base g room sy c l keep hi64 w h
  | some ad =>
    by_cases hk : keep < 0
    · exact wcrash_a base g room sy ad c l keep _ hi64 hk (by unfold keptN; omega) w h
    · by_cases hk2 : keep ≤ (l.length : Int) - sy
      · exact wcrash_b base g room sy ad c l keep _ hi64 ⟨by omega, hk2⟩ (by unfold keptN; omega) w h
      · exact wcrash_c base g room sy ad c l keep _ hi64 (by omega) (by unfold keptN; omega) w h
end Go.Proofs.Ytpoimhjencpieaa
