/- Contracts of package wal, at int: trimming. -/
import Derived.Test.YtpoimhjencpieaaWalC
namespace Go.Proofs.Ytpoimhjencpieaa
open Go.RowKit
set_option linter.unusedVariables false
theorem rd_drop {w : World} {B : Nat} {ad : Addr} {xs : List Value} (h : Rd w B (some ad) xs) (n : Nat) : Rd w B (some (ad.add n)) (xs.drop n) := by
  intro k hk
  have hk' : n + k < xs.length := by simp at hk; omega
  obtain ⟨ad', h1, h2, h3⟩ := h (n + k) hk'
  injection h1 with h1
  subst h1
  refine ⟨_, rfl, by rw [blk_add]; exact h2, ?_⟩
  rw [addr_add, h3]
  simp
theorem wtrim_arg (base g room sy : Nat) (A : Option Addr) (c : Nat) (l : List Int) (n x : Int) (hn : n < 1 ∨ (l.length : Int) < n) (w : World) (h : WalS w base g room sy A c l) :
    Calls Try.prog 48 #[.pointer (some ⟨g, 0, none⟩), .int .i64 n, .int .i64 x] w fun e w' => e = .returned (.int .i64 1) ∧ w = w' := by
  have hc2 : w.cell? ⟨g, 2, none⟩ = some (.slice A l.length c) := h.bk.cell 2
  clear h
  by_cases h0 : n < 1
  · go_enter Try.func48, Try.ntmps48
    go_wp2_with fail
    go_ret
    exact ⟨rfl, rfl⟩
  · have h1 : (l.length : Int) < n := by omega
    clear hn
    go_enter Try.func48, Try.ntmps48
    go_wp2_with fail
    go_ret
    exact ⟨rfl, rfl⟩
theorem wtrim_state (base g room sy : Nat) (A : Option Addr) (c : Nat) (l : List Int) (n x : Int) (h1 : 1 ≤ n) (h2 : n ≤ (l.length : Int)) (h3 : (sy : Int) < n) (w : World) (h : WalS w base g room sy A c l) :
    Calls Try.prog 48 #[.pointer (some ⟨g, 0, none⟩), .int .i64 n, .int .i64 x] w fun e w' => e = .returned (.int .i64 16) ∧ w = w' := by
  have hc2 : w.cell? ⟨g, 2, none⟩ = some (.slice A l.length c) := h.bk.cell 2
  have hc1 : w.cell? ⟨g, 1, none⟩ = some (.int .i64 sy) := h.bk.cell 1
  clear h
  have h0 : ¬ n < 1 := by omega
  have h0' : ¬ (l.length : Int) < n := by omega
  go_enter Try.func48, Try.ntmps48
  go_wp2_with fail
  go_ret
  exact ⟨rfl, rfl⟩
set_option maxRecDepth 100000 in
set_option maxHeartbeats 1600000 in
theorem wtrim_ok (base g room sy : Nat) (ad : Addr) (c : Nat) (l : List Int) (n : Nat) (x : Int) (h1 : 1 ≤ n) (h2 : n ≤ sy) (hx64 : -9223372036854775808 ≤ x ∧ x ≤ 9223372036854775807) (w : World) (h : WalS w base g room sy (some ad) c l) :
    Calls Try.prog 48 #[.pointer (some ⟨g, 0, none⟩), .int .i64 n, .int .i64 x] w (WRet (.int .i64 0) w base g room (some ad) (sy - (n - 1)) (x :: l.drop n)) := by
  obtain ⟨i0, hi0, hz0, hz1, hz2⟩ := info_parts infoI
  have hc2 : w.cell? ⟨g, 2, none⟩ = some (.slice (some ad) l.length c) := h.bk.cell 2
  have hc1 : w.cell? ⟨g, 1, none⟩ = some (.int .i64 sy) := h.bk.cell 1
  have hs := h.sy
  have hle := h.le
  have h3 := h.rm
  have hlo := h.lo
  have hgl := h.bk.lt
  have hbz : base ≤ w.heap.size := by omega
  have hne := h.ne ad rfl
  obtain ⟨b, rfl, hbl, cur, hbk, hnc, hcm, hcs, htk⟩ := own_parts h.own
  have hrd := h.rd.1
  have HS := Lib.hid h
  clear htk hcs h
  have h0 : ¬ (n : Int) < 1 := by omega
  have h0' : ¬ (l.length : Int) < (n : Int) := by omega
  have h0'' : ¬ (sy : Int) < (n : Int) := by omega
  have hnl : n ≤ l.length := by omega
  have hnc2 : n ≤ c := by omega
  have hbk0 : Bk (w.alloc (.cells #[.int .i64 x] 3)) g 122 (walC room sy (.slice (some ⟨b, 0, none⟩) l.length c)) := HS.out.bk.alloc _
  have hown : (w.alloc (.cells #[.int .i64 x] 3)).ownsRow base 3 1 (.slice (some ⟨w.heap.size, 0, none⟩) 1 1) 1 [.int .i64 x] := own_mk hbz (Bk.new w _ _) (by omega) (by decide) rfl rfl
  have hdr : Rd (w.alloc (.cells #[.int .i64 x] 3)) w.heap.size (some ⟨b, n, none⟩) (i64L (l.drop n)) := by
    have := (rd_drop hrd n).alloc (Nat.le_refl _) (.cells #[.int .i64 x] 3)
    have e : (⟨b, 0, none⟩ : Addr).add n = ⟨b, n, none⟩ := by unfold Addr.add; rw [if_neg (by omega)]; simp
    rw [e] at this
    have e2 : (i64L l).drop n = i64L (l.drop n) := by simp [i64L]
    rw [e2] at this
    exact this
  have hdl : (i64L (l.drop n)).length = l.length - n := by rw [i64L_length, List.length_drop]
  have HDL := Lib.hid hdl
  have HDR := Lib.hid hdr
  clear hdl hdr hrd
  have hq6 : wrap64 ((n : Int) - 1) = ((n - 1 : Nat) : Int) := by unfold wrap64; omega
  by_cases hnc3 : n < c
  · go_enter Try.func48, Try.ntmps48
    go_wp2_with (at_builtin; refine wpList_append_rd rfl _ _ _ rfl base 3 i0 _ 8 Try.underlying22 hi0 hz0 hz1 hz2 rfl _ 1 [.int .i64 x] rfl hown w.heap.size (some ⟨b, n, none⟩) (l.length - n) (c - n) (i64L (l.drop n)) rfl HDL.out HDR.out (i64L_one _) (by unfold maxLen; omega) (by omega) (by simp; omega) ?_; intro v2 w2 hown2 hgrow hat; have hbk2 : Bk w2 g 122 (walC room sy (.slice (some ⟨b, 0, none⟩) l.length c)) := (hgrow.block g (by simp; omega) (fun e => (by injection e with e; simp only at e; omega))).trans hbk0; have hq : w2.cell? ⟨g, 2, none⟩ = some (.slice (some ⟨b, 0, none⟩) l.length c) := hbk2.cell 2; have hqf := hbk2.frozen 2; have hq1 : w2.cell? ⟨g, 1, none⟩ = some (.int .i64 sy) := hbk2.cell 1; have hqf1 := hbk2.frozen 1; obtain ⟨A2, c2, rfl, hn1, _, hrd2⟩ := own_rd hown2)
    go_ret
    have hlen : (x :: l.drop n).length = 1 + (l.length - n) := by rw [List.length_cons, List.length_drop]; omega
    have e1 : ((sy : Int) - ((n : Int) - 1)) = ((sy - (n - 1) : Nat) : Int) := by omega
    have hA2 : ∀ ad, A2 = some ad → w.heap.size ≤ ad.block := by
      intro ad had
      subst had
      rcases hat with h' | h'
      · have h2 : some ad.block = some w.heap.size := h'
        injection h2 with h2; omega
      · have h2 : some ad.block = some (w.alloc (.cells #[.int .i64 x] 3)).heap.size := h'
        injection h2 with h2; simp at h2; omega
    have k1 : Kp (WN g (some ⟨b, 0, none⟩)) w w2 := kp_grown (kp_alloc (kp_refl _ _) _) hgrow (fun i hi => by have h2 : some w.heap.size = some i := hi; injection h2 with h2; right; omega)
    have k2 : Kp (fun i => i = g) w2 ((w2.setCell ⟨g, 2, none⟩ (.slice A2 (1 + (l.length - n)) c2)).setCell ⟨g, 1, none⟩ (.int .i64 ((sy : Int) - ((n : Int) - 1)))) := kp_set (S := fun i => i = g) (p := ⟨g, 1, none⟩) (kp_set (S := fun i => i = g) (p := ⟨g, 2, none⟩) (kp_refl _ _) (.inl rfl) _) (.inl rfl) _
    refine ⟨rfl, A2, c2, ⟨?_, ?_, ?_, hlo, ?_, ?_, h3⟩, kp_trans k1 (kp_mono k2 (fun i hi => .inl hi)), ?_⟩
    · have := (hbk2.set_ 2 (.slice A2 (1 + (l.length - n)) c2)).set_ 1 (.int .i64 ((sy : Int) - ((n : Int) - 1)))
      unfold walC
      rw [hlen, ← e1]
      exact this
    · rw [hlen]
      exact ownsRow_kp hown2 k2 (fun i hi e => by obtain ⟨ad, had, h2⟩ := own_slice _ _ _ i hi; have := hA2 ad had; omega)
    · intro ad had e
      have := hA2 ad had
      omega
    · rw [hlen]; omega
    · rw [hlen]; omega
    · rintro i (rfl | ⟨ad, had, rfl⟩)
      · exact .inl (.inl rfl)
      · exact .inr (hA2 ad had)
  · have hnn : l.length - n = 0 := by omega
    have hdz : Rd (w.alloc (.cells #[.int .i64 x] 3)) w.heap.size (some ⟨b, 0, none⟩) (i64L (l.drop n)) := by
      rw [show l.drop n = [] from List.drop_eq_nil_of_le (by omega)]
      exact Rd.nil_ _ _ _
    have HDZ := Lib.hid hdz
    have HNN := Lib.hid hnn
    clear hdz hnn
    go_enter Try.func48, Try.ntmps48
    go_wp2_with (at_builtin; refine wpList_append_rd rfl _ _ _ rfl base 3 i0 _ 8 Try.underlying22 hi0 hz0 hz1 hz2 rfl _ 1 [.int .i64 x] rfl hown w.heap.size (some ⟨b, 0, none⟩) (l.length - n) (c - n) (i64L (l.drop n)) rfl HDL.out HDZ.out (i64L_one _) (by unfold maxLen; omega) (by omega) (by simp; omega) ?_; intro v2 w2 hown2 hgrow hat; have hbk2 : Bk w2 g 122 (walC room sy (.slice (some ⟨b, 0, none⟩) l.length c)) := (hgrow.block g (by simp; omega) (fun e => (by injection e with e; simp only at e; omega))).trans hbk0; have hq : w2.cell? ⟨g, 2, none⟩ = some (.slice (some ⟨b, 0, none⟩) l.length c) := hbk2.cell 2; have hqf := hbk2.frozen 2; have hq1 : w2.cell? ⟨g, 1, none⟩ = some (.int .i64 sy) := hbk2.cell 1; have hqf1 := hbk2.frozen 1; obtain ⟨A2, c2, rfl, hn1, _, hrd2⟩ := own_rd hown2)
    go_ret
    have hlen : (x :: l.drop n).length = 1 + (l.length - n) := by rw [List.length_cons, List.length_drop]; omega
    have e1 : ((sy : Int) - ((n : Int) - 1)) = ((sy - (n - 1) : Nat) : Int) := by omega
    have hA2 : ∀ ad, A2 = some ad → w.heap.size ≤ ad.block := by
      intro ad had
      subst had
      rcases hat with h' | h'
      · have h2 : some ad.block = some w.heap.size := h'
        injection h2 with h2; omega
      · have h2 : some ad.block = some (w.alloc (.cells #[.int .i64 x] 3)).heap.size := h'
        injection h2 with h2; simp at h2; omega
    have k1 : Kp (WN g (some ⟨b, 0, none⟩)) w w2 := kp_grown (kp_alloc (kp_refl _ _) _) hgrow (fun i hi => by have h2 : some w.heap.size = some i := hi; injection h2 with h2; right; omega)
    have k2 : Kp (fun i => i = g) w2 ((w2.setCell ⟨g, 2, none⟩ (.slice A2 (1 + (l.length - n)) c2)).setCell ⟨g, 1, none⟩ (.int .i64 ((sy : Int) - ((n : Int) - 1)))) := kp_set (S := fun i => i = g) (p := ⟨g, 1, none⟩) (kp_set (S := fun i => i = g) (p := ⟨g, 2, none⟩) (kp_refl _ _) (.inl rfl) _) (.inl rfl) _
    refine ⟨rfl, A2, c2, ⟨?_, ?_, ?_, hlo, ?_, ?_, h3⟩, kp_trans k1 (kp_mono k2 (fun i hi => .inl hi)), ?_⟩
    · have := (hbk2.set_ 2 (.slice A2 (1 + (l.length - n)) c2)).set_ 1 (.int .i64 ((sy : Int) - ((n : Int) - 1)))
      unfold walC
      rw [hlen, ← e1]
      exact this
    · rw [hlen]
      exact ownsRow_kp hown2 k2 (fun i hi e => by obtain ⟨ad, had, h2⟩ := own_slice _ _ _ i hi; have := hA2 ad had; omega)
    · intro ad had e
      have := hA2 ad had
      omega
    · rw [hlen]; omega
    · rw [hlen]; omega
    · rintro i (rfl | ⟨ad, had, rfl⟩)
      · exact .inl (.inl rfl)
      · exact .inr (hA2 ad had)
end Go.Proofs.Ytpoimhjencpieaa
