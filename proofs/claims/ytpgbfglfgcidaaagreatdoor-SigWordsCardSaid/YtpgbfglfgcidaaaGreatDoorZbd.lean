/- key.Text. -/
import Derived.Test.YtpgbfglfgcidaaaGreatDoorZbc
import Derived.Test.YtpgbfglfgcidaaaGreatDoorZar
import Derived.Test.YtpgbfglfgcidaaaGreatDoorZal
import Derived.Test.YtpgbfglfgcidaaaGreatDoorZai
namespace Go.Proofs.YtpgbfglfgcidaaaGreatDoor
set_option linter.unusedSimpArgs false
set_option linter.unusedVariables false
open Go.RowKit
set_option linter.unusedVariables false
def oneL (s : Nat → Nat) : List Nat := (List.range 18).map s
theorem oneL_length (s : Nat → Nat) : (oneL s).length = 18 := by simp [oneL]
/-- a signature in words -/
def sgT (who leaf : Int) (s : Nat → Nat) (l : List Nat) : List UInt8 := joinF [Lib.itoa who, Lib.itoa leaf, digs (oneL s), digs l]
structure FourS (w : World) (l : List ByteArray) (v : Value) : Prop where
  out : ∃ A, v = .slice A 4 4 ∧ Rd w w.heap.size A (strL l)
theorem FourS.gr {w w' : World} {l : List ByteArray} {v : Value} (h : FourS w l v) (g : Grew w w') : FourS w' l v := by
  obtain ⟨A, h1, h2⟩ := h.out
  exact ⟨A, h1, h2.gr g⟩
theorem one_rd {w : World} {b : Nat} {who leaf : Int} {s : Nat → Nat} {pv : Value} (h : Ag w b (sgC who leaf s pv).toList) : Rd w w.heap.size (some ⟨b, 2, none⟩) (u64L (oneL s)) := by
  intro k hk
  have hk' : k < 18 := by simpa [u64L, oneL] using hk
  refine ⟨_, rfl, h.lt, ?_⟩
  have ha : (⟨b, 2, none⟩ : Addr).add k = ⟨b, 2 + k, none⟩ := Addr.add_mid b 2 k
  rw [ha]
  have := sg_mid h k (u64V (s k)) (by
    rw [Array.getElem?_toList]
    exact arrU_get s k hk')
  rw [this]
  simp [u64L, oneL, u64V]
set_option maxRecDepth 100000 in
set_option maxHeartbeats 2000000 in
theorem ktext_ok (who leaf : Int) (s : Nat → Nat) (A : Option Addr) (c : Nat) (l : List Nat) (hw : in64 who) (hlf : in64 leaf) (hl : l.length ≤ 1000) (hs : ∀ k, k < 18 → s k < 18446744073709551616) (hb : ∀ n ∈ l, n < 18446744073709551616) (w : World) (hS : Std w) (hr : Rd w w.heap.size A (u64L l)) :
    Calls Tryz.prog 29 #[.agg (sgC who leaf s (.slice A l.length c))] w fun e w' => e = .returned (.string ⟨(sgT who leaf s l).toArray⟩) ∧ Grew w w' := by
  have z0 := Ag.new w 39 (sgC who leaf s (.slice A l.length c))
  have G0 := grew_alloc (grew_refl w) (.cells (sgC who leaf s (.slice A l.length c)) 39)
  have q0 : (w.alloc (.cells (sgC who leaf s (.slice A l.length c)) 39)).cell? ⟨w.heap.size, 0, none⟩ = some (.int .i64 who) := by simpa using z0.cell 0 (.int .i64 who) rfl
  have q1 : (w.alloc (.cells (sgC who leaf s (.slice A l.length c)) 39)).cell? ⟨w.heap.size, 1, none⟩ = some (.int .i64 leaf) := by simpa using z0.cell 1 (.int .i64 leaf) rfl
  have q20 : (w.alloc (.cells (sgC who leaf s (.slice A l.length c)) 39)).cell? ⟨w.heap.size, 20, none⟩ = some (.slice A l.length c) := by simpa using z0.cell 20 (.slice A l.length c) rfl
  have R2 := Lib.hid (one_rd z0)
  have R3 := Lib.hid (hr.gr G0)
  have HS := Lib.hid hS
  have hbw := z0.lt
  have C0 := Lib.hid (fun W hW => num_ok who hw.1 hw.2 W hW)
  have C1 := Lib.hid (fun W hW => num_ok leaf hlf.1 hlf.2 W hW)
  have C2 := Lib.hid (fun W hW hR => dtext_ok (some ⟨w.heap.size, 2, none⟩) 18 (oneL s) (by rw [oneL_length]; omega) (fun x hx => by
    obtain ⟨k, hk, rfl⟩ := List.mem_map.1 hx
    exact hs k (List.mem_range.1 hk)) W hW hR)
  rw [oneL_length] at C2
  have C3 := Lib.hid (fun W hW hR => dtext_ok A c l (by omega) hb W hW hR)
  have hlen : (joinF [Lib.itoa who, Lib.itoa leaf, digs (oneL s), digs l]).length ≤ 100000000 := by
    have h1 := itoa_len hw.1 hw.2
    have h2 := itoa_len hlf.1 hlf.2
    have h3 := digs_len (oneL s)
    rw [oneL_length] at h3
    have h4 := digs_len l
    have f1 := fld_len (Lib.itoa who)
    have f2 := fld_len (Lib.itoa leaf)
    have f3 := fld_len (digs (oneL s))
    have f4 := fld_len (digs l)
    simp only [joinF, List.flatMap_cons, List.flatMap_nil, List.length_append, List.length_cons, List.length_nil]
    omega
  have CJ : Hid (∀ (A4 : Option Addr) (W : World), Rd W W.heap.size A4 (strL [⟨(Lib.itoa who).toArray⟩, ⟨(Lib.itoa leaf).toArray⟩, ⟨(digs (oneL s)).toArray⟩, ⟨(digs l).toArray⟩]) → Calls Tryz.prog 55 #[.slice A4 4 4] W fun e w' => e = .returned (.string ⟨(sgT who leaf s l).toArray⟩) ∧ Grew W w') := Lib.hid (fun A4 W hR => by
    have := join_ok A4 4 [⟨(Lib.itoa who).toArray⟩, ⟨(Lib.itoa leaf).toArray⟩, ⟨(digs (oneL s)).toArray⟩, ⟨(digs l).toArray⟩] (by simp) (by simpa [bys] using hlen) W hR
    simpa [bys, sgT] using this)
  clear hr hS hw hlf hs hb hlen
  generalize (⟨(sgT who leaf s l).toArray⟩ : ByteArray) = tj at *
  generalize (⟨(Lib.itoa who).toArray⟩ : ByteArray) = t0 at *
  generalize (⟨(Lib.itoa leaf).toArray⟩ : ByteArray) = t1 at *
  generalize (⟨(digs (oneL s)).toArray⟩ : ByteArray) = t2 at *
  generalize (⟨(digs l).toArray⟩ : ByteArray) = t3 at *
  go_enter Tryz.func29, Tryz.ntmps29
  go_wp2_with fail
  generalize w.alloc (.cells (sgC who leaf s (.slice A l.length c)) 39) = w1 at *
  refine wp_region_rel 14 (fun i => match i with
      | 0 => fun v _ => v = .pointer (some ⟨w.heap.size, 0, none⟩)
      | 1 => fun v _ => v = .int .i64 who
      | 2 => fun v _ => v = .string t0
      | 3 => fun v _ => v = .pointer (some ⟨w.heap.size, 1, none⟩)
      | 4 => fun v _ => v = .int .i64 leaf
      | 5 => fun v _ => v = .string t1
      | 6 => fun v _ => v = .pointer (some ⟨w.heap.size, 2, none⟩)
      | 7 => fun v _ => v = .slice (some ⟨w.heap.size, 2, none⟩) 18 18
      | 8 => fun v _ => v = .string t2
      | 9 => fun v _ => v = .pointer (some ⟨w.heap.size, 20, none⟩)
      | 10 => fun v _ => v = .slice A l.length c
      | 11 => fun v _ => v = .string t3
      | 12 => fun v w => FourS w [t0, t1, t2, t3] v
      | 13 => fun v _ => v = .string tj
      | _ => fun _ _ => True) (by kernel_rfl) (by kernel_rfl) ?_ ?_ ?_
  · intro i v x y h hg
    match i, h with
    | 0, h | 1, h | 2, h | 3, h | 4, h | 5, h | 6, h | 7, h | 8, h | 9, h | 10, h | 11, h | 13, h => exact h
    | 12, h => exact FourS.gr h hg
    | m + 14, _ => trivial
  · refine ⟨?_, ?_, ?_, ?_, ?_, ?_, ?_, ?_, ?_, ?_, ?_, ?_, ?_, ?_, trivial⟩
    · intro vs y hg hd
      simp only [actOf, List.take_succ_cons, List.take_zero, List.drop_succ_cons, List.drop_zero, Act.put, List.setIfInBounds_toArray, List.set_cons_succ, List.set_cons_zero, Nat.reduceAdd]
      go_wp2_with fail
      exact ⟨rfl, _, rfl, grew_refl _, rfl⟩
    · intro vs y hg hd
      obtain ⟨h0, _⟩ := hd
      replace h0 := h0 rfl
      simp only [actOf, List.take_succ_cons, List.take_zero, List.drop_succ_cons, List.drop_zero, Act.put, List.setIfInBounds_toArray, List.set_cons_succ, List.set_cons_zero, Nat.reduceAdd]
      rw [show vs 0 = _ from h0]
      have hc := (hg.cell (p := ⟨w.heap.size, 0, none⟩) hbw).trans q0
      go_wp2_with fail
      exact ⟨rfl, _, rfl, grew_refl _, rfl⟩
    · intro vs y hg hd
      obtain ⟨h1, _⟩ := hd
      replace h1 := h1 rfl
      simp only [actOf, List.take_succ_cons, List.take_zero, List.drop_succ_cons, List.drop_zero, Act.put, List.setIfInBounds_toArray, List.set_cons_succ, List.set_cons_zero, Nat.reduceAdd]
      rw [show vs 1 = _ from h1]
      go_wp2_with (go_at_call 56; refine (C0.out y (HS.out.grew (grew_trans G0 hg))).mono ?_; rintro e z ⟨rfl, gz⟩)
      exact ⟨rfl, _, rfl, gz, rfl⟩
    · intro vs y hg hd
      simp only [actOf, List.take_succ_cons, List.take_zero, List.drop_succ_cons, List.drop_zero, Act.put, List.setIfInBounds_toArray, List.set_cons_succ, List.set_cons_zero, Nat.reduceAdd]
      go_wp2_with fail
      exact ⟨rfl, _, rfl, grew_refl _, rfl⟩
    · intro vs y hg hd
      obtain ⟨h3, _⟩ := hd
      replace h3 := h3 rfl
      simp only [actOf, List.take_succ_cons, List.take_zero, List.drop_succ_cons, List.drop_zero, Act.put, List.setIfInBounds_toArray, List.set_cons_succ, List.set_cons_zero, Nat.reduceAdd]
      rw [show vs 3 = _ from h3]
      have hc := (hg.cell (p := ⟨w.heap.size, 1, none⟩) hbw).trans q1
      go_wp2_with fail
      exact ⟨rfl, _, rfl, grew_refl _, rfl⟩
    · intro vs y hg hd
      obtain ⟨h4, _⟩ := hd
      replace h4 := h4 rfl
      simp only [actOf, List.take_succ_cons, List.take_zero, List.drop_succ_cons, List.drop_zero, Act.put, List.setIfInBounds_toArray, List.set_cons_succ, List.set_cons_zero, Nat.reduceAdd]
      rw [show vs 4 = _ from h4]
      go_wp2_with (go_at_call 56; refine (C1.out y (HS.out.grew (grew_trans G0 hg))).mono ?_; rintro e z ⟨rfl, gz⟩)
      exact ⟨rfl, _, rfl, gz, rfl⟩
    · intro vs y hg hd
      simp only [actOf, List.take_succ_cons, List.take_zero, List.drop_succ_cons, List.drop_zero, Act.put, List.setIfInBounds_toArray, List.set_cons_succ, List.set_cons_zero, Nat.reduceAdd]
      go_wp2_with fail
      exact ⟨rfl, _, rfl, grew_refl _, rfl⟩
    · intro vs y hg hd
      obtain ⟨h6, _⟩ := hd
      replace h6 := h6 rfl
      simp only [actOf, List.take_succ_cons, List.take_zero, List.drop_succ_cons, List.drop_zero, Act.put, List.setIfInBounds_toArray, List.set_cons_succ, List.set_cons_zero, Nat.reduceAdd]
      rw [show vs 6 = _ from h6]
      go_wp2_with fail
      exact ⟨rfl, _, rfl, grew_refl _, rfl⟩
    · intro vs y hg hd
      obtain ⟨h7, _⟩ := hd
      replace h7 := h7 rfl
      simp only [actOf, List.take_succ_cons, List.take_zero, List.drop_succ_cons, List.drop_zero, Act.put, List.setIfInBounds_toArray, List.set_cons_succ, List.set_cons_zero, Nat.reduceAdd]
      rw [show vs 7 = _ from h7]
      go_wp2_with (go_at_call 57; refine (C2.out y (HS.out.grew (grew_trans G0 hg)) (R2.out.gr hg)).mono ?_; rintro e z ⟨rfl, gz⟩)
      exact ⟨rfl, _, rfl, gz, rfl⟩
    · intro vs y hg hd
      simp only [actOf, List.take_succ_cons, List.take_zero, List.drop_succ_cons, List.drop_zero, Act.put, List.setIfInBounds_toArray, List.set_cons_succ, List.set_cons_zero, Nat.reduceAdd]
      go_wp2_with fail
      exact ⟨rfl, _, rfl, grew_refl _, rfl⟩
    · intro vs y hg hd
      obtain ⟨h9, _⟩ := hd
      replace h9 := h9 rfl
      simp only [actOf, List.take_succ_cons, List.take_zero, List.drop_succ_cons, List.drop_zero, Act.put, List.setIfInBounds_toArray, List.set_cons_succ, List.set_cons_zero, Nat.reduceAdd]
      rw [show vs 9 = _ from h9]
      have hc := (hg.cell (p := ⟨w.heap.size, 20, none⟩) hbw).trans q20
      go_wp2_with fail
      exact ⟨rfl, _, rfl, grew_refl _, rfl⟩
    · intro vs y hg hd
      obtain ⟨h10, _⟩ := hd
      replace h10 := h10 rfl
      simp only [actOf, List.take_succ_cons, List.take_zero, List.drop_succ_cons, List.drop_zero, Act.put, List.setIfInBounds_toArray, List.set_cons_succ, List.set_cons_zero, Nat.reduceAdd]
      rw [show vs 10 = _ from h10]
      go_wp2_with (go_at_call 57; refine (C3.out y (HS.out.grew (grew_trans G0 hg)) (R3.out.gr hg)).mono ?_; rintro e z ⟨rfl, gz⟩)
      exact ⟨rfl, _, rfl, gz, rfl⟩
    · intro vs y hg hd
      obtain ⟨h2, h5, h8, h11, _⟩ := hd
      replace h2 := h2 rfl
      replace h5 := h5 rfl
      replace h8 := h8 rfl
      replace h11 := h11 rfl
      simp only [actOf, List.take_succ_cons, List.take_zero, List.drop_succ_cons, List.drop_zero, Act.put, List.setIfInBounds_toArray, List.set_cons_succ, List.set_cons_zero, Nat.reduceAdd]
      rw [show vs 2 = _ from h2, show vs 5 = _ from h5, show vs 8 = _ from h8, show vs 11 = _ from h11]
      go_wp2_with fail
      exact ⟨rfl, _, rfl, grew_alloc (grew_refl _) _, ⟨_, rfl, rd_made y _ _⟩⟩
    · intro vs y hg hd
      obtain ⟨h12, _⟩ := hd
      replace h12 := h12 rfl
      simp only [actOf, List.take_succ_cons, List.take_zero, List.drop_succ_cons, List.drop_zero, Act.put, List.setIfInBounds_toArray, List.set_cons_succ, List.set_cons_zero, Nat.reduceAdd]
      obtain ⟨A4, hv, r4⟩ := FourS.out h12
      rw [hv]
      go_wp2_with (go_at_call 55; refine (CJ.out A4 y r4).mono ?_; rintro e z ⟨rfl, gz⟩)
      exact ⟨rfl, _, rfl, gz, rfl⟩
  · intro vs y hg hJ
    have j0 : vs 0 = .pointer (some ⟨w.heap.size, 0, none⟩) := hJ 0 (by decide)
    have j1 : vs 1 = .int .i64 who := hJ 1 (by decide)
    have j2 : vs 2 = .string t0 := hJ 2 (by decide)
    have j3 : vs 3 = .pointer (some ⟨w.heap.size, 1, none⟩) := hJ 3 (by decide)
    have j4 : vs 4 = .int .i64 leaf := hJ 4 (by decide)
    have j5 : vs 5 = .string t1 := hJ 5 (by decide)
    have j6 : vs 6 = .pointer (some ⟨w.heap.size, 2, none⟩) := hJ 6 (by decide)
    have j7 : vs 7 = .slice (some ⟨w.heap.size, 2, none⟩) 18 18 := hJ 7 (by decide)
    have j8 : vs 8 = .string t2 := hJ 8 (by decide)
    have j9 : vs 9 = .pointer (some ⟨w.heap.size, 20, none⟩) := hJ 9 (by decide)
    have j10 : vs 10 = .slice A l.length c := hJ 10 (by decide)
    have j11 : vs 11 = .string t3 := hJ 11 (by decide)
    have j13 : vs 13 = .string tj := hJ 13 (by decide)
    simp only [actOf, List.take_succ_cons, List.take_zero, List.drop_succ_cons, List.drop_zero, Act.put, List.setIfInBounds_toArray, List.set_cons_succ, List.set_cons_zero, Nat.reduceAdd]
    rw [j13]
    clear hJ j0 j1 j2 j3 j4 j5 j6 j7 j8 j9 j10 j11 j13
    go_wp2_with fail
    go_ret
    exact ⟨rfl, grew_trans G0 hg⟩
end Go.Proofs.YtpgbfglfgcidaaaGreatDoor
