/- block.num, Words, Digest of a bare block; copies of it (mktrb.py). -/
import Derived.Laws.MakeOwn
import Derived.Test.YtbohmmcmlabcdaaDoorPax
import Derived.Test.YtbohmmcmlabcdaaDoorPag
import Derived.Test.YtbohmmcmlabcdaaDoorPaw
import Derived.Test.YtbohmmcmlabcdaaDoorPak
import Derived.Test.YtbohmmcmlabcdaaDoorPam
import Derived.Test.YtbohmmcmlabcdaaDoorPaj
namespace Go.Proofs.YtbohmmcmlabcdaaDoor
set_option linter.unusedSimpArgs false
set_option linter.unusedVariables false
open Go.RowKit
set_option linter.unusedVariables false
set_option linter.unnecessarySimpa false
set_option linter.unusedSimpArgs false
def hxB (n : Nat) : ByteArray := ⟨(hexL n).toArray⟩
theorem textd_ok (n : Nat) (h : n < 18446744073709551616) (w : World) (hs : Std w) : Calls Tryd.prog 40 #[.int .u64 (n : Nat)] w fun e w' => e = .returned (.string (hxB n)) ∧ Grew w w' := by
 have := text_any (n : Int) ⟨by omega, by omega⟩ w
 rwa [Int.toNat_natCast] at this
set_option maxRecDepth 100000 in
theorem bnum_ok (n : Int) (h : in64 n) (w : World) (hs : Std w) : Calls Tryd.prog 39 #[.int .i64 n] w fun e w' => e = .returned (.string ⟨(Lib.itoa n).toArray⟩) ∧ Grew w w' := by
 have C := Lib.hid (num_ok n h.1 h.2 w hs)
 clear hs h
 go_enter Tryd.func39, Tryd.ntmps39
 go_wp2_with fail
 refine (C.out).mono ?_
 rintro e w1 ⟨rfl, g1⟩
 go_wp2_with fail
 go_ret
 exact ⟨rfl, g1⟩
structure SevenS (w : World) (l : List ByteArray) (v : Value) : Prop where
 out : ∃ A, v = .slice A 7 7 ∧ Rd w w.heap.size A (strL l)
theorem SevenS.gr {w w' : World} {l : List ByteArray} {v : Value} (h : SevenS w l v) (g : Grew w w') : SevenS w' l v := by
 obtain ⟨A, h1, h2⟩ := h.out
 exact ⟨A, h1, h2.gr g⟩
theorem nb_info : (Tryd.prog.info? 33).map (·.size) = some 8 := by kernel_rfl
theorem qc_info : (Tryd.prog.info? 30).map (·.size) = some 3 := by kernel_rfl
set_option maxRecDepth 100000 in
set_option maxHeartbeats 2000000 in
theorem bwords_ok (n : NB) (h : n.b.ok) (w : World) (hS : Std w) :
 Calls Tryd.prog 26 #[.agg n.C] w fun e w' => e = .returned (.string ⟨(blkW n.b).toArray⟩) ∧ Grew w w' := by
 have z0 := Ag.new w 33 n.C
 have g0 := grew_alloc (grew_refl w) (.cells n.C 33)
 have HS := Lib.hid hS
 have hlen := blkW_len n.b h
 have C1 := Lib.hid (fun W hW => bnum_ok n.b.v h.v W hW)
 have C2 := Lib.hid (fun W hW => textd_ok n.b.p h.p W hW)
 have C3 := Lib.hid (fun W hW => bnum_ok n.b.qv h.qv W hW)
 have C4 := Lib.hid (fun W hW => textd_ok n.b.qb h.qb W hW)
 have C5 := Lib.hid (fun W hW => num_ok n.b.lo h.lo.1 h.lo.2 W hW)
 have C6 := Lib.hid (fun W hW => num_ok n.b.hi h.hi.1 h.hi.2 W hW)
 have CJ : Hid (∀ (A4 : Option Addr) (W : World), Rd W W.heap.size A4 (strL [⟨#[98, 108, 111, 99, 107]⟩, ⟨(Lib.itoa n.b.v).toArray⟩, hxB n.b.p, ⟨(Lib.itoa n.b.qv).toArray⟩, hxB n.b.qb, ⟨(Lib.itoa n.b.lo).toArray⟩, ⟨(Lib.itoa n.b.hi).toArray⟩]) → Calls Tryd.prog 43 #[.slice A4 7 7] W fun e w' => e = .returned (.string ⟨(blkW n.b).toArray⟩) ∧ Grew W w') := Lib.hid (fun A4 W hR => by
  have := join_ok A4 7 [⟨#[98, 108, 111, 99, 107]⟩, ⟨(Lib.itoa n.b.v).toArray⟩, hxB n.b.p, ⟨(Lib.itoa n.b.qv).toArray⟩, hxB n.b.qb, ⟨(Lib.itoa n.b.lo).toArray⟩, ⟨(Lib.itoa n.b.hi).toArray⟩] (by simp) (by simp only [blkW] at hlen; simp [bys, hxB, tagBlk] at hlen ⊢; omega) W hR
  simpa [bys, blkW, hxB, tagBlk] using this)
 clear hS h hlen
 generalize (⟨(blkW n.b).toArray⟩ : ByteArray) = tj at *
 generalize (⟨(Lib.itoa n.b.v).toArray⟩ : ByteArray) = t1 at *
 generalize hxB n.b.p = t2 at *
 generalize (⟨(Lib.itoa n.b.qv).toArray⟩ : ByteArray) = t3 at *
 generalize hxB n.b.qb = t4 at *
 generalize (⟨(Lib.itoa n.b.lo).toArray⟩ : ByteArray) = t5 at *
 generalize (⟨(Lib.itoa n.b.hi).toArray⟩ : ByteArray) = t6 at *
 go_enter Tryd.func26, Tryd.ntmps26
 go_upto_region 1 with fail
 generalize w.alloc (.cells n.C 33) = w1 at *
 have G0 := Lib.hid g0
 have HCV : Hid (∀ y, Grew w1 y → y.cell? ⟨w.heap.size, 0, none⟩ = some (.int .i64 n.b.v)) := Lib.hid (fun y g => by simpa [NB.C] using (z0.grew g).cell 0 _ rfl)
 have HCP : Hid (∀ y, Grew w1 y → y.cell? ⟨w.heap.size, 1, none⟩ = some (.int .u64 (n.b.p : Nat))) := Lib.hid (fun y g => by simpa [NB.C] using (z0.grew g).cell 1 _ rfl)
 have HCQV : Hid (∀ y, Grew w1 y → y.cell? ⟨w.heap.size, 2, none⟩ = some (.int .i64 n.b.qv)) := Lib.hid (fun y g => by simpa [NB.C] using (z0.grew g).cell 2 _ rfl)
 have HCQB : Hid (∀ y, Grew w1 y → y.cell? ⟨w.heap.size, 3, none⟩ = some (.int .u64 (n.b.qb : Nat))) := Lib.hid (fun y g => by simpa [NB.C] using (z0.grew g).cell 3 _ rfl)
 have HCLO : Hid (∀ y, Grew w1 y → y.cell? ⟨w.heap.size, 5, none⟩ = some (.int .i64 n.b.lo)) := Lib.hid (fun y g => by simpa [NB.C] using (z0.grew g).cell 5 _ rfl)
 have HCHI : Hid (∀ y, Grew w1 y → y.cell? ⟨w.heap.size, 6, none⟩ = some (.int .i64 n.b.hi)) := Lib.hid (fun y g => by simpa [NB.C] using (z0.grew g).cell 6 _ rfl)
 have HCR : Hid (∀ y, Grew w1 y → y.cell? ⟨w.heap.size, 7, none⟩ = some (.slice n.A' 0 n.c')) := Lib.hid (fun y g => by simpa [NB.C] using (z0.grew g).cell 7 _ rfl)
 clear z0 g0
 refine wp_region_rel 21 (fun ix9 => match ix9 with
  | 0 => fun v _ => v = .pointer (some ⟨w.heap.size, 0, none⟩)
  | 1 => fun v _ => v = .int .i64 n.b.v
  | 2 => fun v _ => v = .string t1
  | 3 => fun v _ => v = .pointer (some ⟨w.heap.size, 1, none⟩)
  | 4 => fun v _ => v = .int .u64 (n.b.p : Nat)
  | 5 => fun v _ => v = .string t2
  | 6 => fun v _ => v = .pointer (some ⟨w.heap.size, 2, none⟩)
  | 7 => fun v _ => v = .pointer (some ⟨w.heap.size, 2, none⟩)
  | 8 => fun v _ => v = .int .i64 n.b.qv
  | 9 => fun v _ => v = .string t3
  | 10 => fun v _ => v = .pointer (some ⟨w.heap.size, 2, none⟩)
  | 11 => fun v _ => v = .pointer (some ⟨w.heap.size, 3, none⟩)
  | 12 => fun v _ => v = .int .u64 (n.b.qb : Nat)
  | 13 => fun v _ => v = .string t4
  | 14 => fun v _ => v = .pointer (some ⟨w.heap.size, 5, none⟩)
  | 15 => fun v _ => v = .int .i64 n.b.lo
  | 16 => fun v _ => v = .string t5
  | 17 => fun v _ => v = .pointer (some ⟨w.heap.size, 6, none⟩)
  | 18 => fun v _ => v = .int .i64 n.b.hi
  | 19 => fun v _ => v = .string t6
  | 20 => fun v z => SevenS z [⟨#[98, 108, 111, 99, 107]⟩, t1, t2, t3, t4, t5, t6] v
  | _ => fun _ _ => True) (by kernel_rfl) (by kernel_rfl) ?_ ?_ ?_
 ·intro i v x y h hg
  match i, h with
  | 0, h | 1, h | 2, h | 3, h | 4, h | 5, h | 6, h | 7, h | 8, h | 9, h | 10, h | 11, h | 12, h | 13, h | 14, h | 15, h | 16, h | 17, h | 18, h | 19, h => exact h
  | 20, h => exact SevenS.gr h hg
  | m + 21, _ => trivial
 ·refine ⟨?_, ?_, ?_, ?_, ?_, ?_, ?_, ?_, ?_, ?_, ?_, ?_, ?_, ?_, ?_, ?_, ?_, ?_, ?_, ?_, ?_, trivial⟩
  ·intro vs y hg hd
   simp only [actOf, tk1, tk0, dr1, dr0, Act.put, si1, st1, st0, Nat.reduceAdd]
   go_wp2_with fail
   exact ⟨rfl, _, rfl, grew_refl _, rfl⟩
  ·intro vs y hg hd
   obtain ⟨h0, _⟩ := hd
   replace h0 := h0 rfl
   simp only [actOf, tk1, tk0, dr1, dr0, Act.put, si1, st1, st0, Nat.reduceAdd]
   rw [show vs 0 = _ from h0]
   have hc := HCV.out y hg
   go_wp2_with fail
   exact ⟨rfl, _, rfl, grew_refl _, rfl⟩
  ·intro vs y hg hd
   obtain ⟨h1, _⟩ := hd
   replace h1 := h1 rfl
   simp only [actOf, tk1, tk0, dr1, dr0, Act.put, si1, st1, st0, Nat.reduceAdd]
   rw [show vs 1 = _ from h1]
   go_wp2_with (go_at_call 39; refine (C1.out y (HS.out.grew (grew_trans G0.out hg))).mono ?_; rintro e z ⟨rfl, gz⟩)
   exact ⟨rfl, _, rfl, gz, rfl⟩
  ·intro vs y hg hd
   simp only [actOf, tk1, tk0, dr1, dr0, Act.put, si1, st1, st0, Nat.reduceAdd]
   go_wp2_with fail
   exact ⟨rfl, _, rfl, grew_refl _, rfl⟩
  ·intro vs y hg hd
   obtain ⟨h3, _⟩ := hd
   replace h3 := h3 rfl
   simp only [actOf, tk1, tk0, dr1, dr0, Act.put, si1, st1, st0, Nat.reduceAdd]
   rw [show vs 3 = _ from h3]
   have hc := HCP.out y hg
   go_wp2_with fail
   exact ⟨rfl, _, rfl, grew_refl _, rfl⟩
  ·intro vs y hg hd
   obtain ⟨h4, _⟩ := hd
   replace h4 := h4 rfl
   simp only [actOf, tk1, tk0, dr1, dr0, Act.put, si1, st1, st0, Nat.reduceAdd]
   rw [show vs 4 = _ from h4]
   go_wp2_with (go_at_call 40; refine (C2.out y (HS.out.grew (grew_trans G0.out hg))).mono ?_; rintro e z ⟨rfl, gz⟩)
   exact ⟨rfl, _, rfl, gz, rfl⟩
  ·intro vs y hg hd
   simp only [actOf, tk1, tk0, dr1, dr0, Act.put, si1, st1, st0, Nat.reduceAdd]
   go_wp2_with fail
   exact ⟨rfl, _, rfl, grew_refl _, rfl⟩
  ·intro vs y hg hd
   obtain ⟨h6, _⟩ := hd
   replace h6 := h6 rfl
   simp only [actOf, tk1, tk0, dr1, dr0, Act.put, si1, st1, st0, Nat.reduceAdd]
   rw [show vs 6 = _ from h6]
   go_wp2_with fail
   exact ⟨rfl, _, rfl, grew_refl _, rfl⟩
  ·intro vs y hg hd
   obtain ⟨h7, _⟩ := hd
   replace h7 := h7 rfl
   simp only [actOf, tk1, tk0, dr1, dr0, Act.put, si1, st1, st0, Nat.reduceAdd]
   rw [show vs 7 = _ from h7]
   have hc := HCQV.out y hg
   go_wp2_with fail
   exact ⟨rfl, _, rfl, grew_refl _, rfl⟩
  ·intro vs y hg hd
   obtain ⟨h8, _⟩ := hd
   replace h8 := h8 rfl
   simp only [actOf, tk1, tk0, dr1, dr0, Act.put, si1, st1, st0, Nat.reduceAdd]
   rw [show vs 8 = _ from h8]
   go_wp2_with (go_at_call 39; refine (C3.out y (HS.out.grew (grew_trans G0.out hg))).mono ?_; rintro e z ⟨rfl, gz⟩)
   exact ⟨rfl, _, rfl, gz, rfl⟩
  ·intro vs y hg hd
   simp only [actOf, tk1, tk0, dr1, dr0, Act.put, si1, st1, st0, Nat.reduceAdd]
   go_wp2_with fail
   exact ⟨rfl, _, rfl, grew_refl _, rfl⟩
  ·intro vs y hg hd
   obtain ⟨h10, _⟩ := hd
   replace h10 := h10 rfl
   simp only [actOf, tk1, tk0, dr1, dr0, Act.put, si1, st1, st0, Nat.reduceAdd]
   rw [show vs 10 = _ from h10]
   go_wp2_with fail
   exact ⟨rfl, _, rfl, grew_refl _, rfl⟩
  ·intro vs y hg hd
   obtain ⟨h11, _⟩ := hd
   replace h11 := h11 rfl
   simp only [actOf, tk1, tk0, dr1, dr0, Act.put, si1, st1, st0, Nat.reduceAdd]
   rw [show vs 11 = _ from h11]
   have hc := HCQB.out y hg
   go_wp2_with fail
   exact ⟨rfl, _, rfl, grew_refl _, rfl⟩
  ·intro vs y hg hd
   obtain ⟨h12, _⟩ := hd
   replace h12 := h12 rfl
   simp only [actOf, tk1, tk0, dr1, dr0, Act.put, si1, st1, st0, Nat.reduceAdd]
   rw [show vs 12 = _ from h12]
   go_wp2_with (go_at_call 40; refine (C4.out y (HS.out.grew (grew_trans G0.out hg))).mono ?_; rintro e z ⟨rfl, gz⟩)
   exact ⟨rfl, _, rfl, gz, rfl⟩
  ·intro vs y hg hd
   simp only [actOf, tk1, tk0, dr1, dr0, Act.put, si1, st1, st0, Nat.reduceAdd]
   go_wp2_with fail
   exact ⟨rfl, _, rfl, grew_refl _, rfl⟩
  ·intro vs y hg hd
   obtain ⟨h14, _⟩ := hd
   replace h14 := h14 rfl
   simp only [actOf, tk1, tk0, dr1, dr0, Act.put, si1, st1, st0, Nat.reduceAdd]
   rw [show vs 14 = _ from h14]
   have hc := HCLO.out y hg
   go_wp2_with fail
   exact ⟨rfl, _, rfl, grew_refl _, rfl⟩
  ·intro vs y hg hd
   obtain ⟨h15, _⟩ := hd
   replace h15 := h15 rfl
   simp only [actOf, tk1, tk0, dr1, dr0, Act.put, si1, st1, st0, Nat.reduceAdd]
   rw [show vs 15 = _ from h15]
   go_wp2_with (go_at_call 41; refine (C5.out y (HS.out.grew (grew_trans G0.out hg))).mono ?_; rintro e z ⟨rfl, gz⟩)
   exact ⟨rfl, _, rfl, gz, rfl⟩
  ·intro vs y hg hd
   simp only [actOf, tk1, tk0, dr1, dr0, Act.put, si1, st1, st0, Nat.reduceAdd]
   go_wp2_with fail
   exact ⟨rfl, _, rfl, grew_refl _, rfl⟩
  ·intro vs y hg hd
   obtain ⟨h17, _⟩ := hd
   replace h17 := h17 rfl
   simp only [actOf, tk1, tk0, dr1, dr0, Act.put, si1, st1, st0, Nat.reduceAdd]
   rw [show vs 17 = _ from h17]
   have hc := HCHI.out y hg
   go_wp2_with fail
   exact ⟨rfl, _, rfl, grew_refl _, rfl⟩
  ·intro vs y hg hd
   obtain ⟨h18, _⟩ := hd
   replace h18 := h18 rfl
   simp only [actOf, tk1, tk0, dr1, dr0, Act.put, si1, st1, st0, Nat.reduceAdd]
   rw [show vs 18 = _ from h18]
   go_wp2_with (go_at_call 41; refine (C6.out y (HS.out.grew (grew_trans G0.out hg))).mono ?_; rintro e z ⟨rfl, gz⟩)
   exact ⟨rfl, _, rfl, gz, rfl⟩
  ·intro vs y hg hd
   obtain ⟨h2, h5, h9, h13, h16, h19, _⟩ := hd
   replace h2 := h2 rfl
   replace h5 := h5 rfl
   replace h9 := h9 rfl
   replace h13 := h13 rfl
   replace h16 := h16 rfl
   replace h19 := h19 rfl
   simp only [actOf, tk1, tk0, dr1, dr0, Act.put, si1, st1, st0, Nat.reduceAdd]
   rw [show vs 2 = _ from h2, show vs 5 = _ from h5, show vs 9 = _ from h9, show vs 13 = _ from h13, show vs 16 = _ from h16, show vs 19 = _ from h19]
   go_wp2_with fail
   exact ⟨rfl, _, rfl, grew_alloc (grew_refl _) _, ⟨_, rfl, rd_made y _ _⟩⟩
 ·intro vs y hg hJ
  have j0 : vs 0 = .pointer (some ⟨w.heap.size, 0, none⟩) := hJ 0 (by decide)
  have j1 : vs 1 = .int .i64 n.b.v := hJ 1 (by decide)
  have j2 : vs 2 = .string t1 := hJ 2 (by decide)
  have j3 : vs 3 = .pointer (some ⟨w.heap.size, 1, none⟩) := hJ 3 (by decide)
  have j4 : vs 4 = .int .u64 (n.b.p : Nat) := hJ 4 (by decide)
  have j5 : vs 5 = .string t2 := hJ 5 (by decide)
  have j6 : vs 6 = .pointer (some ⟨w.heap.size, 2, none⟩) := hJ 6 (by decide)
  have j7 : vs 7 = .pointer (some ⟨w.heap.size, 2, none⟩) := hJ 7 (by decide)
  have j8 : vs 8 = .int .i64 n.b.qv := hJ 8 (by decide)
  have j9 : vs 9 = .string t3 := hJ 9 (by decide)
  have j10 : vs 10 = .pointer (some ⟨w.heap.size, 2, none⟩) := hJ 10 (by decide)
  have j11 : vs 11 = .pointer (some ⟨w.heap.size, 3, none⟩) := hJ 11 (by decide)
  have j12 : vs 12 = .int .u64 (n.b.qb : Nat) := hJ 12 (by decide)
  have j13 : vs 13 = .string t4 := hJ 13 (by decide)
  have j14 : vs 14 = .pointer (some ⟨w.heap.size, 5, none⟩) := hJ 14 (by decide)
  have j15 : vs 15 = .int .i64 n.b.lo := hJ 15 (by decide)
  have j16 : vs 16 = .string t5 := hJ 16 (by decide)
  have j17 : vs 17 = .pointer (some ⟨w.heap.size, 6, none⟩) := hJ 17 (by decide)
  have j18 : vs 18 = .int .i64 n.b.hi := hJ 18 (by decide)
  have j19 : vs 19 = .string t6 := hJ 19 (by decide)
  have s26 := hJ 20 (by decide)
  clear hJ
  simp only [actOf, tk1, tk0, dr1, dr0, Act.put, si1, st1, st0, Nat.reduceAdd]
  obtain ⟨A7, hv7, r7⟩ := s26.out
  rw [hv7]
  clear j0 j1 j2 j3 j4 j5 j6 j7 j8 j9 j10 j11 j12 j13 j14 j15 j16 j17 j18 j19 s26 hv7
  have hc := HCR.out y hg
  go_wp2_with fail
  go_loopw [3, 30] (fun rv iv wr => iv = .int .i64 0 ∧ rv = .slice A7 7 7 ∧ wr = y) (fun _ _ _ => 0)
  case atStart => exact ⟨rfl, rfl, rfl⟩
  case round =>
   obtain ⟨rfl, rfl, rfl⟩ := hrel
   go_wp2_with fail
   refine (CJ.out A7 _ r7).mono ?_
   rintro e z ⟨rfl, gz⟩
   go_wp2_with fail
   go_ret
   exact ⟨rfl, grew_trans (grew_trans G0.out hg) gz⟩
set_option maxRecDepth 100000 in
theorem bdigest_ok (n : NB) (h : n.b.ok) (w : World) (hS : Std w) :
 Calls Tryd.prog 10 #[.agg n.C] w fun e w' => e = .returned (.int .u64 (blkD n.b : Nat)) ∧ Grew w w' := by
 have hub := Tryd.underlying33
 have SIC : Hid ((Tryd.prog.info? 33).map (·.size) = some n.C.toList.length) := Lib.hid nb_info
 have z1 := Ag.new w 33 n.C
 have G1 := grew_alloc (grew_refl w) (.cells n.C 33)
 have CW := Lib.hid (bwords_ok n h _ (hS.grew G1))
 have CH := Lib.hid (fun W => of_any ⟨#[98, 108, 111, 99, 107]⟩ ⟨(blkW n.b).toArray⟩ (by decide) (by have := blkW_len n.b h; simp [ByteArray.size]; omega) W)
 have e1 : sumL (⟨#[98, 108, 111, 99, 107]⟩ : ByteArray).data.toList (⟨(blkW n.b).toArray⟩ : ByteArray).data.toList = sumL tagBlk (blkW n.b) := by simp [tagBlk]
 rw [e1] at CH
 have hm := z1.cell
 have hc : (w.alloc (.cells n.C 33)).cell? ⟨w.heap.size, 0, none⟩ = some (.int .i64 n.b.v) := by simpa [NB.C] using z1.cell 0 _ rfl
 clear e1 hS z1 h
 by_cases hv : n.b.v = 0
 ·have hd : blkD n.b = 0 := if_pos hv
  rw [hd]
  rw [hv] at hc
  clear hd hv CW CH
  generalize n.C = gc at *
  go_enter Tryd.func10, Tryd.ntmps10
  go_wp2_with fail
  go_ret
  exact ⟨rfl, G1⟩
 ·have hd : blkD n.b = sumL tagBlk (blkW n.b) := if_neg hv
  rw [hd]
  have e5 : (n.b.v == 0) = false := by simpa using hv
  clear hd hv
  generalize sumL tagBlk (blkW n.b) = d at *
  generalize (⟨(blkW n.b).toArray⟩ : ByteArray) = tj at *
  generalize n.C = gc at *
  generalize n.b.v = bv at *
  go_enter Tryd.func10, Tryd.ntmps10
  go_wp2_with (with_reducible refine wpList_load_mid rfl 33 (.tmp 1) rfl w.heap.size 0 rfl gc.toList _ hm hub rfl SIC.out ?_; simp only [Array.toArray_toList])
  refine (CW.out).mono ?_
  rintro e w1 ⟨rfl, g1⟩
  go_wp2_with fail
  refine (CH.out w1).mono ?_
  rintro e w2 ⟨rfl, rfl⟩
  go_wp2_with fail
  go_ret
  exact ⟨rfl, grew_trans G1 g1⟩
end Go.Proofs.YtbohmmcmlabcdaaDoor

namespace Go.Proofs.YtbohmmcmlabcdaaDoor
set_option linter.unusedSimpArgs false
set_option linter.unusedVariables false
open Go.RowKit
set_option linter.unusedVariables false
set_option linter.unnecessarySimpa false
set_option linter.unusedSimpArgs false
/-- cells laid into the middle of a block -/
theorem Ag.putMid {w : World} {b : Nat} {cs : List Value} (h : Ag w b cs) (o : Nat) (vs : List Value) (hl : o + vs.length ≤ cs.length) : Ag (w.setCells b o vs) b (cs.take o ++ vs ++ cs.drop (o + vs.length)) := by
 have ht : w.there b o vs.length := fun i hi => by have := h.there (o + i) (by omega); simpa using this
 have hs := World.rangeAt_setCells_same w b o vs ht
 have hlt : (cs.take o).length = o := by rw [List.length_take]; omega
 have hlen : (cs.take o ++ vs ++ cs.drop (o + vs.length)).length = cs.length := by
  simp only [List.length_append, List.length_take, List.length_drop]; omega
 refine ⟨fun j v hj => ?_, fun j hj => ⟨?_, ?_⟩, Nat.lt_of_lt_of_le h.lt (setCells_kp vs b o w).size⟩
 ·by_cases h1 : j < o
  ·rw [List.append_assoc, List.getElem?_append_left (by rw [hlt]; exact h1), List.getElem?_take_of_lt h1] at hj
   rw [World.cell?_setCells_out b vs o w _ (fun _ _ => .inl (by simpa using h1))]
   exact h.cell j v hj
  ·by_cases h2 : j < o + vs.length
   ·rw [List.append_assoc, List.getElem?_append_right (by rw [hlt]; omega), hlt, List.getElem?_append_left (by omega)] at hj
    have := hs (j - o) v hj
    rwa [show o + (j - o) = 0 + j by omega] at this
   ·rw [List.getElem?_append_right (by rw [List.length_append, hlt]; omega), List.length_append, hlt, List.getElem?_drop] at hj
    rw [World.cell?_setCells_out b vs o w _ (fun _ _ => .inr (by show o + vs.length ≤ 0 + j; omega))]
    exact h.cell j v (by rw [← hj]; congr 1; omega)
 ·exact World.isSome_setCells b vs o w _ (h.there j (by omega)).1
 ·rw [World.frozen?_setCells]; exact (h.there j (by omega)).2
theorem empty_row {w : World} {base : Nat} {e : TypeId} {size : Nat} {v : Value} (h : w.ownsRow base e size v 0 []) : ∃ A c, v = .slice A 0 c := by
 rcases h.2 with ⟨rfl, _⟩ | ⟨g, cap, cur, rfl, _⟩
 ·exact ⟨none, 0, rfl⟩
 ·exact ⟨_, _, rfl⟩
set_option maxRecDepth 100000 in
theorem mapvote_inf : (Tryd.prog.info? 92).map (fun i => (i.zero, i.size, i.bytes)) = some (some (.agg (#[.int .i64 0, .int .u64 0, .int .i64 0, .int .i64 0, .int .i64 0, .int .u64 0, .int .u64 0, .int .u64 0, .int .u64 0, .int .u64 0, .int .u64 0, .int .u64 0, .int .u64 0, .int .u64 0, .int .u64 0, .int .u64 0, .int .u64 0, .int .u64 0, .int .u64 0, .int .u64 0, .int .u64 0, .int .u64 0, .int .u64 0, .slice none 0 0] : Array Value)), 24, 208) := by kernel_rfl
set_option maxRecDepth 100000 in
set_option maxHeartbeats 1000000 in
theorem mapvote_ok (A : Option Addr) (c : Nat) (w : World) : Calls Tryd.prog 46 #[.slice A 0 c, .func (.func 47) #[] #[]] w fun e w' => ∃ B k, e = .returned (.slice B 0 k) ∧ Grew w w' := by
 obtain ⟨i0, hi, hz0, hz1, hz2⟩ := info_parts mapvote_inf
 obtain ⟨w1, hmk, hown1, hgrow1⟩ := run_make_own (P := Tryd.prog) w w.heap.size 28 92 i0 (.agg (#[.int .i64 0, .int .u64 0, .int .i64 0, .int .i64 0, .int .i64 0, .int .u64 0, .int .u64 0, .int .u64 0, .int .u64 0, .int .u64 0, .int .u64 0, .int .u64 0, .int .u64 0, .int .u64 0, .int .u64 0, .int .u64 0, .int .u64 0, .int .u64 0, .int .u64 0, .int .u64 0, .int .u64 0, .int .u64 0, .int .u64 0, .slice none 0 0] : Array Value)) 24 Tryd.underlying28 hi hz0 hz1 .i64 .i64 0 (by rw [hz2]; omega) (by unfold maxLen; omega) (Nat.le_refl _)
 have hg1 : Grew w w1 := (Below.refl _ w).grown hgrow1 (Nat.le_refl _) (fun j hj => by cases hj)
 obtain ⟨B, k, hB⟩ := empty_row hown1
 rw [hB, show ((0 : Nat) : Int) = 0 from rfl] at hmk
 clear hgrow1 hown1 hB hz0 hz1 hz2 hi
 go_enter Tryd.func46, Tryd.ntmps46
 go_wp2_with fail
 clear hmk
 go_loopw [5, 13] (fun rv iv wr => rv = .slice B 0 k ∧ iv = .int .i64 0 ∧ wr = w1) (fun _ _ _ => 0)
 case atStart => exact ⟨rfl, rfl, rfl⟩
 case round =>
  obtain ⟨rfl, rfl, rfl⟩ := hrel
  go_wp2_with fail
  go_ret
  exact ⟨B, k, rfl, hg1⟩
set_option maxRecDepth 100000 in
theorem maprep_inf : (Tryd.prog.info? 80).map (fun i => (i.zero, i.size, i.bytes)) = some (some (.agg (#[.int .i64 0, .int .i64 0, .int .i64 0, .slice none 0 0, .int .i64 0, .int .i64 0, .int .u64 0, .int .u64 0, .int .u64 0, .int .u64 0, .int .u64 0, .int .u64 0, .int .u64 0, .int .u64 0, .int .u64 0, .int .u64 0, .int .u64 0, .int .u64 0, .int .u64 0, .int .u64 0, .int .u64 0, .int .u64 0, .int .u64 0, .int .u64 0, .slice none 0 0] : Array Value)), 25, 232) := by kernel_rfl
set_option maxRecDepth 100000 in
set_option maxHeartbeats 1000000 in
theorem maprep_ok (A : Option Addr) (c : Nat) (w : World) : Calls Tryd.prog 36 #[.slice A 0 c, .func (.func 37) #[] #[]] w fun e w' => ∃ B k, e = .returned (.slice B 0 k) ∧ Grew w w' := by
 obtain ⟨i0, hi, hz0, hz1, hz2⟩ := info_parts maprep_inf
 obtain ⟨w1, hmk, hown1, hgrow1⟩ := run_make_own (P := Tryd.prog) w w.heap.size 31 80 i0 (.agg (#[.int .i64 0, .int .i64 0, .int .i64 0, .slice none 0 0, .int .i64 0, .int .i64 0, .int .u64 0, .int .u64 0, .int .u64 0, .int .u64 0, .int .u64 0, .int .u64 0, .int .u64 0, .int .u64 0, .int .u64 0, .int .u64 0, .int .u64 0, .int .u64 0, .int .u64 0, .int .u64 0, .int .u64 0, .int .u64 0, .int .u64 0, .int .u64 0, .slice none 0 0] : Array Value)) 25 Tryd.underlying31 hi hz0 hz1 .i64 .i64 0 (by rw [hz2]; omega) (by unfold maxLen; omega) (Nat.le_refl _)
 have hg1 : Grew w w1 := (Below.refl _ w).grown hgrow1 (Nat.le_refl _) (fun j hj => by cases hj)
 obtain ⟨B, k, hB⟩ := empty_row hown1
 rw [hB, show ((0 : Nat) : Int) = 0 from rfl] at hmk
 clear hgrow1 hown1 hB hz0 hz1 hz2 hi
 go_enter Tryd.func36, Tryd.ntmps36
 go_wp2_with fail
 clear hmk
 go_loopw [5, 13] (fun rv iv wr => rv = .slice B 0 k ∧ iv = .int .i64 0 ∧ wr = w1) (fun _ _ _ => 0)
 case atStart => exact ⟨rfl, rfl, rfl⟩
 case round =>
  obtain ⟨rfl, rfl, rfl⟩ := hrel
  go_wp2_with fail
  go_ret
  exact ⟨B, k, rfl, hg1⟩
def qcC (v : Int) (b : Nat) (A : Option Addr) (c : Nat) : Array Value := #[.int .i64 v, .int .u64 b, .slice A 0 c]
theorem qcC_one (v : Int) (b : Nat) (A : Option Addr) (c : Nat) : (qcC v b A c).all (·.oneCell') = true := by simp [qcC, Value.oneCell']
set_option maxRecDepth 100000 in
set_option maxHeartbeats 1000000 in
theorem qcopy_ok (v : Int) (b : Nat) (A : Option Addr) (c : Nat) (w : World) : Calls Tryd.prog 35 #[.agg (qcC v b A c)] w fun e w' => ∃ B k, e = .returned (.agg (qcC v b B k)) ∧ Grew w w' := by
 have z1 := (Ag.new w 30 (qcC v b A c)).grew (grew_alloc (grew_refl _) (.cells (#[.int .i64 0, .int .u64 0, .slice none 0 0]) 30))
 have z2 : Ag ((w.alloc (.cells (qcC v b A c) 30)).alloc (.cells (#[.int .i64 0, .int .u64 0, .slice none 0 0]) 30)) (w.heap.size + 1) (#[.int .i64 0, .int .u64 0, .slice none 0 0] : Array Value).toList := by
  have := Ag.new (w.alloc (.cells (qcC v b A c) 30)) 30 (#[.int .i64 0, .int .u64 0, .slice none 0 0])
  simpa using this
 have G0 := grew_alloc (grew_alloc (grew_refl w) (.cells (qcC v b A c) 30)) (.cells (#[.int .i64 0, .int .u64 0, .slice none 0 0]) 30)
 have hc2 : ((w.alloc (.cells (qcC v b A c) 30)).alloc (.cells (#[.int .i64 0, .int .u64 0, .slice none 0 0]) 30)).cell? ⟨w.heap.size, 2, none⟩ = some (.slice A 0 c) := by simpa [qcC] using z1.cell 2 _ rfl
 have hut := Tryd.underlying30
 have CC := Lib.hid (fun W => mapvote_ok A c W)
 have HZI := Lib.hid z1
 have HZ2 := Lib.hid z2
 have HG0 := Lib.hid G0
 clear z1 z2 G0
 go_enter Tryd.func35, Tryd.ntmps35
 go_wp2_with fail
 refine (CC.out _).mono ?_
 rintro e w1 ⟨B, k, rfl, g1⟩
 have z1 := HZI.out.grew g1
 have z2' := HZ2.out.grew g1
 have G1 := grew_trans HG0.out g1
 have hc1 : w1.cell? ⟨w.heap.size, 2, none⟩ = some (.slice A 0 c) := by simpa [qcC] using z1.cell 2 _ rfl
 have fc1 : w1.frozen? ⟨w.heap.size, 2, none⟩ = false := by simpa using (z1.there 2 (by simp [qcC])).2
 have y1 := z1.putMid 2 [.slice B 0 k] (by simp [qcC])
 have ey : (qcC v b A c).toList.take 2 ++ [Value.slice B 0 k] ++ (qcC v b A c).toList.drop (2 + [Value.slice B 0 k].length) = (qcC v b B k).toList := rfl
 rw [ey, show w1.setCells w.heap.size 2 [.slice B 0 k] = w1.setCell ⟨w.heap.size, 2, none⟩ (.slice B 0 k) from rfl] at y1
 have K1 := kp_set (S := fun j => j = w.heap.size) (kp_refl _ w1) (p := ⟨w.heap.size, 2, none⟩) (.inl rfl) (.slice B 0 k)
 have z3 := z2'.kp K1 (fun e => by omega)
 have G3 : Grew w (w1.setCell ⟨w.heap.size, 2, none⟩ (.slice B 0 k)) := below_kp G1 K1 G1.size (fun i e => by have e' : i = w.heap.size := e; omega)
 clear CC HZI HZ2 HG0 z1 z2' hc2 g1 G1 ey
 have HM := Lib.hid y1.cell
 have SI1 : Hid ((Tryd.prog.info? 30).map (·.size) = some (qcC v b B k).toList.length) := Lib.hid qc_info
 have SI2 : Hid ((Tryd.prog.info? 30).map (·.size) = some (qcC v b B k).size) := Lib.hid qc_info
 have HON := Lib.hid (qcC_one v b B k)
 have HTH : Hid ((w1.setCell ⟨w.heap.size, 2, none⟩ (.slice B 0 k)).there (w.heap.size + 1) 0 (qcC v b B k).size) := Lib.hid (z3.thereN 3 rfl)
 have z4 := Ag.set (vs := (qcC v b B k).toList) z3 rfl
 have G4 : Grew w ((w1.setCell ⟨w.heap.size, 2, none⟩ (.slice B 0 k)).setCells (w.heap.size + 1) 0 (qcC v b B k).toList) := setCells_grew (o := 0) (b := w.heap.size + 1) _ G3 (by omega)
 have hm := HM.out
 clear z3 y1 G3 K1
 go_wp2_with (first
  | (with_reducible refine wpList_load_mid rfl 30 (.tmp 1) rfl w.heap.size 0 rfl (qcC v b B k).toList _ hm hut rfl SI1.out ?_; simp only [Array.toArray_toList])
  | (with_reducible refine wpList_store_mid rfl 30 (.tmp 2) (.tmp 7) rfl (w.heap.size + 1) 0 (qcC v b B k) rfl rfl HTH.out SI2.out HON.out ?_))
 exact bodyPost_ret (ltres_ag1 Tryd.results35 _ _ (w.heap.size + 1) _ _ rfl z4 hut rfl qc_info) rfl ⟨B, k, rfl, G4⟩
theorem nb_qc {w : World} {b : Nat} {n : NB} (h : w.rangeAt b 0 n.C.toList) : w.rangeAt b 2 (qcC n.b.qv n.b.qb n.A n.c).toList := by
 have : w.rangeAt b (0 + 2) (qcC n.b.qv n.b.qb n.A n.c).toList := ltrange_sub (m := 2) h (fun j v hj => by
  match j, hj with
  | 0, hj => exact hj
  | 1, hj => exact hj
  | 2, hj => exact hj
  | j + 3, hj => simp [qcC] at hj)
 rwa [Nat.zero_add] at this
set_option maxRecDepth 100000 in
set_option maxHeartbeats 1000000 in
theorem bcopy_ok (n : NB) (w : World) : Calls Tryd.prog 24 #[.agg n.C] w fun e w' => ∃ m : NB, m.b = n.b ∧ e = .returned (.agg m.C) ∧ Grew w w' := by
 have z1 := (Ag.new w 33 n.C).grew (grew_alloc (grew_refl _) (.cells (#[.int .i64 0, .int .u64 0, .int .i64 0, .int .u64 0, .slice none 0 0, .int .i64 0, .int .i64 0, .slice none 0 0]) 33))
 have z2 : Ag ((w.alloc (.cells n.C 33)).alloc (.cells (#[.int .i64 0, .int .u64 0, .int .i64 0, .int .u64 0, .slice none 0 0, .int .i64 0, .int .i64 0, .slice none 0 0]) 33)) (w.heap.size + 1) (#[.int .i64 0, .int .u64 0, .int .i64 0, .int .u64 0, .slice none 0 0, .int .i64 0, .int .i64 0, .slice none 0 0] : Array Value).toList := by
  have := Ag.new (w.alloc (.cells n.C 33)) 33 (#[.int .i64 0, .int .u64 0, .int .i64 0, .int .u64 0, .slice none 0 0, .int .i64 0, .int .i64 0, .slice none 0 0])
  simpa using this
 have G0 := grew_alloc (grew_alloc (grew_refl w) (.cells n.C 33)) (.cells (#[.int .i64 0, .int .u64 0, .int .i64 0, .int .u64 0, .slice none 0 0, .int .i64 0, .int .i64 0, .slice none 0 0]) 33)
 have hmq := nb_qc z1.cell
 have hut := Tryd.underlying33
 have huq := Tryd.underlying30
 have CQ := Lib.hid (fun W => qcopy_ok n.b.qv n.b.qb n.A n.c W)
 have CR := Lib.hid (fun W => maprep_ok n.A' n.c' W)
 have SIQ : Hid ((Tryd.prog.info? 30).map (·.size) = some (qcC n.b.qv n.b.qb n.A n.c).toList.length) := Lib.hid qc_info
 have HZI := Lib.hid z1
 have HZ2 := Lib.hid z2
 have HG0 := Lib.hid G0
 clear z1 z2 G0
 go_enter Tryd.func24, Tryd.ntmps24
 go_wp2_with (with_reducible refine wpList_load_mid rfl 30 (.tmp 3) rfl w.heap.size 2 rfl (qcC n.b.qv n.b.qb n.A n.c).toList _ hmq huq rfl SIQ.out ?_; simp only [Array.toArray_toList])
 refine (CQ.out _).mono ?_
 rintro e w1 ⟨B, k, rfl, g1⟩
 have z1 := HZI.out.grew g1
 have z2' := HZ2.out.grew g1
 have G1 := grew_trans HG0.out g1
 have y1 := z1.putMid 2 (qcC n.b.qv n.b.qb B k).toList (by simp [qcC, NB.C])
 have ey : n.C.toList.take 2 ++ (qcC n.b.qv n.b.qb B k).toList ++ n.C.toList.drop (2 + (qcC n.b.qv n.b.qb B k).toList.length) = (NB.C ⟨n.b, B, k, n.A', n.c'⟩).toList := rfl
 rw [ey] at y1
 have K1 := setCells_kp (qcC n.b.qv n.b.qb B k).toList w.heap.size 2 w1
 have z3 := z2'.kp K1 (fun e => by omega)
 have G3 : Grew w (w1.setCells w.heap.size 2 (qcC n.b.qv n.b.qb B k).toList) := below_kp G1 K1 G1.size (fun i e => by have e' : i = w.heap.size := e; omega)
 have SIQ2 : Hid ((Tryd.prog.info? 30).map (·.size) = some (qcC n.b.qv n.b.qb B k).size) := Lib.hid qc_info
 have HONQ := Lib.hid (qcC_one n.b.qv n.b.qb B k)
 have HTQ : Hid (w1.there w.heap.size 2 (qcC n.b.qv n.b.qb B k).size) := Lib.hid (fun i hi => by have h3 : i < 3 := hi; have := z1.there (2 + i) (by have : n.C.toList.length = 8 := rfl; omega); simpa using this)
 have hc7 : (w1.setCells w.heap.size 2 (qcC n.b.qv n.b.qb B k).toList).cell? ⟨w.heap.size, 7, none⟩ = some (.slice n.A' 0 n.c') := by simpa [NB.C] using y1.cell 7 _ rfl
 clear CQ HZI HZ2 HG0 z1 z2' g1 G1 ey hmq SIQ K1
 have HY1 := Lib.hid y1
 have HZ3 := Lib.hid z3
 have HG3 := Lib.hid G3
 clear y1 z3 G3
 generalize hwa : w1.setCells w.heap.size 2 (qcC n.b.qv n.b.qb B k).toList = wa at *
 have HWA := Lib.hid hwa
 clear hwa
 go_wp2_with (with_reducible refine wpList_store_mid rfl 30 (.tmp 6) (.tmp 5) rfl w.heap.size 2 (qcC n.b.qv n.b.qb B k) rfl rfl HTQ.out SIQ2.out HONQ.out ?_; rw [HWA.out])
 refine (CR.out wa).mono ?_
 rintro e w2 ⟨B2, k2, rfl, g2⟩
 have z1 := HY1.out.grew g2
 have z2' := HZ3.out.grew g2
 have G1 := grew_trans HG3.out g2
 have hcs : w2.cell? ⟨w.heap.size, 7, none⟩ = some (.slice n.A' 0 n.c') := by simpa [NB.C] using z1.cell 7 _ rfl
 have fcs : w2.frozen? ⟨w.heap.size, 7, none⟩ = false := by simpa using (z1.there 7 (by simp [NB.C])).2
 have y1 := z1.putMid 7 [.slice B2 0 k2] (by simp [NB.C])
 have ey : (NB.C ⟨n.b, B, k, n.A', n.c'⟩).toList.take 7 ++ [Value.slice B2 0 k2] ++ (NB.C ⟨n.b, B, k, n.A', n.c'⟩).toList.drop (7 + [Value.slice B2 0 k2].length) = (NB.C ⟨n.b, B, k, B2, k2⟩).toList := rfl
 rw [ey, show w2.setCells w.heap.size 7 [.slice B2 0 k2] = w2.setCell ⟨w.heap.size, 7, none⟩ (.slice B2 0 k2) from rfl] at y1
 have K1 := kp_set (S := fun j => j = w.heap.size) (kp_refl _ w2) (p := ⟨w.heap.size, 7, none⟩) (.inl rfl) (.slice B2 0 k2)
 have z3 := z2'.kp K1 (fun e => by omega)
 have G3 : Grew w (w2.setCell ⟨w.heap.size, 7, none⟩ (.slice B2 0 k2)) := below_kp G1 K1 G1.size (fun i e => by have e' : i = w.heap.size := e; omega)
 obtain ⟨m, hm⟩ : ∃ m : NB, m = ⟨n.b, B, k, B2, k2⟩ := ⟨_, rfl⟩
 have HMB : Hid (m.b = n.b) := Lib.hid (by rw [hm])
 rw [← hm] at y1
 have HM := Lib.hid y1.cell
 have SI1 : Hid ((Tryd.prog.info? 33).map (·.size) = some m.C.toList.length) := Lib.hid nb_info
 have SI2 : Hid ((Tryd.prog.info? 33).map (·.size) = some m.C.size) := Lib.hid nb_info
 have HON := Lib.hid m.one
 have HTH : Hid ((w2.setCell ⟨w.heap.size, 7, none⟩ (.slice B2 0 k2)).there (w.heap.size + 1) 0 m.C.size) := Lib.hid (z3.thereN 8 rfl)
 have z4 := Ag.set (vs := m.C.toList) z3 rfl
 have G4 : Grew w ((w2.setCell ⟨w.heap.size, 7, none⟩ (.slice B2 0 k2)).setCells (w.heap.size + 1) 0 m.C.toList) := setCells_grew (o := 0) (b := w.heap.size + 1) _ G3 (by omega)
 have hm9 := HM.out
 clear z3 y1 G3 K1 HY1 HZ3 HG3 z1 z2' G1 ey hm CR HWA HTQ SIQ2 HONQ g2 hc7
 go_wp2_with (first
  | (with_reducible refine wpList_load_mid rfl 33 (.tmp 1) rfl w.heap.size 0 rfl m.C.toList _ hm9 hut rfl SI1.out ?_; simp only [Array.toArray_toList])
  | (with_reducible refine wpList_store_mid rfl 33 (.tmp 2) (.tmp 11) rfl (w.heap.size + 1) 0 m.C rfl rfl HTH.out SI2.out HON.out ?_))
 exact bodyPost_ret (ltres_ag1 Tryd.results24 _ _ (w.heap.size + 1) _ _ rfl z4 hut rfl nb_info) rfl ⟨m, HMB.out, rfl, G4⟩
end Go.Proofs.YtbohmmcmlabcdaaDoor

namespace Go.Proofs.YtbohmmcmlabcdaaDoor
set_option linter.unusedSimpArgs false
set_option linter.unusedVariables false
open Go.RowKit
set_option linter.unusedVariables false
def updB (d : Nat → Bool) (k : Nat) : Nat → Bool := fun j => if j = k then true else d j
theorem updB_ne {d : Nat → Bool} {k j : Nat} (h : j ≠ k) : updB d k j = d j := if_neg h
theorem updB_same {d : Nat → Bool} {k : Nat} : updB d k k = true := if_pos rfl
theorem upd_ne {vs : Nat → Value} {k j : Nat} {v : Value} (h : j ≠ k) : upd vs k v j = vs j := if_neg h
theorem upd_same {vs : Nat → Value} {k : Nat} {v : Value} : upd vs k v k = v := if_pos rfl
def invQ (a : Act) (o : Oper) (R : Value → World → Prop) : Exit → Act → World → Prop := fun e a' w2 => e = .normal ∧ ∃ v, a' = a.put o.dst v ∧ R v w2
theorem invQ_noOut {a : Act} {o : Oper} {R : Value → World → Prop} : ¬ LetsOut (invQ a o R) := fun ⟨_, _, h, _⟩ => by cases h
def InvOps (P : Program) (ops : Array Oper) (n : Nat) (Inv : (Nat → Bool) → (Nat → Value) → World → Prop) (A : (Nat → Value) → Act) : Nat → List Oper → Prop
 | _, [] => True
 | k, o :: l => (∀ (d : Nat → Bool) (vs : Nat → Value) (w1 : World), Inv d vs w1 → d k = false → k < n → (∀ e ∈ o.after.toList, Region.binds .any e = true → d e.on = true) → wpList P ops (invQ (A vs) o (fun v w2 => Inv (updB d k) (upd vs k v) w2)) [o] (A vs) w1) ∧ InvOps P ops n Inv A (k + 1) l
theorem InvOps.get {P : Program} {ops : Array Oper} {n : Nat} {Inv : (Nat → Bool) → (Nat → Value) → World → Prop} {A : (Nat → Value) → Act} : ∀ {l : List Oper} {k i : Nat} {o : Oper}, InvOps P ops n Inv A k l → l[i]? = some o →
 ∀ (d : Nat → Bool) (vs : Nat → Value) (w1 : World), Inv d vs w1 → d (k + i) = false → k + i < n → (∀ e ∈ o.after.toList, Region.binds .any e = true → d e.on = true) → wpList P ops (invQ (A vs) o (fun v w2 => Inv (updB d (k + i)) (upd vs (k + i) v) w2)) [o] (A vs) w1
 | [], _, _, _, _, h => by simp at h
 | o' :: l, k, 0, o, H, h => by
  obtain rfl : o' = o := by simpa using h
  exact H.1
 | o' :: l, k, i + 1, o, H, h => by
  have := InvOps.get (i := i) (o := o) H.2 (by simpa using h)
  rwa [show k + 1 + i = k + (i + 1) by omega] at this
theorem wp_region_inv {P : Program} {id : Nat} {Q : Exit → Act → World → Prop} {a : Act} {w : World} {l : List Oper} (n : Nat) (Inv : (Nat → Bool) → (Nat → Value) → World → Prop)
 (hm : P.follows .mixedOrders = true) (hB : relB l.toArray n = true)
 (hI0 : ∀ vs, Inv (fun _ => false) vs w.drew)
 (hop : InvOps P l.toArray n Inv (fun vs => actOf (l.take n) 0 vs a) 0 (l.take n))
 (hend : ∀ (d : Nat → Bool) (vs : Nat → Value) (w1 : World), Inv d vs w1 → (∀ i, i < n → d i = true) → (∀ i, n ≤ i → d i = false) → wpList P l.toArray Q (l.drop n) (actOf (l.take n) 0 vs a) w1) :
 (Code.region id l.toArray true).wp P Q a w := by
 simp only [relB, Bool.and_eq_true, decide_eq_true_eq] at hB
 obtain ⟨⟨⟨⟨⟨hn, hd⟩, hs⟩, hc⟩, hq⟩, hord⟩ := hB
 have hn' : n < l.length := by simpa using hn
 refine wp_region_any hm ?_
 have key : ∀ (f : Nat) (listed : Array Bool) (vs : Nat → Value) (w1 : World), HeadInv .any l.toArray n listed → Inv (fun i => listed.getD i false) vs w1 →
  ((List.range n).filter fun i => !listed.getD i true).length = f → wpAny P .any l.toArray Q (f + (l.toArray.size - n)) listed (actOf (l.take n) 0 vs a) w1 := by
  intro f
  induction f with
  | zero =>
   intro listed vs w1 inv hg hf
   have hall : ∀ i, i < n → listed.getD i true = true := by
    intro i hi
    have h0 := List.length_eq_zero_iff.1 hf
    cases hl : listed.getD i true with
    | true => rfl
    | false =>
     have : i ∈ (List.range n).filter fun i => !listed.getD i true := List.mem_filter.2 ⟨List.mem_range.2 hi, by rw [hl]; rfl⟩
     rw [h0] at this; cases this
   have hle : listed = headAll n l.toArray.size := by
    apply Array.ext
    ·rw [inv.size]; simp [headAll]
    ·intro j h1 h2
     have hj : j < l.toArray.size := by rw [← inv.size]; exact h1
     simp only [headAll, List.getElem_toArray, List.getElem_map, List.getElem_range]
     by_cases hjn : j < n
     ·have := hall j hjn
      simp [h1] at this
      rw [this, decide_eq_true hjn]
     ·have := inv.tail j (by omega) hj
      simp [h1] at this
      rw [this, decide_eq_false hjn]
   have hlen : (l.drop n).length = l.toArray.size - n := by simp
   have hE := hend (fun i => listed.getD i false) vs w1 hg (fun i hi => by
    have h1 := hall i hi
    have h2 : i < listed.size := by rw [inv.size]; simp; omega
    simp [h2] at h1 ⊢
    exact h1) (fun i hi => by
    by_cases h2 : i < listed.size
    ·have h3 := inv.tail i hi (by rw [← inv.size]; exact h2)
     simp [h2] at h3 ⊢
     exact h3
    ·simp [h2])
   rw [hle, Nat.zero_add, ← hlen]
   exact wpAny_of_seq (l.drop n) n _ _ _ (fun j => by simp [List.getElem?_drop]) (by rw [hlen]; exact hq) hE
  | succ f ih =>
   intro listed vs w1 inv hg hf
   have hex : ∃ i, i < n ∧ listed.getD i true = false := by
    have hne : ((List.range n).filter fun i => !listed.getD i true) ≠ [] := fun e => by rw [e] at hf; simp at hf
    obtain ⟨i, hi⟩ := List.exists_mem_of_ne_nil _ hne
    obtain ⟨h1, h2⟩ := List.mem_filter.1 hi
    exact ⟨i, List.mem_range.1 h1, by simpa using h2⟩
   have hsome : ∃ i, i < n ∧ i ∈ Region.ready .any l.toArray listed := by
    obtain ⟨i, hi, hu⟩ := hex
    induction i using Nat.strongRecOn with
    | _ i ihi =>
     by_cases hr : ∃ j, j < i ∧ listed.getD j true = false
     ·obtain ⟨j, hj, hju⟩ := hr
      exact ihi j hj (by omega) hju
     ·refine ⟨i, hi, mem_ready.2 ⟨hu, l[i]'(by omega), by simp [List.getElem?_eq_getElem (show i < l.length by omega)], fun e he hb => ?_⟩⟩
      have h1 := List.all_eq_true.1 hord i (List.mem_range.2 hi)
      have h2 : l.toArray[i]? = some (l[i]'(by omega)) := by simp [List.getElem?_eq_getElem (show i < l.length by omega)]
      rw [h2] at h1
      have h3 : e.on < i := by
       have h4 := Array.all_eq_true_iff_forall_mem.1 (show (l[i]'(by omega)).after.all (fun e => !Region.binds .any e || decide (e.on < i)) = true from h1) e he
       rw [hb] at h4
       simpa using h4
      have h5 : e.on < listed.size := by rw [inv.size]; simp; omega
      cases hl : listed.getD e.on false with
      | true => rfl
      | false => exact absurd ⟨e.on, h3, getD_in h5 hl⟩ hr
   obtain ⟨i0, hi0, hr0⟩ := hsome
   rw [show f + 1 + (l.toArray.size - n) = (f + (l.toArray.size - n)) + 1 by omega]
   refine ⟨fun h => (by rw [h] at hr0; cases hr0), fun i hi => ?_⟩
   obtain ⟨hun, o, ho, hall⟩ := mem_ready.1 hi
   have hin : i < n := by
    rcases Nat.lt_or_ge i n with h | h
    ·exact h
    ·exact absurd hi (tail_waits hs hc hn inv _ i0 rfl hi0 ((mem_ready.1 hr0).1) i h)
   have hot : (l.take n)[i]? = some o := by
    rw [List.getElem?_take_of_lt hin]
    simpa using ho
   have hdi : listed.getD i false = false := by
    have hsz : i < listed.size := by rw [inv.size]; simp; omega
    simp [hsz] at hun ⊢
    exact hun
   have hthis := InvOps.get hop hot (fun i => listed.getD i false) vs w1 hg (by rw [Nat.zero_add]; exact hdi) (by rw [Nat.zero_add]; exact hin) (fun e he hb => hall e (Array.mem_toList_iff.1 he) hb)
   rw [Nat.zero_add] at hthis
   have hnext : ∀ a' w2, invQ (actOf (l.take n) 0 vs a) o (fun v w2 => Inv (updB (fun i => listed.getD i false) i) (upd vs i v) w2) .normal a' w2 → wpAny P .any l.toArray Q (f + (l.toArray.size - n)) (listed.setIfInBounds i true) a' w2 := by
    rintro a' w2 ⟨_, v, rfl, hg2⟩
    rw [actOf_set (l.take n) 0 i o vs v a (by simpa using hd) (by omega) (by simpa using hot)]
    refine ih _ _ w2 (inv.set hi hin) ?_ ?_
    ·have hsz : i < listed.size := by rw [inv.size]; simp; omega
     have e : (fun j => (listed.setIfInBounds i true).getD j false) = updB (fun j => listed.getD j false) i := by
      funext j
      unfold updB
      by_cases hji : j = i
      ·rw [if_pos hji, hji]; simp [hsz]
      ·rw [if_neg hji, getD_set_ne false (Ne.symm hji)]
     rw [e]; exact hg2
    ·have hsz : i < listed.size := by rw [inv.size]; simp; omega
     have hcount : ∀ (L : List Nat), L.Nodup → i ∈ L → (L.filter fun j => !listed.getD j true).length = (L.filter fun j => !(listed.setIfInBounds i true).getD j true).length + 1 := by
      intro L
      induction L with
      | nil => intro _ h; cases h
      | cons x L ihL =>
       intro hnd hmem
       obtain ⟨hx, hnd'⟩ := List.nodup_cons.1 hnd
       by_cases hxi : x = i
       ·subst hxi
        have e1 : (!(listed.getD x true)) = true := by rw [hun]; rfl
        have e2 : (!((listed.setIfInBounds x true).getD x true)) = false := by simp [hsz]
        rw [List.filter_cons, if_pos e1, List.filter_cons, if_neg (by rw [e2]; simp), List.length_cons]
        congr 2
        apply List.filter_congr
        intro y hy
        have : y ≠ x := fun e => hx (e ▸ hy)
        rw [getD_set_ne true (Ne.symm this)]
       ·have hmem' : i ∈ L := by
         rcases List.mem_cons.1 hmem with h | h
         ·exact absurd h.symm hxi
         ·exact h
        have ihx := ihL hnd' hmem'
        have e3 : (listed.setIfInBounds i true).getD x true = listed.getD x true := getD_set_ne true (Ne.symm hxi)
        rw [List.filter_cons, List.filter_cons, e3]
        split
        ·rw [List.length_cons, List.length_cons, ihx]
        ·exact ihx
     have := hcount (List.range n) List.nodup_range (List.mem_range.2 hin)
     omega
   unfold wpOp
   simp only [ho]
   simp only [wpList] at hthis
   split at hthis
   ·rename_i hw
    rw [if_pos hw]
    rcases hthis with h | ⟨_, h⟩
    ·exact .inl (wp_to hnext (fun c a w h => by cases h.1) invQ_noOut h)
    ·exact absurd h invQ_noOut
   ·rename_i hw
    rw [if_neg hw]
    exact hnext _ _ hthis
 have h0 := key n (Array.replicate l.toArray.size false) (fun j => match (l.take n)[j]? with | some o => (match o.dst with | some t => a.tmps.getD t undef | none => undef) | none => undef) { w with drawn := w.drawn + 1 }
  ⟨by simp, fun j oj _ hl => (by rw [getD_replicate_false] at hl; cases hl), fun t _ ht => getD_in (by simpa using ht) (getD_replicate_false _ _)⟩
  (by
    have e : (fun i => (Array.replicate l.toArray.size false).getD i false) = fun _ => false := funext fun i => getD_replicate_false _ _
    rw [e]; exact hI0 _)
  (by
    have : (List.range n).filter (fun i => !(Array.replicate l.toArray.size false).getD i true) = List.range n := by
     apply List.filter_eq_self.2
     intro i hi
     have hi' := List.mem_range.1 hi
     have : i < (Array.replicate l.toArray.size false).size := by simp; omega
     rw [getD_in this (getD_replicate_false _ _)]; rfl
    rw [this, List.length_range])
 rw [actOf_own (l.take n) 0 _ a (fun j o hj => by simp only [Nat.zero_add, hj]; rfl)] at h0
 rwa [show n + (l.toArray.size - n) = l.toArray.size by omega] at h0
theorem wpList_to {P : Program} {ops : Array Oper} {o : Oper} {a : Act} {w : World} {Q1 Q2 : Exit → Act → World → Prop} (hQ : ∀ a w, Q1 .normal a w → Q2 .normal a w) (hp : ∀ c a w, ¬ Q1 (.panic c) a w) (hl : ¬ LetsOut Q1)
 (h : wpList P ops Q1 [o] a w) : wpList P ops Q2 [o] a w := by
 simp only [wpList] at h ⊢
 split at h
 ·rename_i hw
  rw [if_pos hw]
  rcases h with h | ⟨_, h⟩
  ·exact .inl (wp_to hQ hp hl h)
  ·exact absurd h hl
 ·rename_i hw
  rw [if_neg hw]
  exact hQ _ _ h
/-- p: where the makers begin, q: where the storers begin; m of each -/
def mkKind (p q m k : Nat) : Nat := if p ≤ k ∧ k < p + m then 1 else if q ≤ k ∧ k < q + m then 2 else 0
def MkOps (P : Program) (ops : Array Oper) (p q m : Nat) (w : World) (Z : Array Value) (t : TypeId) (C : Nat → List Value) (J : Nat → Value → World → Prop) (A : (Nat → Value) → Act) : Nat → List Oper → Prop
 | _, [] => True
 | k, o :: l => (bif Nat.beq (mkKind p q m k) 0 then (∀ (vs : Nat → Value) (w1 : World), Kp (fun b => w.heap.size ≤ b) w w1 → grounds J vs w1 o.after.toList → wpList P ops (relQ2 (A vs) o w1 Grew (J k)) [o] (A vs) w1)
  else bif Nat.beq (mkKind p q m k) 1 then (∀ (vs : Nat → Value) (w1 : World), wpList P ops (invQ (A vs) o (fun v w2 => w2 = w1.alloc (.cells Z t) ∧ v = .pointer (some ⟨w1.heap.size, 0, none⟩))) [o] (A vs) w1)
  else ((o.after.toList.any fun e => Region.binds .any e && Nat.beq e.on (p + (k - q))) = true ∧ ∀ (vs : Nat → Value) (w1 : World) (b : Nat), vs (p + (k - q)) = .pointer (some ⟨b, 0, none⟩) → Ag w1 b Z.toList → grounds J vs w1 o.after.toList → wpList P ops (invQ (A vs) o (fun v w2 => w2 = w1.setCells b 0 (C (k - q)))) [o] (A vs) w1)) ∧ MkOps P ops p q m w Z t C J A (k + 1) l
theorem mk0 {n : Nat} {A B C : Prop} (h : n = 0) (a : A) : (bif Nat.beq n 0 then A else bif Nat.beq n 1 then B else C) := by subst h; exact a
theorem mk1 {n : Nat} {A B C : Prop} (h : n = 1) (b : B) : (bif Nat.beq n 0 then A else bif Nat.beq n 1 then B else C) := by subst h; exact b
theorem mk2 {n : Nat} {A B C : Prop} (h : n = 2) (c : C) : (bif Nat.beq n 0 then A else bif Nat.beq n 1 then B else C) := by subst h; exact c
structure MkInv (n p q m : Nat) (w : World) (Z : Array Value) (C : Nat → List Value) (J : Nat → Value → World → Prop) (d : Nat → Bool) (vs : Nat → Value) (w1 : World) : Prop where
 kp : Kp (fun b => w.heap.size ≤ b) w w1
 v : ∀ i, i < n → d i = true → mkKind p q m i = 0 → J i (vs i) w1
 b : ∀ x, x < m → d (p + x) = true → ∃ b, vs (p + x) = .pointer (some ⟨b, 0, none⟩) ∧ w.heap.size ≤ b ∧ b < w1.heap.size ∧ Ag w1 b (if d (q + x) = true then C x else Z.toList)
 ne : ∀ x y, x < m → y < m → x ≠ y → d (p + x) = true → d (p + y) = true → vs (p + x) ≠ vs (p + y)
 st : ∀ x, x < m → d (q + x) = true → d (p + x) = true
 hi : ∀ i, n ≤ i → d i = false
theorem wp_region_mk {P : Program} {id : Nat} {Q : Exit → Act → World → Prop} {a : Act} {w : World} {l : List Oper} (n p q m : Nat) (Z : Array Value) (t : TypeId) (C : Nat → List Value) (J : Nat → Value → World → Prop)
 (hm : P.follows .mixedOrders = true) (hB : relB l.toArray n = true) (hpq : p + m ≤ q) (hC : ∀ x, (C x).length = Z.size)
 (hJ : ∀ i v a b, J i v a → Kp (fun b => w.heap.size ≤ b) a b → J i v b) (hJs : ∀ i, i < n → mkKind p q m i ≠ 0 → ∀ v a, J i v a)
 (hop : MkOps P l.toArray p q m w Z t C J (fun vs => actOf (l.take n) 0 vs a) 0 (l.take n))
 (hend : ∀ (d : Nat → Bool) (vs : Nat → Value) (w1 : World), MkInv n p q m w Z C J d vs w1 → (∀ i, i < n → d i = true) → (∀ i, n ≤ i → d i = false) → wpList P l.toArray Q (l.drop n) (actOf (l.take n) 0 vs a) w1) :
 (Code.region id l.toArray true).wp P Q a w := by
 refine wp_region_inv n (MkInv n p q m w Z C J) hm hB (fun vs => { kp := kp_drew (kp_refl _ w), v := fun i _ h => absurd h (by simp), b := fun x _ h => absurd h (by simp), ne := fun x y _ _ _ h => absurd h (by simp), st := fun x _ h => absurd h (by simp), hi := fun _ _ => rfl }) ?_ hend
 have key : ∀ (l' : List Oper) (k : Nat), MkOps P l.toArray p q m w Z t C J (fun vs => actOf (l.take n) 0 vs a) k l' → InvOps P l.toArray n (MkInv n p q m w Z C J) (fun vs => actOf (l.take n) 0 vs a) k l' := by
  intro l'
  induction l' with
  | nil => intro k _; trivial
  | cons o l' ih =>
   intro k h
   refine ⟨fun d vs w1 hI hd hkn hE => ?_, ih (k + 1) h.2⟩
   have h1 := h.1
   have hG : grounds J vs w1 o.after.toList := grounds_of fun e he hb => by
    have hde := hE e he hb
    have hlt : e.on < n := by
     rcases Nat.lt_or_ge e.on n with h | h
     ·exact h
     ·rw [hI.hi _ h] at hde; cases hde
    by_cases hk0 : mkKind p q m e.on = 0
    ·exact hI.v e.on hlt hde hk0
    ·exact hJs e.on hlt hk0 _ _
   have kP : ∀ x, x < m → mkKind p q m (p + x) = 1 := fun x hx => if_pos ⟨by omega, by omega⟩
   have kQ : ∀ x, x < m → mkKind p q m (q + x) = 2 := fun x hx => by unfold mkKind; rw [if_neg (by omega), if_pos ⟨by omega, by omega⟩]
   have hhi : ∀ i, n ≤ i → updB d k i = false := fun i hi => by rw [updB_ne (by omega)]; exact hI.hi i hi
   have hvv : ∀ (v : Value) (w2 : World), Kp (fun b => w.heap.size ≤ b) w1 w2 → (mkKind p q m k = 0 → J k v w2) → ∀ i, i < n → updB d k i = true → mkKind p q m i = 0 → J i (upd vs k v i) w2 := fun v w2 hk hv i hi hu h0 => by
    by_cases hik : i = k
    ·subst hik; rw [upd_same]; exact hv h0
    ·rw [upd_ne hik]; rw [updB_ne hik] at hu; exact hJ _ _ _ _ (hI.v i hi hu h0) hk
   rcases hkd : mkKind p q m k with _ | _ | r
   ·rw [hkd] at h1
    refine wpList_to (fun a' w2 hh => ?_) (fun c a w h => by cases h.1) relQ2_noOut (h1 vs w1 hI.kp hG)
    obtain ⟨e1, v, e2, g, e4⟩ := hh
    have nP : ∀ x, x < m → p + x ≠ k := fun x hx e => by have := kP x hx; rw [e, hkd] at this; cases this
    have nQ : ∀ x, x < m → q + x ≠ k := fun x hx e => by have := kQ x hx; rw [e, hkd] at this; cases this
    refine ⟨e1, v, e2, { kp := kp_trans hI.kp (kp_grew g), v := hvv v w2 (kp_grew g) (fun _ => e4), b := fun x hx h => ?_, ne := fun x y hx hy hxy h h' => ?_, st := fun x hx h => ?_, hi := hhi }⟩
    ·rw [updB_ne (nP x hx)] at h
     rw [upd_ne (nP x hx), updB_ne (nQ x hx)]
     obtain ⟨b, h1, h2, h3, h4⟩ := hI.b x hx h
     exact ⟨b, h1, h2, Nat.lt_of_lt_of_le h3 g.size, h4.grew g⟩
    ·rw [updB_ne (nP x hx)] at h
     rw [updB_ne (nP y hy)] at h'
     rw [upd_ne (nP x hx), upd_ne (nP y hy)]
     exact hI.ne x y hx hy hxy h h'
    ·rw [updB_ne (nQ x hx)] at h
     rw [updB_ne (nP x hx)]
     exact hI.st x hx h
   ·rw [hkd] at h1
    have hk1 : p ≤ k ∧ k < p + m := by
     unfold mkKind at hkd
     split at hkd
     ·assumption
     ·split at hkd <;> cases hkd
    refine wpList_to (fun a' w2 hh => ?_) (fun c a w h => by cases h.1) invQ_noOut (h1 vs w1)
    obtain ⟨e1, v, e2, rfl, rfl⟩ := hh
    have g : Grew w1 (w1.alloc (.cells Z t)) := grew_alloc (grew_refl _) _
    have nQ : ∀ x, x < m → q + x ≠ k := fun x hx => by omega
    refine ⟨e1, _, e2, { kp := kp_trans hI.kp (kp_grew g), v := hvv _ _ (kp_grew g) (fun h => by rw [h] at hkd; cases hkd), b := fun x hx h => ?_, ne := fun x y hx hy hxy h h' => ?_, st := fun x hx h => ?_, hi := hhi }⟩
    ·rw [updB_ne (nQ x hx)]
     by_cases hxk : p + x = k
     ·rw [hxk, upd_same]
      have hf : d (q + x) = false := by
       cases hq : d (q + x) with
       | false => rfl
       | true => have := hI.st x hx hq; rw [hxk, hd] at this; cases this
      rw [hf]
      exact ⟨_, rfl, hI.kp.size, by rw [alloc_size]; omega, by simpa using Ag.new w1 t Z⟩
     ·rw [updB_ne hxk] at h
      rw [upd_ne hxk]
      obtain ⟨b, h1, h2, h3, h4⟩ := hI.b x hx h
      exact ⟨b, h1, h2, Nat.lt_of_lt_of_le h3 g.size, h4.grew g⟩
    ·by_cases hxk : p + x = k
     ·have hyk : p + y ≠ k := by omega
      rw [updB_ne hyk] at h'
      obtain ⟨b, h1, h2, h3, h4⟩ := hI.b y hy h'
      rw [hxk, upd_same, upd_ne hyk, h1]
      intro e; injection e with e; injection e with e; injection e with e; omega
     ·rw [updB_ne hxk] at h
      by_cases hyk : p + y = k
      ·obtain ⟨b, h1, h2, h3, h4⟩ := hI.b x hx h
       rw [hyk, upd_same, upd_ne hxk, h1]
       intro e; injection e with e; injection e with e; injection e with e; omega
      ·rw [updB_ne hyk] at h'
       rw [upd_ne hxk, upd_ne hyk]
       exact hI.ne x y hx hy hxy h h'
    ·rw [updB_ne (nQ x hx)] at h
     have := hI.st x hx h
     unfold updB
     split
     ·rfl
     ·exact this
   ·rw [hkd] at h1
    have hk2 : q ≤ k ∧ k < q + m := by
     unfold mkKind at hkd
     split at hkd
     ·cases hkd
     ·split at hkd
      ·assumption
      ·cases hkd
    have hk22 : mkKind p q m k = 2 := by have := kQ (k - q) (by omega); rwa [show q + (k - q) = k by omega] at this
    obtain rfl : r = 0 := by omega
    obtain ⟨ha, h1⟩ := h1
    have hdp : d (p + (k - q)) = true := by
     obtain ⟨e, he, hb⟩ := List.any_eq_true.1 ha
     simp only [Bool.and_eq_true] at hb
     have := hE e he hb.1
     rwa [Nat.eq_of_beq_eq_true hb.2] at this
    have hx0 : k - q < m := by omega
    have hqk : q + (k - q) = k := by omega
    obtain ⟨b, v1, v2, v3, v4⟩ := hI.b (k - q) hx0 hdp
    rw [hqk, hd] at v4
    refine wpList_to (fun a' w2 hh => ?_) (fun c a w h => by cases h.1) invQ_noOut (h1 vs w1 b v1 (by simpa using v4) hG)
    obtain ⟨e1, v, e2, rfl⟩ := hh
    have g0 := setCells_kp (C (k - q)) b 0 w1
    have g : Kp (fun b => w.heap.size ≤ b) w1 (w1.setCells b 0 (C (k - q))) := kp_mono g0 (fun i e => by have e' : i = b := e; omega)
    have nP : ∀ x, x < m → p + x ≠ k := fun x hx => by omega
    refine ⟨e1, _, e2, { kp := kp_trans hI.kp g, v := hvv _ _ g (fun h => by rw [h] at hkd; cases hkd), b := fun x hx h => ?_, ne := fun x y hx hy hxy h h' => ?_, st := fun x hx h => ?_, hi := hhi }⟩
    ·rw [updB_ne (nP x hx)] at h
     rw [upd_ne (nP x hx)]
     obtain ⟨b', h1, h2, h3, h4⟩ := hI.b x hx h
     refine ⟨b', h1, h2, Nat.lt_of_lt_of_le h3 g.size, ?_⟩
     by_cases hxk : x = k - q
     ·subst hxk
      rw [hqk, updB_same]
      rw [h1] at v1
      obtain rfl : b' = b := by injection v1 with e; injection e with e; injection e with e
      rw [hqk, hd] at h4
      simpa using h4.set (vs := C (k - q)) (by rw [hC]; simp)
     ·rw [updB_ne (by omega)]
      refine h4.other (fun e => ?_)
      have := hI.ne x (k - q) hx hx0 hxk h hdp
      rw [h1, v1, e] at this
      exact this rfl
    ·rw [updB_ne (nP x hx)] at h
     rw [updB_ne (nP y hy)] at h'
     rw [upd_ne (nP x hx), upd_ne (nP y hy)]
     exact hI.ne x y hx hy hxy h h'
    ·rw [updB_ne (nP x hx)]
     by_cases hxk : q + x = k
     ·rw [show x = k - q by omega]; exact hdp
     ·rw [updB_ne hxk] at h
      exact hI.st x hx h
 exact key _ 0 hop
end Go.Proofs.YtbohmmcmlabcdaaDoor

namespace Go.Proofs.YtbohmmcmlabcdaaDoor
set_option linter.unusedSimpArgs false
set_option linter.unusedVariables false
open Go.RowKit Go.Maps
set_option linter.unusedVariables false
set_option linter.unnecessarySimpa false
set_option linter.unusedSimpArgs false
theorem wpList_insert_own {H : Type} {P : Program} (w : World) {ops : Array Oper} {rest : List Oper} {o : Oper} {a : Act} {Q : Exit → Act → World → Prop}
 (hg : o.guard = none) (m x v : Operand) (t : TypeId) (hop : o.op = Op.insert t m x v)
 (k e : TypeId) (K : Keyed P k) (ht : P.underlying t = some (.map k e)) (R : Value → Option (DataW H × List MemPlace)) (b n : Nat) (D : DataW H)
 (hm : a.eval m = .map (some b)) (hown : w.ownsMap P k R b n D) (hn : n < maxLen) (key val : Value) (kl : Lit) (hx : a.eval x = key) (hv : a.eval v = val) (hkey : keyOf P k key = some kl)
 (d : DataW H) (ps : List MemPlace) (hval : R val = some (d, ps))
 (hK : ∀ w', w'.ownsMap P k R b (n + 1) (D.put kl d) → w.grownBy w' (some b) → wpList P ops Q rest (a.put o.dst undef) w') :
 wpList P ops Q (o :: rest) a w := by
 refine wpList_plain hg fun K' hK' => ?_
 obtain ⟨w', hrun, r1, r2⟩ := hown.update K ht hn hkey hval
 unfold Oper.wp
 simp [execOp, hop, hm, hx, hv, hrun, Result.andThen]
 exact hK' _ _ (hK w' r1 r2)
theorem bb0_ok : bb0.ok := by constructor <;> simp [bb0, in64]
theorem dig_law : Keyed Tryd.prog 26 := int_keyed Tryd.underlying26
theorem nb_zero (w : World) : (zeroValue 33).run Tryd.prog w = .ok (.agg bb0.z.C) w := by kernel_rfl
theorem dig_key (d : Nat) (h : d < 18446744073709551616) : keyOf Tryd.prog 26 (.int .u64 (d : Nat)) = some (.int .u64 (d : Nat)) := keyOf_int_mk Tryd.underlying26 (WalkArith.wf_u64 ⟨by omega, by omega⟩)
theorem tr_ownsMap_gr {w w' : World} {b n : Nat} {D : DataW Value} (h : w.ownsMap Tryd.prog 26 heldR b n D) (g : Grew w w') : w'.ownsMap Tryd.prog 26 heldR b n D := by
 have hb := h.lt
 obtain ⟨es, clock, h1, Ft, hs, hD⟩ := h
 exact ⟨es, clock, (g.block b hb).trans h1, Ft, hs, hD⟩
/-- what stands in a tree -/
structure TreeS (w : World) (t mb : Nat) (L : TL) : Prop where
 ptr : Ag w t [.map (some mb)]
 own : w.ownsMap Tryd.prog 26 heldR mb L.length (trD L)
 nd : (L.map (·.1)).Nodup
 ok : ∀ x ∈ L, x.1 < 18446744073709551616 ∧ x.2.b.ok
 len : L.length ≤ 100000
theorem TreeS.gr {w w' : World} {t mb : Nat} {L : TL} (h : TreeS w t mb L) (g : Grew w w') : TreeS w' t mb L := ⟨h.ptr.grew g, tr_ownsMap_gr h.own g, h.nd, h.ok, h.len⟩
theorem TreeS.cell {w : World} {t mb : Nat} {L : TL} (h : TreeS w t mb L) : w.cell? ⟨t, 0, none⟩ = some (.map (some mb)) := by simpa using h.ptr.cell 0 _ rfl
theorem TreeS.look {w : World} {t mb : Nat} {L : TL} (h : TreeS w t mb L) (d : Nat) : (trD L).atKey (.int .u64 (d : Nat)) (.held (.agg bb0.z.C)) = .held (.agg ((tget L d).getD bb0.z).C) ∧ Maps.has (trD L) (.int .u64 (d : Nat)) = (tget L d).isSome := by
 obtain ⟨h1, h2, h3, h4⟩ := trD_facts L h.nd
 refine ⟨?_, h3 d⟩
 cases hg : tget L d with
 | none => exact atKey_of_not_has (by rw [h3, hg]; rfl) _
 | some n => exact h4 d n _ hg
theorem TreeS.got {w : World} {t mb : Nat} {L : TL} (h : TreeS w t mb L) {d : Nat} {n : NB} (hg : tget L d = some n) : n.b.ok := (h.ok _ (tget_mem hg)).2
set_option maxRecDepth 100000 in
set_option maxHeartbeats 1000000 in
theorem thas_ok {t mb : Nat} {L : TL} (d : Nat) (hd : d < 18446744073709551616) (w : World) (h : TreeS w t mb L) : Calls Tryd.prog 23 #[.pointer (some ⟨t, 0, none⟩), .int .u64 (d : Nat)] w fun e w' => e = .returned (.bool (tget L d).isSome) ∧ Grew w w' := by
 obtain ⟨hu, hbb⟩ := h.look d
 have hc := h.cell
 have hown := h.own
 have hkey := dig_key d hd
 generalize (tget L d).getD bb0.z = n at *
 obtain ⟨gc, hgc⟩ : ∃ g, n.C = g := ⟨_, rfl⟩
 have HON : Hid (gc.all (·.oneCell') = true) := Lib.hid (by rw [← hgc]; exact n.one)
 have SIZ : Hid ((Tryd.prog.info? 33).map (·.size) = some gc.size) := Lib.hid (by rw [← hgc]; exact nb_info)
 obtain ⟨w2, hw2, ht2, g2, z2⟩ := ltput_any w 33 (#[.int .i64 0, .int .u64 0, .int .i64 0, .int .u64 0, .slice none 0 0, .int .i64 0, .int .i64 0, .slice none 0 0] : Array Value) gc (by rw [← hgc]; rfl)
 have HW2 := Lib.hid hw2
 have HT2 := Lib.hid ht2
 rw [hgc] at hu
 clear hw2 ht2 hgc h hd
 generalize (tget L d).isSome = hb at *
 go_enter Tryd.func23, Tryd.ntmps23
 go_wp2_with (first
  | (at_lookup; refine wpList_lookup_held_ok _ rfl _ _ 58 rfl 26 33 dig_law Tryd.underlying58 (nb_zero _) mb L.length _ rfl hown _ _ rfl hkey (.agg gc) hu _ hbb ?_)
  | (with_reducible refine wpList_store_mid rfl 33 (.tmp 5) (.tmp 14) rfl w.heap.size 0 gc rfl rfl HT2.out SIZ.out HON.out ?_; rw [HW2.out]))
 go_ret
 exact ⟨rfl, g2⟩
set_option maxRecDepth 100000 in
theorem tlen_ok {t mb : Nat} {L : TL} (w : World) (h : TreeS w t mb L) : Calls Tryd.prog 12 #[.pointer (some ⟨t, 0, none⟩)] w fun e w' => e = .returned (.int .i64 (L.length : Int)) ∧ Grew w w' := by
 have hsz := (trD_facts L h.nd).2.1
 have hc := h.cell
 have hown := h.own
 clear h
 go_enter Tryd.func12, Tryd.ntmps12
 go_wp2_with (with_reducible refine wpList_len_own _ rfl (.tmp 6) 58 rfl 26 33 Tryd.underlying58 heldR mb L.length (trD L) rfl hown ?_; rw [hsz])
 go_ret
 exact ⟨rfl, grew_refl _⟩
set_option maxRecDepth 100000 in
theorem genesis_ok (w : World) : Calls Tryd.prog 16 #[] w fun e w' => e = .returned (.agg bb0.z.C) ∧ Grew w w' := by
 have hub := Tryd.underlying33
 have SIZ : Hid ((Tryd.prog.info? 33).map (·.size) = some bb0.z.C.size) := Lib.hid nb_info
 have HON := Lib.hid bb0.z.one
 obtain ⟨w2, hw2, ht2, g2, z2⟩ := ltput_any w 33 (#[.int .i64 0, .int .u64 0, .int .i64 0, .int .u64 0, .slice none 0 0, .int .i64 0, .int .i64 0, .slice none 0 0] : Array Value) bb0.z.C rfl
 have HW2 := Lib.hid hw2
 have HT2 := Lib.hid ht2
 have HB : Hid (Tryd.prog.built 33 [] = some bb0.z.C) := Lib.hid (by kernel_rfl)
 clear hw2 ht2
 go_enter Tryd.func16, Tryd.ntmps16
 go_wp2_with (first
  | (with_reducible refine ltbuild_is rfl 33 #[] rfl bb0.z.C ?_ ?_; exact HB.out)
  | (with_reducible refine wpList_store_mid rfl 33 (.tmp 0) (.tmp 1) rfl w.heap.size 0 bb0.z.C rfl rfl HT2.out SIZ.out HON.out ?_; rw [HW2.out]))
 exact bodyPost_ret (ltres_ag1 Tryd.results16 _ _ w.heap.size _ _ rfl z2 hub rfl nb_info) rfl ⟨rfl, g2⟩
/-- folkmootlaw17.B -/
def bbB (v : Int) (p : Nat) (lo hi : Int) : BB := ⟨v, p, 0, p, lo, hi⟩
set_option maxRecDepth 100000 in
theorem lawB_ok (v : Int) (p : Nat) (lo hi : Int) (w : World) : Calls Tryd.prog 8 #[.int .i64 v, .int .u64 (p : Nat), .int .i64 lo, .int .i64 hi] w fun e w' => e = .returned (.agg (bbB v p lo hi).z.C) ∧ Grew w w' := by
 have hub := Tryd.underlying33
 have SIZ : Hid ((Tryd.prog.info? 33).map (·.size) = some (bbB v p lo hi).z.C.size) := Lib.hid nb_info
 have HON := Lib.hid (bbB v p lo hi).z.one
 obtain ⟨w2, hw2, ht2, g2, z2⟩ := ltput_any w 33 (#[.int .i64 0, .int .u64 0, .int .i64 0, .int .u64 0, .slice none 0 0, .int .i64 0, .int .i64 0, .slice none 0 0] : Array Value) (bbB v p lo hi).z.C rfl
 have HW2 := Lib.hid hw2
 have HT2 := Lib.hid ht2
 have HB : Hid (Tryd.prog.built 33 [(0, .int .i64 v), (1, .int .u64 (p : Nat)), (2, .agg (qcC 0 p none 0)), (3, .int .i64 lo), (4, .int .i64 hi)] = some (bbB v p lo hi).z.C) := Lib.hid (by kernel_rfl)
 have HQ : Hid (Tryd.prog.built 30 [(1, .int .u64 (p : Nat))] = some (qcC 0 p none 0)) := Lib.hid (by kernel_rfl)
 clear hw2 ht2
 go_enter Tryd.func8, Tryd.ntmps8
 go_wp2_with (first
  | (with_reducible refine ltbuild_is rfl 30 #[(1, .tmp 11)] rfl (qcC 0 p none 0) ?_ ?_; simpa [Act.eval, Act.put] using HQ.out)
  | (with_reducible refine ltbuild_is rfl 33 #[(0, .tmp 9), (1, .tmp 10), (2, .tmp 12), (3, .tmp 13), (4, .tmp 14)] rfl (bbB v p lo hi).z.C ?_ ?_; simpa [Act.eval, Act.put] using HB.out)
  | (with_reducible refine wpList_store_mid rfl 33 (.tmp 8) (.tmp 15) rfl w.heap.size 0 (bbB v p lo hi).z.C rfl rfl HT2.out SIZ.out HON.out ?_; rw [HW2.out]))
 exact bodyPost_ret (ltres_ag1 Tryd.results8 _ _ w.heap.size _ _ rfl z2 hub rfl nb_info) rfl ⟨rfl, g2⟩
set_option maxRecDepth 100000 in
set_option maxHeartbeats 1000000 in
theorem tnew_ok (w : World) : Calls Tryd.prog 7 #[] w fun e w' => ∃ t mb, e = .returned (.pointer (some ⟨t, 0, none⟩)) ∧ TreeS w' t mb [(0, bb0.z)] ∧ w.heap.size ≤ t ∧ w.heap.size ≤ mb ∧ t ≠ mb ∧ Grew w w' := by
 have hub := Tryd.underlying33
 have CG := Lib.hid (fun W => genesis_ok W)
 have hkey := dig_key 0 (by omega)
 rw [show ((0 : Nat) : Int) = 0 from rfl] at hkey
 have HTB : ∀ v, Hid (Tryd.prog.built 60 [(0, .map (some v))] = some #[.map (some v)]) := fun v => Lib.hid (by kernel_rfl)
 have hmk : ∀ W, (Instr.makeMap 58 none).run Tryd.prog W = .ok (.map (some W.heap.size)) (W.alloc (.map #[] 0)) := fun W => by
  simp [Instr.makeMap, run_underlying Tryd.underlying58, asInt, asIntOf, Result.andThen]
 have hown0 : (w.alloc (.map #[] 0)).ownsMap Tryd.prog 26 heldR w.heap.size 0 (.map []) := World.ownsMap_made _ _ _ _
 have G0 := grew_alloc (grew_refl w) (.map #[] 0)
 go_enter Tryd.func7, Tryd.ntmps7
 go_wp2_with fail
 refine (CG.out _).mono ?_
 rintro e w1 ⟨rfl, g1⟩
 have hown1 := tr_ownsMap_gr hown0 g1
 have G1 := grew_trans G0 g1
 have hs1 := g1.size
 rw [alloc_size] at hs1
 clear hown0 G0 g1 CG
 go_wp2_with (first
  | (refine wpList_insert_own _ rfl _ _ _ 58 rfl 26 33 dig_law Tryd.underlying58 heldR w.heap.size 0 _ rfl hown1 (by unfold maxLen; omega) _ _ _ rfl rfl hkey (.held (.agg bb0.z.C)) [] rfl ?_; intro w2 hown2 hgr2)
  | (with_reducible refine ltbuild_is rfl 60 #[(0, .tmp 3)] rfl #[.map (some w.heap.size)] ?_ ?_; simpa [Act.eval, Act.put] using (HTB w.heap.size).out))
 have G2 : Grew w w2 := G1.grown hgr2 G1.size (fun j hj => by cases hj; exact Nat.le_refl _)
 have hs2 := hgr2.size
 have hown3 := tr_ownsMap_gr hown2 (grew_alloc (grew_refl w2) (.cells #[.map (some w.heap.size)] 60))
 have zp := Ag.new w2 60 #[.map (some w.heap.size)]
 go_ret
 exact ⟨w2.heap.size, w.heap.size, rfl, ⟨zp, by simpa [trD] using hown3, by simp, fun x hx => by
  obtain rfl : x = (0, bb0.z) := by simpa using hx
  exact ⟨by decide, bb0_ok⟩, by simp⟩, by omega, Nat.le_refl _, by omega, grew_alloc G2 _⟩
end Go.Proofs.YtbohmmcmlabcdaaDoor

namespace Go.Proofs.YtbohmmcmlabcdaaDoor
set_option linter.unusedSimpArgs false
set_option linter.unusedVariables false
open Go.RowKit Go.Maps
set_option linter.unusedVariables false
set_option linter.unnecessarySimpa false
set_option linter.unusedSimpArgs false
structure AgY (w : World) (B lo hi : Nat) (cs : List Value) (v : Value) : Prop where
 out : ∃ q, v = .pointer (some ⟨q, 0, none⟩) ∧ Ag w q cs ∧ B ≤ lo ∧ lo ≤ q ∧ q < hi
theorem AgY.gr {w w' : World} {B lo hi : Nat} {cs : List Value} {v : Value} (h : AgY w B lo hi cs v) (k : Grew w w') : AgY w' B lo hi cs v := by
 obtain ⟨q, h1, h2, h3⟩ := h.out
 exact ⟨q, h1, h2.grew k, h3⟩
structure AgF (w0 : World) (cs : List Value) (v : Value) (W : World) : Prop where
 out : ∃ q, v = .pointer (some ⟨q, 0, none⟩) ∧ Ag W q cs ∧ w0.heap.size ≤ q ∧ Grew w0 W
theorem AgF.gr {w0 : World} {cs : List Value} {v : Value} {x y : World} (h : AgF w0 cs v x) (g : Grew x y) : AgF w0 cs v y := by
 obtain ⟨q, h1, h2, h3, h4⟩ := h.out
 exact ⟨q, h1, h2.grew g, h3, grew_trans h4 g⟩
structure CpS (b : BB) (v : Value) : Prop where
 out : ∃ m : NB, m.b = b ∧ v = .agg m.C
set_option maxRecDepth 100000 in
set_option maxHeartbeats 1000000 in
theorem tget_some_ok {t mb : Nat} {L : TL} (d : Nat) (hd : d < 18446744073709551616) (n : NB) (hg : tget L d = some n) (w : World) (h : TreeS w t mb L) : Calls Tryd.prog 21 #[.pointer (some ⟨t, 0, none⟩), .int .u64 (d : Nat)] w fun e w' => ∃ m : NB, m.b = n.b ∧ e = .returned (.tuple #[.agg m.C, .bool true]) ∧ Grew w w' := by
 have hub := Tryd.underlying33
 have za := Ag.new w 33 (#[.int .i64 0, .int .u64 0, .int .i64 0, .int .u64 0, .slice none 0 0, .int .i64 0, .int .i64 0, .slice none 0 0])
 have ga := grew_alloc (grew_refl w) (.cells (#[.int .i64 0, .int .u64 0, .int .i64 0, .int .u64 0, .slice none 0 0, .int .i64 0, .int .i64 0, .slice none 0 0]) 33)
 obtain ⟨hu, hbb⟩ := h.look d
 rw [hg] at hu hbb
 dsimp only [Option.getD, Option.isSome] at hu hbb
 have hc := (h.gr ga).cell
 have hown := (h.gr ga).own
 have hkey := dig_key d hd
 obtain ⟨w2, hw2, ht2, g2, z2⟩ := ltput_any (w.alloc (.cells (#[.int .i64 0, .int .u64 0, .int .i64 0, .int .u64 0, .slice none 0 0, .int .i64 0, .int .i64 0, .slice none 0 0]) 33)) 33 #[.int .i64 0, .int .u64 0, .int .i64 0, .int .u64 0, .slice none 0 0, .int .i64 0, .int .i64 0, .slice none 0 0] n.C rfl
 rw [alloc_size] at hw2 ht2 z2
 have HON := Lib.hid n.one
 have SIZ : Hid ((Tryd.prog.info? 33).map (·.size) = some n.C.size) := Lib.hid nb_info
 have SIL : Hid ((Tryd.prog.info? 33).map (·.size) = some n.C.toList.length) := Lib.hid nb_info
 have zb := za.grew g2
 have HW2 := Lib.hid hw2
 have HT2 := Lib.hid ht2
 have hm2 := z2.cell
 have CC := Lib.hid (bcopy_ok n w2)
 clear hw2 ht2 h hd hg za z2
 go_enter Tryd.func21, Tryd.ntmps21
 go_wp2_with (first
  | (at_lookup; refine wpList_lookup_held_ok _ rfl _ _ 58 rfl 26 33 dig_law Tryd.underlying58 (nb_zero _) mb L.length _ rfl hown _ _ rfl hkey (.agg n.C) hu _ hbb ?_)
  | (with_reducible refine wpList_store_mid rfl 33 (.tmp 6) (.tmp 15) rfl (w.heap.size + 1) 0 n.C rfl rfl HT2.out SIZ.out HON.out ?_; rw [HW2.out])
  | (with_reducible refine wpList_load_mid rfl 33 (.tmp 6) rfl (w.heap.size + 1) 0 rfl n.C.toList _ hm2 hub rfl SIL.out ?_; simp only [Array.toArray_toList]))
 refine (CC.out).mono ?_
 rintro e w3 ⟨m, hm, rfl, g3⟩
 have zc := zb.grew g3
 have HT3 : Hid (w3.there w.heap.size 0 m.C.size) := Lib.hid (zc.thereN m.C.size rfl)
 have z4 := Ag.set (vs := m.C.toList) zc rfl
 have G4 := setCells_grew (o := 0) (b := w.heap.size) m.C.toList (grew_trans (grew_trans ga g2) g3) (Nat.le_refl _)
 have HON2 := Lib.hid m.one
 have SIZ2 : Hid ((Tryd.prog.info? 33).map (·.size) = some m.C.size) := Lib.hid nb_info
 have HMB := Lib.hid hm
 clear zb zc ga g2 g3 hm CC HT2 HW2 hm2 hown hc
 go_wp2_with (with_reducible refine wpList_store_mid rfl 33 (.tmp 4) (.tmp 21) rfl w.heap.size 0 m.C rfl rfl HT3.out SIZ2.out HON2.out ?_)
 exact bodyPost_ret (ltres_ag2 Tryd.results21 _ _ w.heap.size _ _ _ rfl rfl z4 hub rfl nb_info) rfl ⟨m, HMB.out, by simp, G4⟩
/-- what Add tells -/
noncomputable def addE (L : TL) (b : BB) : Int := match tget L (blkD b) with
 | some _ => 5
 | none => match tget L b.p with
  | none => 11
  | some q => if b.v ≤ q.b.v then 12 else if b.lo = q.b.hi then 0 else 10
def addL (E : Int) (L : TL) (x : Nat × NB) : TL := if E = 0 then L ++ [x] else L
set_option maxRecDepth 100000 in
set_option maxHeartbeats 4000000 in
theorem tadd_ok {t mb : Nat} {L : TL} (n : NB) (hn : n.b.ok) (hl : L.length < 100000) (w : World) (hS : Std w) (h : TreeS w t mb L) : Calls Tryd.prog 9 #[.pointer (some ⟨t, 0, none⟩), .agg n.C] w fun e w' => ∃ m : NB, m.b = n.b ∧ e = .returned (.int .i64 (addE L n.b)) ∧ TreeS w' t mb (addL (addE L n.b) L (blkD n.b, m)) ∧ Kp (fun i => i = mb) w w' := by
 have hub := Tryd.underlying33
 have z0 := Ag.new w 33 n.C
 have G0 := grew_alloc (grew_refl w) (.cells n.C 33)
 have SIN : Hid ((Tryd.prog.info? 33).map (·.size) = some n.C.toList.length) := Lib.hid nb_info
 have CD := Lib.hid (bdigest_ok n hn _ (hS.grew G0))
 have HN := Lib.hid hn
 have HD : Hid (blkD n.b < 18446744073709551616) := Lib.hid (blkD_lt _)
 obtain ⟨D, hD⟩ : ∃ D, blkD n.b = D := ⟨_, rfl⟩
 have HDE := Lib.hid hD
 rw [hD] at CD HD
 have hm := z0.cell
 obtain ⟨E, hE0⟩ : ∃ E, addE L n.b = E := ⟨_, rfl⟩
 have HE0 := Lib.hid hE0
 rw [hE0]
 clear hE0
 have HT := Lib.hid h
 have HZ := Lib.hid z0
 have HG := Lib.hid G0
 have HL := Lib.hid hl
 clear hS hn h z0 G0 hD hl
 go_enter Tryd.func9, Tryd.ntmps9
 go_wp2_with (with_reducible refine wpList_load_mid rfl 33 (.tmp 3) rfl w.heap.size 0 rfl n.C.toList _ hm hub rfl SIN.out ?_; simp only [Array.toArray_toList])
 refine (CD.out).mono ?_
 rintro e w1 ⟨rfl, g1⟩
 have G1 := grew_trans HG.out g1
 have z1 := HZ.out.grew g1
 have T1 := HT.out.gr G1
 clear hm CD HZ HG g1
 have CH := Lib.hid (thas_ok D HD.out w1 T1)
 obtain ⟨hb0, hhb⟩ : ∃ b, (tget L D).isSome = b := ⟨_, rfl⟩
 rw [hhb] at CH
 have HHB := Lib.hid hhb
 clear hhb
 go_wp2_with fail
 refine (CH.out).mono ?_
 rintro e w3 ⟨rfl, g3⟩
 have G3 := grew_trans G1 g3
 have z3 := z1.grew g3
 have T3 := T1.gr g3
 clear G1 z1 T1 g3 CH
 cases hb0
 ·have hno : tget L D = none := by
   have := HHB.out
   cases hq : tget L D with
   | none => rfl
   | some x => rw [hq] at this; cases this
  have HNO := Lib.hid hno
  obtain ⟨hu, hbb⟩ := T3.look n.b.p
  have hgz : ((tget L n.b.p).getD bb0.z).C.size = 8 := rfl
  obtain ⟨gc, hgc⟩ : ∃ g, ((tget L n.b.p).getD bb0.z).C = g := ⟨_, rfl⟩
  obtain ⟨hb, hhb⟩ : ∃ b, (tget L n.b.p).isSome = b := ⟨_, rfl⟩
  have HON : Hid (gc.all (·.oneCell') = true) := Lib.hid (by rw [← hgc]; exact NB.one _)
  have SIZ : Hid ((Tryd.prog.info? 33).map (·.size) = some gc.size) := Lib.hid (by rw [← hgc]; exact nb_info)
  rw [hgc] at hgz hu
  rw [hhb] at hbb
  have HGC := Lib.hid hgc
  have HHP := Lib.hid hhb
  have HGZ := Lib.hid hgz
  have HU := Lib.hid hu
  have HBB := Lib.hid hbb
  have HKY := Lib.hid (dig_key n.b.p HN.out.p)
  have HTC : Hid (∀ y, Grew w3 y → y.cell? ⟨t, 0, none⟩ = some (.map (some mb))) := Lib.hid (fun y g => (T3.gr g).cell)
  have HOW : Hid (∀ y, Grew w3 y → y.ownsMap Tryd.prog 26 heldR mb L.length (trD L)) := Lib.hid (fun y g => (T3.gr g).own)
  have HBP : Hid (∀ y, Grew w3 y → y.cell? ⟨w.heap.size, 1, none⟩ = some (.int .u64 (n.b.p : Nat))) := Lib.hid (fun y g => by simpa [NB.C] using (z3.grew g).cell 1 _ rfl)
  have HT3 := Lib.hid T3
  have HZ3 := Lib.hid z3
  have HG3 := Lib.hid G3
  clear hno hu hbb hgz hgc hhb T3 z3 G3 HHB
  go_upto_region 4 with fail
  refine wp_region_latev 11 12 (fun ix9 => match ix9 with
   | 0 => fun v => v = .pointer (some ⟨t, 0, none⟩)
   | 1 => fun v => v = .pointer (some ⟨t, 0, none⟩)
   | 2 => fun v => v = .pointer (some ⟨t, 0, none⟩)
   | 3 => fun v => v = .map (some mb)
   | 4 => fun v => v = .pointer (some ⟨w.heap.size, 1, none⟩)
   | 5 => fun v => v = .int .u64 (n.b.p : Nat)
   | 6 => fun v => v = .tuple #[.agg gc, .bool hb]
   | 7 => fun v => v = .tuple #[.agg gc, .bool hb]
   | 8 => fun v => v = .agg gc
   | 9 => fun v => v = .bool hb
   | 10 => fun _ => True
   | 11 => fun _ => True
   | _ => fun _ => True) (fun ix9 => match ix9 with
   | 10 => fun lo hi v w => AgY w w3.heap.size lo hi (#[.int .i64 0, .int .u64 0, .int .i64 0, .int .u64 0, .slice none 0 0, .int .i64 0, .int .i64 0, .slice none 0 0] : Array Value).toList v
   | _ => fun _ _ _ _ => True) (fun ix9 => match ix9 with
   | ix8 => ix8) (fun ix9 => match ix9 with
   | ix8 => ix8) (fun ix9 => match ix9 with
   | 9 => true
   | _ => false) 10 (fun v W => AgF w3 gc.toList v W) rfl (by kernel_rfl) (by kernel_rfl) (by kernel_rfl) (by kernel_rfl) rfl rfl (by decide) (fun _ => trivial) ?_ ?_ ?_ ?_ (fun o ho => by cases ho; rfl) (fun v x y h hg => AgF.gr h hg) ?_
  ·refine ⟨?_, ?_, ?_, ?_, ?_, ?_, ?_, ?_, ?_, ?_, ?_, trivial⟩
   ·intro vs lo hi y hg hd hvia
    replace hg : Grew w3 y := hg
    clear hvia
    simp only [actOf, tk1, tk0, dr1, dr0, Act.put, si1, st1, st0, Nat.reduceAdd]
    go_wp2_with fail
    first | exact ⟨rfl, _, rfl, grew_refl _, rfl⟩ | exact ⟨rfl, _, rfl, grew_refl _, rfl, trivial⟩
   ·intro vs lo hi y hg hd hvia
    replace hg : Grew w3 y := hg
    obtain ⟨h0, _⟩ := hd
    replace h0 := h0 rfl
    clear hvia
    simp only [actOf, tk1, tk0, dr1, dr0, Act.put, si1, st1, st0, Nat.reduceAdd]
    rw [show vs 0 = _ from h0]
    go_wp2_with fail
    first | exact ⟨rfl, _, rfl, grew_refl _, rfl⟩ | exact ⟨rfl, _, rfl, grew_refl _, rfl, trivial⟩
   ·intro vs lo hi y hg hd hvia
    replace hg : Grew w3 y := hg
    obtain ⟨h1, _⟩ := hd
    replace h1 := h1 rfl
    clear hvia
    simp only [actOf, tk1, tk0, dr1, dr0, Act.put, si1, st1, st0, Nat.reduceAdd]
    rw [show vs 1 = _ from h1]
    go_wp2_with fail
    first | exact ⟨rfl, _, rfl, grew_refl _, rfl⟩ | exact ⟨rfl, _, rfl, grew_refl _, rfl, trivial⟩
   ·intro vs lo hi y hg hd hvia
    replace hg : Grew w3 y := hg
    obtain ⟨h2, _⟩ := hd
    replace h2 := h2 rfl
    clear hvia
    simp only [actOf, tk1, tk0, dr1, dr0, Act.put, si1, st1, st0, Nat.reduceAdd]
    rw [show vs 2 = _ from h2]
    have hc := HTC.out y hg
    go_wp2_with fail
    first | exact ⟨rfl, _, rfl, grew_refl _, rfl⟩ | exact ⟨rfl, _, rfl, grew_refl _, rfl, trivial⟩
   ·intro vs lo hi y hg hd hvia
    replace hg : Grew w3 y := hg
    clear hvia
    simp only [actOf, tk1, tk0, dr1, dr0, Act.put, si1, st1, st0, Nat.reduceAdd]
    go_wp2_with fail
    first | exact ⟨rfl, _, rfl, grew_refl _, rfl⟩ | exact ⟨rfl, _, rfl, grew_refl _, rfl, trivial⟩
   ·intro vs lo hi y hg hd hvia
    replace hg : Grew w3 y := hg
    obtain ⟨h4, _⟩ := hd
    replace h4 := h4 rfl
    clear hvia
    simp only [actOf, tk1, tk0, dr1, dr0, Act.put, si1, st1, st0, Nat.reduceAdd]
    rw [show vs 4 = _ from h4]
    have hc := HBP.out y hg
    go_wp2_with fail
    first | exact ⟨rfl, _, rfl, grew_refl _, rfl⟩ | exact ⟨rfl, _, rfl, grew_refl _, rfl, trivial⟩
   ·intro vs lo hi y hg hd hvia
    replace hg : Grew w3 y := hg
    obtain ⟨h3, h5, _⟩ := hd
    replace h3 := h3 rfl
    replace h5 := h5 rfl
    clear hvia
    simp only [actOf, tk1, tk0, dr1, dr0, Act.put, si1, st1, st0, Nat.reduceAdd]
    rw [show vs 3 = _ from h3, show vs 5 = _ from h5]
    have hown := HOW.out y hg
    go_wp2_with (at_lookup; refine wpList_lookup_held_ok _ rfl _ _ 58 rfl 26 33 dig_law Tryd.underlying58 (nb_zero _) mb L.length _ rfl hown _ _ rfl HKY.out (.agg gc) HU.out _ HBB.out ?_)
    first | exact ⟨rfl, _, rfl, grew_refl _, rfl⟩ | exact ⟨rfl, _, rfl, grew_refl _, rfl, trivial⟩
   ·intro vs lo hi y hg hd hvia
    replace hg : Grew w3 y := hg
    obtain ⟨h6, _⟩ := hd
    replace h6 := h6 rfl
    clear hvia
    simp only [actOf, tk1, tk0, dr1, dr0, Act.put, si1, st1, st0, Nat.reduceAdd]
    rw [show vs 6 = _ from h6]
    go_wp2_with fail
    first | exact ⟨rfl, _, rfl, grew_refl _, rfl⟩ | exact ⟨rfl, _, rfl, grew_refl _, rfl, trivial⟩
   ·intro vs lo hi y hg hd hvia
    replace hg : Grew w3 y := hg
    obtain ⟨h7, _⟩ := hd
    replace h7 := h7 rfl
    clear hvia
    simp only [actOf, tk1, tk0, dr1, dr0, Act.put, si1, st1, st0, Nat.reduceAdd]
    rw [show vs 7 = _ from h7]
    go_wp2_with fail
    first | exact ⟨rfl, _, rfl, grew_refl _, rfl⟩ | exact ⟨rfl, _, rfl, grew_refl _, rfl, trivial⟩
   ·intro vs lo hi y hg hd hvia
    replace hg : Grew w3 y := hg
    obtain ⟨h7, _⟩ := hd
    replace h7 := h7 rfl
    clear hvia
    simp only [actOf, tk1, tk0, dr1, dr0, Act.put, si1, st1, st0, Nat.reduceAdd]
    rw [show vs 7 = _ from h7]
    go_wp2_with fail
    first | exact ⟨rfl, _, rfl, grew_refl _, rfl⟩ | exact ⟨rfl, _, rfl, grew_refl _, rfl, trivial⟩
   ·intro vs lo hi y hg hd hvia
    replace hg : Grew w3 y := hg
    clear hvia
    simp only [actOf, tk1, tk0, dr1, dr0, Act.put, si1, st1, st0, Nat.reduceAdd]
    go_wp2_with fail
    exact ⟨rfl, _, rfl, grew_alloc (grew_refl _) _, ⟨y.heap.size, rfl, Ag.new y 33 #[.int .i64 0, .int .u64 0, .int .i64 0, .int .u64 0, .slice none 0 0, .int .i64 0, .int .i64 0, .slice none 0 0], hg.size, Nat.le_refl _, by show y.heap.size < (y.alloc _).heap.size; simp⟩⟩
  ·refine ⟨(fun h => absurd h (by decide)), (fun h => absurd h (by decide)), (fun h => absurd h (by decide)), (fun h => absurd h (by decide)), (fun h => absurd h (by decide)), (fun h => absurd h (by decide)), (fun h => absurd h (by decide)), (fun h => absurd h (by decide)), (fun h => absurd h (by decide)), ?_, (fun h => absurd h (by decide)), (fun h => absurd h (by decide)), trivial⟩
   ·intro _ vs y hd
    obtain ⟨h7, _⟩ := hd
    replace h7 := h7 rfl
    simp only [actOf, tk1, tk0, dr1, dr0, Act.put, si1, st1, st0, Nat.reduceAdd]
    rw [show vs 7 = _ from h7]
    go_wp2_with fail
    first | exact ⟨rfl, _, rfl, grew_refl _, rfl⟩ | exact ⟨rfl, _, rfl, grew_refl _, rfl, trivial⟩
  ·intro i lo hi v x y h hg
   match i, h with
   | 10, h => exact AgY.gr h hg
   | 0, _ => trivial
   | 1, _ => trivial
   | 2, _ => trivial
   | 3, _ => trivial
   | 4, _ => trivial
   | 5, _ => trivial
   | 6, _ => trivial
   | 7, _ => trivial
   | 8, _ => trivial
   | 9, _ => trivial
   | m + 11, _ => trivial
  ·intro vs lo hi y hg hJ hK hB hD
   replace hg : Grew w3 y := hg
   have k6 := hK 10 (by decide) rfl
   have b6 := hB 10 (by decide) rfl
   clear hK hB hD
   have j0 : vs 0 = .pointer (some ⟨t, 0, none⟩) := hJ 0 (by decide) rfl
   have j1 : vs 1 = .pointer (some ⟨t, 0, none⟩) := hJ 1 (by decide) rfl
   have j2 : vs 2 = .pointer (some ⟨t, 0, none⟩) := hJ 2 (by decide) rfl
   have j3 : vs 3 = .map (some mb) := hJ 3 (by decide) rfl
   have j4 : vs 4 = .pointer (some ⟨w.heap.size, 1, none⟩) := hJ 4 (by decide) rfl
   have j5 : vs 5 = .int .u64 (n.b.p : Nat) := hJ 5 (by decide) rfl
   have j6 : vs 6 = .tuple #[.agg gc, .bool hb] := hJ 6 (by decide) rfl
   have j7 : vs 7 = .tuple #[.agg gc, .bool hb] := hJ 7 (by decide) rfl
   have j8 : vs 8 = .agg gc := hJ 8 (by decide) rfl
   clear hJ
   simp only [actOf, tk1, tk0, dr1, dr0, Act.put, si1, st1, st0, Nat.reduceAdd]
   obtain ⟨q, e6, zq, hBq, hql, hqh⟩ := AgY.out k6
   rw [e6, j8]
   have HTH : Hid (y.there q 0 gc.size) := Lib.hid (zq.thereN gc.size (by rw [HGZ.out]; rfl))
   have z4 := Ag.set (vs := gc.toList) zq (by rw [Array.length_toList, HGZ.out]; rfl)
   have HF : Hid (AgF w3 gc.toList (.pointer (some ⟨q, 0, none⟩)) (y.setCells q 0 gc.toList)) := Lib.hid ⟨q, rfl, z4, by omega, setCells_grew (o := 0) (b := q) _ hg (by omega)⟩
   clear hg z4 zq
   go_wp2_with (with_reducible refine wpList_store_mid rfl 33 (.tmp 6) (.tmp 21) rfl q 0 gc rfl rfl HTH.out SIZ.out HON.out ?_)
   exact HF.out
  ·intro vs y hF hJ
   have j0 : vs 0 = .pointer (some ⟨t, 0, none⟩) := hJ 0 (by decide)
   have j1 : vs 1 = .pointer (some ⟨t, 0, none⟩) := hJ 1 (by decide)
   have j2 : vs 2 = .pointer (some ⟨t, 0, none⟩) := hJ 2 (by decide)
   have j3 : vs 3 = .map (some mb) := hJ 3 (by decide)
   have j4 : vs 4 = .pointer (some ⟨w.heap.size, 1, none⟩) := hJ 4 (by decide)
   have j5 : vs 5 = .int .u64 (n.b.p : Nat) := hJ 5 (by decide)
   have j6 : vs 6 = .tuple #[.agg gc, .bool hb] := hJ 6 (by decide)
   have j7 : vs 7 = .tuple #[.agg gc, .bool hb] := hJ 7 (by decide)
   have j8 : vs 8 = .agg gc := hJ 8 (by decide)
   have j9 : vs 9 = .bool hb := hJ 9 (by decide)
   clear hJ
   simp only [actOf, tk1, tk0, dr1, dr0, Act.put, si1, st1, st0, Nat.reduceAdd]
   obtain ⟨q, e6, zq, hqB, hg⟩ := hF.out
   rw [e6, j9]
   have zb := HZ3.out.grew hg
   have T4 := HT3.out.gr hg
   have G4 := grew_trans HG3.out hg
   have hb0 : y.cell? ⟨w.heap.size, 0, none⟩ = some (.int .i64 n.b.v) := by simpa [NB.C] using zb.cell 0 _ rfl
   have hb5 : y.cell? ⟨w.heap.size, 5, none⟩ = some (.int .i64 n.b.lo) := by simpa [NB.C] using zb.cell 5 _ rfl
   rw [← HGC.out] at zq
   have hq0 : y.cell? ⟨q, 0, none⟩ = some (.int .i64 ((tget L n.b.p).getD bb0.z).b.v) := by simpa [NB.C] using zq.cell 0 _ rfl
   have hq6 : y.cell? ⟨q, 6, none⟩ = some (.int .i64 ((tget L n.b.p).getD bb0.z).b.hi) := by simpa [NB.C] using zq.cell 6 _ rfl
   have HT4 := Lib.hid T4
   have HG4 := Lib.hid G4
   have HZB := Lib.hid zb
   clear e6 zq hqB hg T4 G4 zb hF HTC HOW HBP HT3 HZ3 HG3 HU HBB HKY HON SIZ HGZ HGC
   clear j0 j1 j2 j3 j4 j5 j6 j7 j8 j9
   generalize vs 9 = v9 at *
   have hE : addE L n.b = (match tget L n.b.p with
    | none => 11
    | some q => if n.b.v ≤ q.b.v then 12 else if n.b.lo = q.b.hi then 0 else 10) := by
    unfold addE; rw [HDE.out, HNO.out]
   cases hp : tget L n.b.p with
   | none =>
    rw [hp] at hE
    dsimp only at hE
    have ehb : hb = false := by rw [← HHP.out, hp]; rfl
    rw [ehb]
    have HEE : Hid (E = 11) := Lib.hid (by rw [← HE0.out, hE])
    clear hE hp ehb hq0 hq6 hb0 hb5
    go_wp2_with fail
    go_ret
    exact ⟨n, rfl, (by rw [HEE.out]; rfl), by rw [HEE.out]; exact HT4.out, kp_grew HG4.out⟩
   | some q0 =>
    rw [hp] at hE hq0 hq6
    dsimp only [Option.getD] at hE hq0 hq6
    have ehb : hb = true := by rw [← HHP.out, hp]; rfl
    rw [ehb]
    by_cases hv : n.b.v ≤ q0.b.v
    ·rw [if_pos hv] at hE
     have e1 : decide (n.b.v ≤ q0.b.v) = true := decide_eq_true hv
     have HEE : Hid (E = 12) := Lib.hid (by rw [← HE0.out, hE])
     clear hE hp ehb hv hq6 hb5
     generalize n.b.v = bv at *
     generalize q0.b.v = qv at *
     go_wp2_with fail
     go_ret
     exact ⟨n, rfl, (by rw [HEE.out]; rfl), by rw [HEE.out]; exact HT4.out, kp_grew HG4.out⟩
    ·rw [if_neg hv] at hE
     have e1 : decide (n.b.v ≤ q0.b.v) = false := decide_eq_false hv
     by_cases hh : n.b.lo = q0.b.hi
     ·rw [if_pos hh] at hE
      have e2 : (n.b.lo != q0.b.hi) = false := by simp [hh]
      have HEE : Hid (E = 0) := Lib.hid (by rw [← HE0.out, hE])
      have HTC2 : Hid (∀ z, Grew y z → z.cell? ⟨t, 0, none⟩ = some (.map (some mb))) := Lib.hid (fun z g => (HT4.out.gr g).cell)
      have HBM2 : Hid (∀ z, Grew y z → z.rangeAt w.heap.size 0 n.C.toList) := Lib.hid (fun z g => (HZB.out.grew g).cell)
      clear hE hp ehb hv hh
      generalize hy5 : y = w5 at *
      clear hy5
      go_upto_region 11 with fail
      refine wp_region_rel 7 (fun ix9 => match ix9 with
       | 0 => fun v _ => v = .pointer (some ⟨t, 0, none⟩)
       | 1 => fun v _ => v = .pointer (some ⟨t, 0, none⟩)
       | 2 => fun v _ => v = .pointer (some ⟨t, 0, none⟩)
       | 3 => fun v _ => v = .map (some mb)
       | 4 => fun v _ => v = .int .u64 (D : Nat)
       | 5 => fun v _ => v = .agg n.C
       | 6 => fun v _ => CpS n.b v
       | _ => fun _ _ => True) (by kernel_rfl) (by kernel_rfl) ?_ ?_ ?_
      ·intro i v x y h hg
       match i, h with
       | 0, h | 1, h | 2, h | 3, h | 4, h | 5, h => exact h
       | 6, h => exact h
       | m + 7, _ => trivial
      ·refine ⟨?_, ?_, ?_, ?_, ?_, ?_, ?_, trivial⟩
       ·intro vs y hg hd
        simp only [actOf, tk1, tk0, dr1, dr0, Act.put, si1, st1, st0, Nat.reduceAdd]
        go_wp2_with fail
        exact ⟨rfl, _, rfl, grew_refl _, rfl⟩
       ·intro vs y hg hd
        obtain ⟨h0, _⟩ := hd
        replace h0 := h0 rfl
        simp only [actOf, tk1, tk0, dr1, dr0, Act.put, si1, st1, st0, Nat.reduceAdd]
        rw [show vs 0 = _ from h0]
        go_wp2_with fail
        exact ⟨rfl, _, rfl, grew_refl _, rfl⟩
       ·intro vs y hg hd
        obtain ⟨h1, _⟩ := hd
        replace h1 := h1 rfl
        simp only [actOf, tk1, tk0, dr1, dr0, Act.put, si1, st1, st0, Nat.reduceAdd]
        rw [show vs 1 = _ from h1]
        go_wp2_with fail
        exact ⟨rfl, _, rfl, grew_refl _, rfl⟩
       ·intro vs y hg hd
        obtain ⟨h2, _⟩ := hd
        replace h2 := h2 rfl
        simp only [actOf, tk1, tk0, dr1, dr0, Act.put, si1, st1, st0, Nat.reduceAdd]
        rw [show vs 2 = _ from h2]
        have hc := HTC2.out y hg
        go_wp2_with fail
        exact ⟨rfl, _, rfl, grew_refl _, rfl⟩
       ·intro vs y hg hd
        simp only [actOf, tk1, tk0, dr1, dr0, Act.put, si1, st1, st0, Nat.reduceAdd]
        go_wp2_with fail
        exact ⟨rfl, _, rfl, grew_refl _, rfl⟩
       ·intro vs y hg hd
        simp only [actOf, tk1, tk0, dr1, dr0, Act.put, si1, st1, st0, Nat.reduceAdd]
        have hm := HBM2.out y hg
        go_wp2_with (with_reducible refine wpList_load_mid rfl 33 (.tmp 3) rfl w.heap.size 0 rfl n.C.toList _ hm hub rfl SIN.out ?_; simp only [Array.toArray_toList])
        exact ⟨rfl, _, rfl, grew_refl _, rfl⟩
       ·intro vs y hg hd
        obtain ⟨h5, _⟩ := hd
        replace h5 := h5 rfl
        simp only [actOf, tk1, tk0, dr1, dr0, Act.put, si1, st1, st0, Nat.reduceAdd]
        rw [show vs 5 = _ from h5]
        go_wp2_with (go_at_call 24; refine (bcopy_ok n y).mono ?_; rintro e z ⟨m9, hm9, rfl, gz⟩)
        exact ⟨rfl, _, rfl, gz, ⟨m9, hm9, rfl⟩⟩
      ·intro vs y hg hJ
       have j0 : vs 0 = .pointer (some ⟨t, 0, none⟩) := hJ 0 (by decide)
       have j1 : vs 1 = .pointer (some ⟨t, 0, none⟩) := hJ 1 (by decide)
       have j2 : vs 2 = .pointer (some ⟨t, 0, none⟩) := hJ 2 (by decide)
       have j3 : vs 3 = .map (some mb) := hJ 3 (by decide)
       have j4 : vs 4 = .int .u64 (D : Nat) := hJ 4 (by decide)
       have j5 : vs 5 = .agg n.C := hJ 5 (by decide)
       have s44 := hJ 6 (by decide)
       clear hJ
       simp only [actOf, tk1, tk0, dr1, dr0, Act.put, si1, st1, st0, Nat.reduceAdd]
       obtain ⟨m, hmb, e44⟩ := s44.out
       rw [e44, j3, j4]
       have T5 := HT4.out.gr hg
       have hown5 := T5.own
       have hkey := dig_key D HD.out
       have hlen := HL.out
       have HKP := Lib.hid (kp_trans (S := fun i => i = mb) (kp_grew HG4.out) (kp_grew hg))
       have HT5 := Lib.hid T5
       have HMB := Lib.hid hmb
       clear T5 s44 e44 hmb hg HTC2 HBM2 HT4 HG4 HZB j0 j1 j2 j3 j4 j5
       go_wp2_with (at_mapUpdate; refine wpList_mapUpdate_own _ rfl _ _ _ 58 rfl 26 33 dig_law Tryd.underlying58 heldR mb L.length _ rfl hown5 (by unfold maxLen; omega) _ _ _ rfl rfl hkey (.held (.agg m.C)) [] rfl ?_; intro w6 hown6 hgr6)
       go_ret
       refine ⟨m, HMB.out, (by rw [HEE.out]; rfl), ?_, kp_grown HKP.out hgr6 (fun g h => by cases h; exact .inl rfl)⟩
       have hne : t ≠ mb := by
        intro e
        obtain ⟨es, ck, hb', _⟩ := HT5.out.own
        have := HT5.out.cell
        rw [e] at this
        simp [World.cell?, hb'] at this
       rw [HEE.out, HDE.out, show addL 0 L (D, m) = L ++ [(D, m)] from if_pos rfl]
       refine ⟨HT5.out.ptr.kp (S := fun i => i = mb) (kp_grown (kp_refl _ _) hgr6 (fun g h => by cases h; exact .inl rfl)) hne, ?_, ?_, ?_, ?_⟩
       ·rw [trD_app, List.length_append]
        exact hown6
       ·rw [List.map_append, List.nodup_append]
        refine ⟨HT5.out.nd, by simp, ?_⟩
        intro a ha b hb' e
        obtain ⟨x, hx, rfl⟩ := List.mem_map.1 ha
        have hb2 : b = D := by simpa using hb'
        exact tget_none HNO.out x hx (e.trans hb2)
       ·intro x hx
        rcases List.mem_append.1 hx with h | h
        ·exact HT5.out.ok x h
        ·obtain rfl : x = (D, m) := by simpa using h
         exact ⟨HD.out, by rw [HMB.out]; exact HN.out⟩
       ·simp; omega
     ·rw [if_neg hh] at hE
      have e2 : (n.b.lo != q0.b.hi) = true := by simp [hh]
      have HEE : Hid (E = 10) := Lib.hid (by rw [← HE0.out, hE])
      clear hE hp ehb hv hh
      generalize n.b.v = bv at *
      generalize q0.b.v = qv at *
      generalize n.b.lo = bl at *
      generalize q0.b.hi = qh at *
      go_wp2_with fail
      go_ret
      exact ⟨n, rfl, (by rw [HEE.out]; rfl), by rw [HEE.out]; exact HT4.out, kp_grew HG4.out⟩
 ·have hE : addE L n.b = 5 := by
   unfold addE; rw [HDE.out]
   have := HHB.out
   cases hq : tget L D with
   | none => rw [hq] at this; cases this
   | some x => rfl
  have HEE : Hid (E = 5) := Lib.hid (by rw [← HE0.out, hE])
  clear hE
  go_wp2_with fail
  go_ret
  exact ⟨n, rfl, (by rw [HEE.out]; rfl), by rw [HEE.out]; exact T3, kp_grew G3⟩
end Go.Proofs.YtbohmmcmlabcdaaDoor
