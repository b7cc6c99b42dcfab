/- The statements of layer 3: OtsRaw. -/
import Derived.Test.YtlhjkgohojcbpaaOtsE
namespace Go.Proofs.Ytlhjkgohojcbpaa
open Go.RowKit
set_option linter.unusedVariables false
/-- a whole row is loaded, by an operation whose guard says yes -/
theorem wpList_load_row_want {P : Program} {ops : Array Oper} {rest : List Oper} {o : Oper} {a : Act} {w : World} {Q : Exit → Act → World → Prop} (hw : Region.wanted o (yielded ops a.tmps) = true) (ty : TypeId) (x : Operand) (ho : o.op = .load ty x)
    (g : Nat) (hx : a.eval x = .pointer (some ⟨g, 0, none⟩)) (t : TypeId) (cs : Array Value) (fr : Nat × Nat) (d : TypeDesc) (hg : w.heap[g]? = some (.cells cs t fr))
    (hu : P.underlying ty = some d) (hd : (match d with | .struct _ | .array _ _ => true | _ => false) = true) (hi : (P.info? ty).map (·.size) = some cs.size)
    (h : wpList P ops Q rest (a.put o.dst (.agg cs)) w) : wpList P ops Q (o :: rest) a w :=
  BigFrame.wpList_want hw fun _ hK => wp_load_row ty x ho g hx t cs fr d hg hu hd hi (hK _ _ h)
theorem otsRaw_short (A : Option Addr) (c n : Nat) (d p : Int) (w : World) (h : n < 18) :
    Calls Try.prog 6 #[.slice A n c, .int .u64 d, .int .u64 p] w fun e w' => e = .returned (.bool true) ∧ Grew w w' := by
  have hn : (n : Int) < 18 := by omega
  go_enter Try.func6, Try.ntmps6
  go_wp2_with (refine (known_true _).mono ?_; rintro e w1 ⟨rfl, hb1⟩)
  go_ret
  exact ⟨rfl, hb1⟩
theorem otsRaw_law (A : Option Addr) (c : Nat) (zs : List Int) (d p : Int) (w : World) (hr : Rd w w.heap.size A (zs.map (Value.int .u64))) (hz : ∀ z ∈ zs, 0 ≤ z ∧ z < 18446744073709551616) (hn : 18 ≤ zs.length) (hm : zs.length ≤ 9223372036854775807) (hd : U64 d) (hp : U64 p) :
    Calls Try.prog 6 #[.slice A zs.length c, .int .u64 d, .int .u64 p] w fun e w' => e = .returned (.bool true) ∧ Grew w w' := by
  go_enter Try.func6, Try.ntmps6
  go_wp2_with (refine (known_true _).mono ?_; rintro e w1 ⟨rfl, hb1⟩)
  have hn' : ¬ ((zs.length : Int) < 18) := by omega
  have hr1 := hr.below hb1
  have hsz1 := hb1.size
  go_wp2_with fail
  generalize hsd : (fun k : Nat => zs[k]!.toNat) = s
  have HZ := Lib.hid (fun k (h : k < 18) => (zs_get zs k (by omega) hz).trans (show (Value.int .u64 ((zs[k]!.toNat : Nat) : Int)) = .int .u64 ((s k : Nat) : Int) by rw [← hsd]))
  have hs : ∀ k, k < 18 → s k < 18446744073709551616 := fun k h => by rw [← hsd]; exact zs_lt zs k (by omega) hz
  clear hsd
  go_loopw [9] (fun i wr => ∃ k : Nat, k ≤ 18 ∧ i = .int .i64 k ∧ Bk wr w1.heap.size 33 (rowF 18 (fun k => u64V (s k)) (.int .u64 0) k) ∧ Bk wr (w1.heap.size + 1) 28 (rowF 18 (fun k => u64V (s k)) (.int .u64 0) k) ∧ Rd wr w.heap.size A (zs.map (Value.int .u64)) ∧ Grew w wr) (fun i _ => 18 - (intOf i).toNat)
  case atStart =>
    refine ⟨0, Nat.zero_le _, rfl, ?_, ?_, ?_, ?_⟩
    · rw [rowF_zero]; exact heap_alloc2_old _ _ _
    · rw [rowF_zero]; exact heap_alloc2_new _ _ _
    · exact (hr1.alloc hsz1 _).alloc (by simp; omega) _
    · exact grew_alloc (grew_alloc hb1 _) _
  case round =>
    clear hr1
    obtain ⟨k, hk, rfl, h1, h2, hr1, hb⟩ := hrel
    by_cases hlt : k < 18
    · have hset : (rowF 18 (fun k => u64V (s k)) (.int .u64 0) k).setIfInBounds k (.int .u64 (s k : Nat)) = rowF 18 (fun k => u64V (s k)) (.int .u64 0) (k + 1) := rowF_set _ _ _ _ hlt
      have hz0 : (rowF 18 (fun k => u64V (s k)) (.int .u64 0) k)[k]? = some (.int .u64 0) := rowF_at _ _ _ _ hlt
      have hc1 : wr.cell? ⟨w1.heap.size, k, none⟩ = some (.int .u64 0) := (h1.cell k).trans hz0
      have hf1 := h1.frozen k
      have k1 := h1.set_ k (.int .u64 (s k : Nat))
      rw [hset] at k1
      have k2 := h2.far (p := ⟨w1.heap.size, k, none⟩) (by show _ ≠ _; simp only []; omega) (.int .u64 (s k : Nat))
      have hc2 : (wr.setCell ⟨w1.heap.size, k, none⟩ (.int .u64 (s k : Nat))).cell? ⟨w1.heap.size + 1, k, none⟩ = some (.int .u64 0) := (k2.cell k).trans hz0
      have hf2 := k2.frozen k
      have hr2 := hr1.setCell (p := ⟨w1.heap.size, k, none⟩) (by show _ ≤ _; simp only []; omega) (.int .u64 (s k : Nat))
      obtain ⟨ad2, rfl, hbl2, hcz2⟩ := hr2 k (by simp; omega)
      obtain ⟨ad, hada, hbl, hcz⟩ := hr1 k (by simp; omega)
      obtain rfl := Option.some.inj hada
      rw [HZ.out k hlt] at hcz hcz2
      have m1 := k1.far (p := ⟨w1.heap.size + 1, k, none⟩) (by show _ ≠ _; simp only []; omega) (.int .u64 (s k : Nat))
      have m2 := k2.set_ k (.int .u64 (s k : Nat))
      rw [hset] at m2
      have hr3 := hr2.setCell (p := ⟨w1.heap.size + 1, k, none⟩) (by show _ ≤ _; simp only []; omega) (.int .u64 (s k : Nat))
      have hb3 := (Below.setCell (Below.setCell hb (p := ⟨w1.heap.size, k, none⟩) (by show _ ≤ _; simp only []; omega) (.int .u64 (s k : Nat))) (p := ⟨w1.heap.size + 1, k, none⟩) (by show _ ≤ _; simp only []; omega) (.int .u64 (s k : Nat)))
      have hk2 : (k : Int) < (zs.length : Int) := by omega
      have hk0 : (0 : Int) ≤ (k : Int) := by omega
      have hk1 : (k : Int) < 18 := by omega
      go_wp2_with fail
      go_roundw
      case rel => exact ⟨k + 1, by omega, by go_num, m1, m2, hr3, hb3⟩
      case measure => simp [intOf]; omega
    · obtain rfl : k = 18 := by omega
      rw [rowF_full, show ((List.range 18).map fun k => u64V (s k)).toArray = arrU s from rfl] at h1 h2
      have C1 := Lib.hid (fun W => recover_any s d W hs hd)
      have C2 := Lib.hid (fun W => rrecover_any s d W hs hd)
      have hpl := recN_lt s d.toNat
      have C3 := Lib.hid (fun W => verify_any (recN s d.toNat : Nat) s d W (u64_nat hpl) hs hd)
      have C4 := Lib.hid (fun W => verify_any p s d W hp hs hd)
      rw [Int.toNat_natCast, decide_eq_true rfl] at C3
      obtain ⟨p, rfl⟩ := Int.eq_ofNat_of_zero_le hp.1
      rw [Int.toNat_natCast] at C4
      have hsz := arrU_size s
      have hdec : ((recN s d.toNat : Int) == (p : Int)) = decide (recN s d.toNat = p) := by
        by_cases h : recN s d.toNat = p
        · rw [h]; simp
        · simp [h]; omega
      generalize recN s d.toNat = y at *
      generalize arrU s = ss at *
      have i0 : (Try.prog.info? 33).map (·.size) = some ss.size := by rw [hsz]; kernel_rfl
      have i1 : (Try.prog.info? 28).map (·.size) = some ss.size := by rw [hsz]; kernel_rfl
      have g1 := h1
      unfold Bk at g1
      go_wp2_with (first
        | (with_reducible refine wpList_load_row rfl 33 _ rfl w1.heap.size rfl 33 ss (0, 0) _ g1 Try.underlying33 rfl i0 ?_))
      refine (C1.out _).mono ?_
      rintro e w2 ⟨rfl, hb2⟩
      have j1 := h1.grew hb2
      have j2 := h2.grew hb2
      have hb4 := grew_trans hb hb2
      clear h1 h2 g1 hr hr1 HZ hb hb2
      generalize w1.heap.size = n0 at *
      have g2 := j2
      unfold Bk at g2
      by_cases hyp : y = p
      · subst hyp
        rw [decide_eq_true rfl] at C4 hdec
        go_wp2_with (first
          | (with_reducible refine wpList_load_row rfl 28 _ rfl (n0 + 1) rfl 28 ss (0, 0) _ g2 Try.underlying28 rfl i1 ?_))
        refine (C2.out _).mono ?_
        rintro e w3 ⟨rfl, hb3⟩
        have g3 : w3.heap[n0]? = some (.cells ss 33 (0, 0)) := Bk.grew j1 hb3
        have hb5 := grew_trans hb4 hb3
        go_wp2_with (first
          | (refine wpList_load_row_want (by rfl) 33 (.tmp 7) rfl n0 rfl 33 ss (0, 0) _ g3 Try.underlying33 rfl i0 ?_))
        refine (C3.out _).mono ?_
        rintro e w4 ⟨rfl, hb6⟩
        have g4 : w4.heap[n0]? = some (.cells ss 33 (0, 0)) := Bk.grew (show Bk _ _ _ _ from g3) hb6
        go_wp2_with (first
          | (refine wpList_load_row_want (by rfl) 33 (.tmp 7) rfl n0 rfl 33 ss (0, 0) _ g4 Try.underlying33 rfl i0 ?_))
        refine (C4.out _).mono ?_
        rintro e w5 ⟨rfl, hb7⟩
        go_wp2_with fail
        go_ret
        exact ⟨rfl, grew_trans (grew_trans hb5 hb6) hb7⟩
      · rw [decide_eq_false hyp] at C4 hdec
        go_wp2_with (first
          | (with_reducible refine wpList_load_row rfl 28 _ rfl (n0 + 1) rfl 28 ss (0, 0) _ g2 Try.underlying28 rfl i1 ?_))
        refine (C2.out _).mono ?_
        rintro e w3 ⟨rfl, hb3⟩
        have g3 : w3.heap[n0]? = some (.cells ss 33 (0, 0)) := Bk.grew j1 hb3
        have hb5 := grew_trans hb4 hb3
        go_wp2_with (first
          | (refine wpList_load_row_want (by rfl) 33 (.tmp 7) rfl n0 rfl 33 ss (0, 0) _ g3 Try.underlying33 rfl i0 ?_))
        refine (C3.out _).mono ?_
        rintro e w4 ⟨rfl, hb6⟩
        have g4 : w4.heap[n0]? = some (.cells ss 33 (0, 0)) := Bk.grew (show Bk _ _ _ _ from g3) hb6
        go_wp2_with (first
          | (refine wpList_load_row_want (by rfl) 33 (.tmp 7) rfl n0 rfl 33 ss (0, 0) _ g4 Try.underlying33 rfl i0 ?_))
        refine (C4.out _).mono ?_
        rintro e w5 ⟨rfl, hb7⟩
        go_wp2_with fail
        go_ret
        exact ⟨rfl, grew_trans (grew_trans hb5 hb6) hb7⟩
end Go.Proofs.Ytlhjkgohojcbpaa
