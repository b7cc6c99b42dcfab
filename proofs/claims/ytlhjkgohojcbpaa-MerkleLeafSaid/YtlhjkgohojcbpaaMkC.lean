/- The document's next level of a tree. -/
import Derived.Test.YtlhjkgohojcbpaaMkB
namespace Go.Proofs.Ytlhjkgohojcbpaa
open Go.RowKit
set_option linter.unusedVariables false
theorem infoU : (Try.prog.info? 22).map (fun i => (i.zero, i.size, i.bytes)) = some (some (.int .u64 0), 1, 8) := by kernel_rfl
set_option maxRecDepth 100000 in
set_option maxHeartbeats 1600000 in
theorem up_any (A : Option Addr) (c B : Nat) (l : List Nat) (hl : l.length ≤ 1048576) (hb : ∀ n ∈ l, n < 18446744073709551616) (w : World) (hr : Rd w B A (u64L l)) (hB : B ≤ w.heap.size) :
    Calls Try.prog 57 #[.slice A l.length c] w (RetU w (upL l)) := by
  obtain ⟨i0, hi, hz0, hz1, hz2⟩ := info_parts infoU
  have hul := upL_length l
  go_enter Try.func57, Try.ntmps57
  go_wp2_with fail
  go_loopw [3, 4] (fun v i wr => ∃ (k : Nat) (vv : Value), vv = v ∧ k ≤ l.length / 2 ∧ i = .int .i64 ((2 * k : Nat) : Int) ∧ wr.ownsRow w.heap.size 22 1 v k (u64L ((upL l).take k)) ∧ Grew w wr) (fun _ i _ => 1048578 - (intOf i).toNat)
  case atStart => exact ⟨0, _, rfl, Nat.zero_le _, rfl, World.ownsRow_nil _ _ _ _, Below.refl _ _⟩
  case round =>
    obtain ⟨k, v, hv, hk, rfl, hown, hb1⟩ := hrel
    subst hv
    by_cases hlt : k < l.length / 2
    · have hin : ((2 * k + 1 : Nat) : Int) < (l.length : Int) := by omega
      have hr1 := (hr.more hB).below hb1
      obtain ⟨ad, rfl, hbl, hc0⟩ := rd_u64 hr1 (2 * k) (by omega)
      obtain ⟨ad2, had, hbl2, hc1⟩ := rd_u64 hr1 (2 * k + 1) (by omega)
      obtain rfl := Option.some.inj had
      have hx := hb l[2 * k] (List.getElem_mem _)
      have hy := hb l[2 * k + 1] (List.getElem_mem _)
      have C := fun W => reftwo_any ⟨#[109, 116]⟩ (l[2 * k] : Nat) (l[2 * k + 1] : Nat) (by decide) (u64_nat hx) (u64_nat hy) W
      rw [Int.toNat_natCast, Int.toNat_natCast, show (⟨#[109, 116]⟩ : ByteArray).data.toList = tagMt from rfl] at C
      have hat : (upL l).take (k + 1) = (upL l).take k ++ [twoN tagMt l[2 * k] l[2 * k + 1]] := by
        rw [List.take_succ_eq_append_getElem (by omega), upL_get]
      have HA := Lib.hid hat
      have C2 := Lib.hid C
      clear hat C
      generalize l[2 * k] = x at *
      generalize l[2 * k + 1] = y at *
      generalize twoN tagMt x y = z at *
      have hnb : v.ownBlock ≠ some ad.block := fun e => by have := own_base hown _ e; omega
      have hzs := hb1.size
      obtain ⟨i, hidef⟩ : ∃ i : Int, ((2 * k : Nat) : Int) = i := ⟨_, rfl⟩
      rw [hidef]
      have i1 : IntKind.i64.wrap (i + 1) = i + 1 := IntWalk.i64_in _ (by omega)
      have i1' : wrap64 (i + 1) = i + 1 := by unfold wrap64; omega
      have i2 : (0 : Int) ≤ i + 1 := by omega
      have i3 : i + 1 < (l.length : Int) := by omega
      have i4 : (0 : Int) ≤ i := by omega
      have i5 : i < (l.length : Int) := by omega
      have i6 : i.toNat = 2 * k := by omega
      have i7 : (i + 1).toNat = 2 * k + 1 := by omega
      obtain ⟨j0, hj0⟩ : ∃ j : Nat, 2 * k = j := ⟨_, rfl⟩
      obtain ⟨j1, hj1⟩ : ∃ j : Nat, 2 * k + 1 = j := ⟨_, rfl⟩
      rw [hj0] at hc0 i6
      rw [hj1] at hc1 i7
      have HI := Lib.hid hidef
      clear hj0 hj1
      clear hidef
      go_wp2_with fail
      go_region_held3 (fun w' => w'.cell? (ad.add j0) = some (.int .u64 (x : Int)) ∧ w'.cell? (ad.add j1) = some (.int .u64 (y : Int)))
        (first
          | go_keep
          | (go_split_ands
             refine ⟨?_, ?_⟩
             · (rw [hgrow.cell_far _ (by rw [blk_add]; simp; omega) (by rw [blk_add]; exact Ne.symm hnb)]; assumption)
             · (rw [hgrow.cell_far _ (by rw [blk_add]; simp; omega) (by rw [blk_add]; exact Ne.symm hnb)]; assumption)))
        (first
          | (go_at_call 28; refine (C2.out _).mono ?_; rintro e w' ⟨rfl, rfl⟩)
          | (refine step_append_lies _ (by rfl) _ _ _ (by rfl) w.heap.size 22 i0 _ 1 8 Try.underlying43 hi hz0 hz1 hz2 rfl (by omega) v k (u64L ((upL l).take k)) (by rfl) ((hown.alloc _).drew)
              ⟨wr.heap.size, 0, none⟩ 1 1 [.int .u64 (z : Int)] (by rfl) (by rfl) (World.news_of_block (cs := #[.int .u64 (z : Int)]) (t := 22) (fr := (0, 0)) (heap_alloc_new wr _)) (by simp [Value.oneCell'])
              (by omega) (by unfold maxLen; omega) (by omega) (by simp; omega) (wr.heap.size + 1) (by simp) ?_; intro gg cap w2 hown2 hgrow hat hlt2))
      go_wp2_with fail
      go_roundw
      case rel =>
        refine ⟨k + 1, _, rfl, by omega, ?_, ?_, ?_⟩
        · have := HI.out
          congr 1; omega
        · rw [HA.out, show u64L ((upL l).take k ++ [z]) = u64L ((upL l).take k) ++ [.int .u64 (z : Int)] by simp [u64L]]
          exact hown2
        · exact ((hb1.alloc hzs _).drew).grown hgrow (by simp; omega) (fun g hg => own_base hown _ hg)
      case measure => simp [intOf]; omega
    · obtain rfl : k = l.length / 2 := by omega
      obtain ⟨A', c', rfl, hn1, hn2, hrd⟩ := own_rd hown
      have hfr : ∀ ad, A' = some ad → w.heap.size ≤ ad.block := fun ad h => by subst h; exact own_base hown _ rfl
      have HF := Lib.hid hfr
      clear hfr
      rw [← hul] at hrd ⊢
      rw [List.take_length] at hrd
      go_wp2_with fail
      go_ret
      exact ⟨A', c', rfl, hrd, HF.out, hb1⟩
end Go.Proofs.Ytlhjkgohojcbpaa
