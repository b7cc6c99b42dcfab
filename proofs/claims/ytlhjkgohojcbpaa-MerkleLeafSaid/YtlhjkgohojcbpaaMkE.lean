/- Contracts of trees: ways. -/
import Derived.Test.YtlhjkgohojcbpaaMkD
import Derived.Deep.AppendLies
namespace Go.Proofs.Ytlhjkgohojcbpaa
open Go.RowKit
set_option linter.unusedVariables false
/-- a new row of digests, and no error -/
def RetP (w : World) (l : List Nat) (e : Ending) (w' : World) : Prop := ∃ A c, e = .returned (.tuple #[.slice A l.length c, .int .i64 0]) ∧ Rd w' w'.heap.size A (u64L l) ∧ (∀ ad, A = some ad → w.heap.size ≤ ad.block) ∧ Grew w w'
theorem xor_i64_all : ∀ j : Fin 256, bits .xor .i64 ((j.val : Nat) : Int) 1 = ((j.val ^^^ 1 : Nat) : Int) := by decide +kernel
theorem xor_i64 (j : Nat) (h : j < 256) : bits .xor .i64 (j : Int) 1 = ((j ^^^ 1 : Nat) : Int) := xor_i64_all ⟨j, h⟩
theorem tn_grew_any {w w' : World} (h : Grew w w') : w.grownBy w' none := ⟨h.os, h.tape, h.output, h.size, fun i hi _ => h.block i hi⟩
set_option maxRecDepth 100000 in
set_option maxHeartbeats 1600000 in
theorem path_ok (A : Option Addr) (c B : Nat) (l : List Nat) (i : Nat) (hi : i < l.length) (hl : l.length ≤ 1048576) (hk : leavesOk l.length = true) (hb : ∀ n ∈ l, n < 18446744073709551616) (w : World) (hr : Rd w B A (u64L l)) (hB : B ≤ w.heap.size) :
    Calls Try.prog 33 #[.slice A l.length c, .int .i64 i] w (RetP w (pathN l i)) := by
  obtain ⟨i0, hi0, hz0, hz1, hz2⟩ := info_parts infoD
  have C := Lib.hid (fun W => count_any l.length (by omega) W)
  rw [hk] at C
  have HK := Lib.hid hk
  have HB := Lib.hid hb
  have hle := leaves_le _ hk
  have hAB : ∀ ad, A = some ad → ad.block < w.heap.size := by
    intro ad had
    obtain ⟨ad', h1, h2, _⟩ := rd_u64 hr 0 (by omega)
    rw [had] at h1
    injection h1 with h1
    subst h1
    omega
  have HAB := Lib.hid hAB
  have hi' : (i : Int) < (l.length : Int) := by omega
  have hi'' : ¬ (l.length : Int) ≤ (i : Int) := by omega
  have hd1 : decide (l.length ≤ i) = false := by simpa using hi
  have hd2 : decide ((l.length : Int) ≤ (i : Int)) = false := by simpa using hi
  clear hk hb hAB
  go_enter Try.func33, Try.ntmps33
  go_wp2_with fail
  refine (C.out _).mono ?_
  rintro e w' ⟨rfl, rfl⟩
  go_wp2_with fail
  go_loopw [0, 1, 7] (fun v iv pv wr => ∃ (A' : Option Addr) (c' : Nat) (cur : List Nat) (j : Nat) (done : List Nat) (p : Value), p = pv ∧ v = .slice A' cur.length c' ∧ iv = .int .i64 j ∧ j < cur.length ∧ cur.length ≤ 256 ∧ done.length ≤ 256 - cur.length ∧ Rd wr wr.heap.size A' (u64L cur) ∧ Hid (leavesOk cur.length = true) ∧ Hid (∀ n ∈ cur, n < 18446744073709551616) ∧ Hid (done ++ pathN cur j = pathN l i) ∧
      wr.ownsRow w.heap.size 24 1 p done.length (u64L done) ∧ Hid (∀ ad, A' = some ad → p.ownBlock ≠ some ad.block) ∧ Grew w wr) (fun v _ _ _ => lenOf v)
  case atStart => exact ⟨A, c, l, i, [], _, rfl, rfl, rfl, hi, hle.2, by simp, hr.more hB, HK, HB, Lib.hid (by simp), World.ownsRow_nil _ _ _ _, Lib.hid (fun ad _ h => by cases h), Below.refl _ _⟩
  case round =>
    clear hr hl hi' hi'' hle hi hd1 hd2
    obtain ⟨A', c', cur, j, done, p, hp, rfl, rfl, hj, hl, hdl, hr, HK2, HB2, HR2, hown, HO, hb1⟩ := hrel
    subst hp
    have hle := leaves_le _ HK2.out
    by_cases h1 : 1 < cur.length
    · have h1' : (1 : Int) < (cur.length : Int) := by omega
      have hzs := hb1.size
      have hev := leavesOk_half _ HK2.out (by omega)
      have hxl := xor_one_lt j cur.length hj (by omega) hev.2
      have HX := Lib.hid (xor_i64 j (by omega))
      obtain ⟨x, hx⟩ : ∃ x, j ^^^ 1 = x := ⟨_, rfl⟩
      rw [hx] at HX hxl
      obtain ⟨ad, rfl, hbl, hc⟩ := rd_u64 hr x hxl
      have HS := Lib.hid (pathN_step cur j h1 hl)
      rw [hx, getD_lt _ _ hxl] at HS
      have hz := HB2.out _ (List.getElem_mem hxl)
      have hx1 : (x : Int) < (cur.length : Int) := by omega
      generalize cur[x] = z at *
      clear hx
      have hxe := HX.out
      go_wp2_with (at_builtin; refine wpList_append_lies _ rfl _ _ _ rfl w.heap.size 24 i0 _ 1 8 Try.underlying56 hi0 hz0 hz1 hz2 rfl (by omega) p done.length (u64L done) rfl (hown.alloc _) ⟨wr.heap.size, 0, none⟩ 1 1 [.int .u64 (z : Int)] rfl rfl (World.news_of_block (cs := #[.int .u64 (z : Int)]) (t := 24) (fr := (0, 0)) (heap_alloc_new wr _)) (by simp [Value.oneCell']) (by omega) (by unfold maxLen; omega) (by omega) (by simp; omega) (wr.heap.size + 1) (by simp) ?_; intro gg cap w2 hown2 hgrow hat hlt2)
      clear hxe
      have hb2 : Grew w w2 := (hb1.alloc hzs _).grown hgrow (by simp; omega) (fun g hg => own_base hown _ hg)
      have hne := HO.out ad rfl
      have hr2 : Rd w2 w2.heap.size (some ad) (u64L cur) := by
        intro k hk
        obtain ⟨ad', h1, h2, h3⟩ := hr k hk
        injection h1 with h1
        subst h1
        have hz2 := hgrow.size
        simp at hz2
        refine ⟨ad, rfl, by omega, ?_⟩
        rw [hgrow.cell_far _ (by rw [blk_add]; simp; omega) (by rw [blk_add]; exact Ne.symm hne)]
        rw [World.cell?_alloc_lt wr _ _ (by rw [blk_add]; exact hbl)]
        exact h3
      go_wp2_with fail
      refine (pairs_any (some ad) c' w2.heap.size cur (by omega) HB2.out _ hr2 (Nat.le_refl _)).mono ?_
      rintro e w3 ⟨A2, c2, rfl, hr3, hfr, hb3⟩
      have HF := Lib.hid hfr
      clear hfr
      go_wp2_with fail
      have hul := upL_length cur
      go_roundw
      case rel =>
        refine ⟨A2, c2, upL cur, j / 2, done ++ [z], _, rfl, rfl, ?_, by omega, by omega, ?_, hr3, Lib.hid (by rw [hul]; exact hev.1), Lib.hid (upL_lt cur), Lib.hid ?_, ?_, Lib.hid ?_, grew_trans hb2 hb3⟩
        · congr 1
        · rw [List.length_append, List.length_singleton]; omega
        · rw [← HR2.out, HS.out]; simp
        · rw [List.length_append, List.length_singleton, show u64L (done ++ [z]) = u64L done ++ [.int .u64 (z : Int)] by simp [u64L]]
          exact hown2.kept (tn_grew_any hb3) (.inr (by simp [Value.ownBlock]))
        · intro ad' had hh
          have h5 := HF.out ad' had
          injection hh with hh
          simp only at hh
          omega
      case measure => simp [lenOf]; omega
    · obtain ⟨x, rfl⟩ : ∃ x, cur = [x] := by
        match cur, h1, hle with
        | [x], _, _ => exact ⟨x, rfl⟩
        | x :: y :: l, h1, _ => exact absurd (by simp) h1
      have hd := HR2.out
      rw [pathN_one, List.append_nil] at hd
      have HD := Lib.hid hd
      clear hd
      obtain ⟨A3, c3, rfl, hn1, hn2, hrd⟩ := own_rd hown
      have hfr : ∀ ad, A3 = some ad → w.heap.size ≤ ad.block := fun ad h => by subst h; exact own_base hown _ rfl
      have HF := Lib.hid hfr
      clear hfr hown
      go_wp2_with fail
      go_ret2
      exact ⟨A3, c3, by rw [← HD.out]; rfl, by rw [← HD.out]; exact hrd, HF.out, hb1⟩
set_option maxRecDepth 100000 in
set_option maxHeartbeats 1600000 in
theorem refpath_ok (A : Option Addr) (c B : Nat) (l : List Nat) (i : Nat) (hi : i < l.length) (hl : l.length ≤ 1048576) (hk : leavesOk l.length = true) (hb : ∀ n ∈ l, n < 18446744073709551616) (w : World) (hr : Rd w B A (u64L l)) (hB : B ≤ w.heap.size) :
    Calls Try.prog 34 #[.slice A l.length c, .int .i64 i] w (RetP w (pathN l i)) := by
  obtain ⟨i0, hi0, hz0, hz1, hz2⟩ := info_parts infoU
  have C := Lib.hid (fun W => leaves_any l.length (by omega) W)
  rw [hk] at C
  have HK := Lib.hid hk
  have HB := Lib.hid hb
  have hle := leaves_le _ hk
  have hAB : ∀ ad, A = some ad → ad.block < w.heap.size := by
    intro ad had
    obtain ⟨ad', h1, h2, _⟩ := rd_u64 hr 0 (by omega)
    rw [had] at h1
    injection h1 with h1
    subst h1
    omega
  have HAB := Lib.hid hAB
  have hi' : (i : Int) < (l.length : Int) := by omega
  have hi'' : ¬ (l.length : Int) ≤ (i : Int) := by omega
  have hd1 : decide (l.length ≤ i) = false := by simpa using hi
  have hd2 : decide ((l.length : Int) ≤ (i : Int)) = false := by simpa using hi
  clear hk hb hAB
  go_enter Try.func34, Try.ntmps34
  go_wp2_with fail
  refine (C.out _).mono ?_
  rintro e w' ⟨rfl, rfl⟩
  go_wp2_with fail
  go_loopw [0, 1, 6] (fun v iv pv wr => ∃ (A' : Option Addr) (c' : Nat) (cur : List Nat) (j : Nat) (done : List Nat) (p : Value), p = pv ∧ v = .slice A' cur.length c' ∧ iv = .int .i64 j ∧ j < cur.length ∧ cur.length ≤ 256 ∧ done.length ≤ 256 - cur.length ∧ Rd wr wr.heap.size A' (u64L cur) ∧ Hid (leavesOk cur.length = true) ∧ Hid (∀ n ∈ cur, n < 18446744073709551616) ∧ Hid (done ++ pathN cur j = pathN l i) ∧
      wr.ownsRow w.heap.size 22 1 p done.length (u64L done) ∧ Hid (∀ ad, A' = some ad → p.ownBlock ≠ some ad.block) ∧ Grew w wr) (fun v _ _ _ => lenOf v)
  case atStart => exact ⟨A, c, l, i, [], _, rfl, rfl, rfl, hi, hle.2, by simp, hr.more hB, HK, HB, Lib.hid (by simp), World.ownsRow_nil _ _ _ _, Lib.hid (fun ad _ h => by cases h), Below.refl _ _⟩
  case round =>
    clear hr hl hi' hi'' hle hi hd1 hd2
    obtain ⟨A', c', cur, j, done, p, hp, rfl, rfl, hj, hl, hdl, hr, HK2, HB2, HR2, hown, HO, hb1⟩ := hrel
    subst hp
    have hle := leaves_le _ HK2.out
    by_cases h1 : 1 < cur.length
    · have h1' : (1 : Int) < (cur.length : Int) := by omega
      have hzs := hb1.size
      have hev := leavesOk_half _ HK2.out (by omega)
      have hxl := xor_one_lt j cur.length hj (by omega) hev.2
      have HX := Lib.hid (xor_i64 j (by omega))
      obtain ⟨x, hx⟩ : ∃ x, j ^^^ 1 = x := ⟨_, rfl⟩
      rw [hx] at HX hxl
      obtain ⟨ad, rfl, hbl, hc⟩ := rd_u64 hr x hxl
      have HS := Lib.hid (pathN_step cur j h1 hl)
      rw [hx, getD_lt _ _ hxl] at HS
      have hz := HB2.out _ (List.getElem_mem hxl)
      have hx1 : (x : Int) < (cur.length : Int) := by omega
      generalize cur[x] = z at *
      clear hx
      have hxe := HX.out
      go_wp2_with (at_builtin; refine wpList_append_lies _ rfl _ _ _ rfl w.heap.size 22 i0 _ 1 8 Try.underlying43 hi0 hz0 hz1 hz2 rfl (by omega) p done.length (u64L done) rfl (hown.alloc _) ⟨wr.heap.size, 0, none⟩ 1 1 [.int .u64 (z : Int)] rfl rfl (World.news_of_block (cs := #[.int .u64 (z : Int)]) (t := 22) (fr := (0, 0)) (heap_alloc_new wr _)) (by simp [Value.oneCell']) (by omega) (by unfold maxLen; omega) (by omega) (by simp; omega) (wr.heap.size + 1) (by simp) ?_; intro gg cap w2 hown2 hgrow hat hlt2)
      clear hxe
      have hb2 : Grew w w2 := (hb1.alloc hzs _).grown hgrow (by simp; omega) (fun g hg => own_base hown _ hg)
      have hne := HO.out ad rfl
      have hr2 : Rd w2 w2.heap.size (some ad) (u64L cur) := by
        intro k hk
        obtain ⟨ad', h1, h2, h3⟩ := hr k hk
        injection h1 with h1
        subst h1
        have hz2 := hgrow.size
        simp at hz2
        refine ⟨ad, rfl, by omega, ?_⟩
        rw [hgrow.cell_far _ (by rw [blk_add]; simp; omega) (by rw [blk_add]; exact Ne.symm hne)]
        rw [World.cell?_alloc_lt wr _ _ (by rw [blk_add]; exact hbl)]
        exact h3
      go_wp2_with fail
      refine (up_any (some ad) c' w2.heap.size cur (by omega) HB2.out _ hr2 (Nat.le_refl _)).mono ?_
      rintro e w3 ⟨A2, c2, rfl, hr3, hfr, hb3⟩
      have HF := Lib.hid hfr
      clear hfr
      go_wp2_with fail
      have hul := upL_length cur
      go_roundw
      case rel =>
        refine ⟨A2, c2, upL cur, j / 2, done ++ [z], _, rfl, rfl, ?_, by omega, by omega, ?_, hr3, Lib.hid (by rw [hul]; exact hev.1), Lib.hid (upL_lt cur), Lib.hid ?_, ?_, Lib.hid ?_, grew_trans hb2 hb3⟩
        · congr 1
        · rw [List.length_append, List.length_singleton]; omega
        · rw [← HR2.out, HS.out]; simp
        · rw [List.length_append, List.length_singleton, show u64L (done ++ [z]) = u64L done ++ [.int .u64 (z : Int)] by simp [u64L]]
          exact hown2.kept (tn_grew_any hb3) (.inr (by simp [Value.ownBlock]))
        · intro ad' had hh
          have h5 := HF.out ad' had
          injection hh with hh
          simp only at hh
          omega
      case measure => simp [lenOf]; omega
    · obtain ⟨x, rfl⟩ : ∃ x, cur = [x] := by
        match cur, h1, hle with
        | [x], _, _ => exact ⟨x, rfl⟩
        | x :: y :: l, h1, _ => exact absurd (by simp) h1
      have hd := HR2.out
      rw [pathN_one, List.append_nil] at hd
      have HD := Lib.hid hd
      clear hd
      obtain ⟨A3, c3, rfl, hn1, hn2, hrd⟩ := own_rd hown
      have hfr : ∀ ad, A3 = some ad → w.heap.size ≤ ad.block := fun ad h => by subst h; exact own_base hown _ rfl
      have HF := Lib.hid hfr
      clear hfr hown
      go_wp2_with fail
      go_ret2
      exact ⟨A3, c3, by rw [← HD.out]; rfl, by rw [← HD.out]; exact hrd, HF.out, hb1⟩
end Go.Proofs.Ytlhjkgohojcbpaa
