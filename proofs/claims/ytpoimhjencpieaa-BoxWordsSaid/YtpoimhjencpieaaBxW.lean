/- BoxWords. -/
import Derived.Test.YtpoimhjencpieaaBxS
namespace Go.Proofs.Ytpoimhjencpieaa
open Go.Conc Go.RowKit
set_option linter.unusedVariables false
theorem two_stepS {w w' : World} {base nY : Nat} {e : TypeId} {u v y : Value} {ys : List Value} {o : Obj} (hy : w.ownsRow base e 1 y nY ys) (hd : ∀ g, u.ownBlock = some g → y.ownBlock ≠ some g)
    (hgrow : (w.alloc o).grownBy w' u.ownBlock) (hat : v.ownBlock = u.ownBlock ∨ v.ownBlock = some (w.alloc o).heap.size) : w'.ownsRow base e 1 y nY ys ∧ ∀ g, v.ownBlock = some g → y.ownBlock ≠ some g := by
  refine ⟨ownsRow_kp hy (kp_grown (S := fun j => u.ownBlock = some j) (kp_alloc (kp_refl _ _) _) hgrow (fun g hg => .inl hg)) (fun g hg hh => hd g hh hg), fun g hg hh => ?_⟩
  rcases hat with h | h
  · rw [h] at hg; exact hd g hg hh
  · have h1 := (ownsRow_lt hy g hh).2
    rw [h] at hg
    injection hg with hg
    simp at hg
    omega
theorem kp_undrew1 {S : Nat → Prop} {a b : World} (h : Kp S a.drew b) : Kp S a b := ⟨h.os, h.tape, h.output, h.size, h.block⟩
theorem kp_cell {S : Nat → Prop} {a b : World} (h : Kp S a b) {p : Addr} (hp : p.block < a.heap.size) (hs : ¬ S p.block) : b.cell? p = a.cell? p := by
  have := h.block p.block hp hs
  unfold World.cell?
  rw [this]
theorem grew_drew0 {a b : World} (h : Grew a b) : Grew a b.drew := ⟨h.os, h.tape, h.output, h.size, h.block⟩
theorem apart_symmS {u v : Value} (h : ∀ g, u.ownBlock = some g → v.ownBlock ≠ some g) : ∀ g, v.ownBlock = some g → u.ownBlock ≠ some g := fun g hg hh => h g hh hg
set_option maxRecDepth 100000 in
theorem bwords_big (a b : Int) (ha : 0 ≤ a ∧ a ≤ 255) (hb : 0 ≤ b ∧ b ≤ 255) (A B : Option Addr) (c d : Nat) (l : List ByteArray) (m : List Bool) (W : World) (h : 60 < l.length ∨ m.length < l.length) :
    Calls Try.prog 9 #[.slice A l.length c, .slice B m.length d, .int .u8 a, .int .u8 b] W fun e w' => e = .returned (.bool true) ∧ Grew W w' := by
  by_cases h1 : 60 < l.length
  · have h1' : (60 : Int) < (l.length : Int) := by omega
    go_enter Try.func9, Try.ntmps9
    go_wp2_with fail
    refine (bknown_any _).mono ?_
    rintro e w1 ⟨rfl, hg1⟩
    go_wp2_with fail
    go_ret
    exact ⟨rfl, hg1⟩
  · have h1' : ¬ (60 : Int) < (l.length : Int) := by omega
    have h2' : (m.length : Int) < (l.length : Int) := by omega
    go_enter Try.func9, Try.ntmps9
    go_wp2_with fail
    refine (bknown_any _).mono ?_
    rintro e w1 ⟨rfl, hg1⟩
    go_wp2_with fail
    go_ret
    exact ⟨rfl, hg1⟩
set_option maxRecDepth 100000 in
set_option maxHeartbeats 16000000 in
theorem bwords_law (a b : Int) (ha : 0 ≤ a ∧ a ≤ 255) (hb : 0 ≤ b ∧ b ≤ 255) (A B : Option Addr) (c d : Nat) (l : List ByteArray) (m : List Bool) (W : World) (hl : l.length ≤ 60) (hm : l.length ≤ m.length)
    (hra : Rd W W.heap.size A (strL l)) (hrb : Rd W W.heap.size B (booL m)) :
    Calls Try.prog 9 #[.slice A l.length c, .slice B m.length d, .int .u8 a, .int .u8 b] W fun e w' => e = .returned (.bool true) ∧ Grew W w' := by
  obtain ⟨i0, hi, hz0, hz1, hz2⟩ := info_parts info_str
  have h1' : ¬ (60 : Int) < (l.length : Int) := by omega
  have h2' : ¬ (m.length : Int) < (l.length : Int) := by omega
  obtain ⟨k1, hk1⟩ : ∃ k : Nat, 1 + a % 8 = k := ⟨(1 + a % 8).toNat, by omega⟩
  obtain ⟨k2, hk2⟩ : ∃ k : Nat, 1 + b % 8 = k := ⟨(1 + b % 8).toNat, by omega⟩
  have hk1b : 1 ≤ k1 ∧ k1 ≤ 8 := by omega
  have hk2b : 1 ≤ k2 ∧ k2 ≤ 8 := by omega
  have HA := Lib.hid hra
  have HB := Lib.hid hrb
  clear hra hrb
  go_enter Try.func9, Try.ntmps9
  go_wp2_with fail
  refine (bknown_any _).mono ?_
  rintro e w1 ⟨rfl, hg1⟩
  go_wp2_with fail
  clear hk1 hk2
  refine (snew_ok k1 k2 (by omega) (by omega) _).mono ?_
  rintro e w2 ⟨g, c1, c2, rfl, lg, l1, l2, hb2, hg2⟩
  have hzw1 := hg1.size
  have hgr2 := grew_trans hg1 hg2
  have hlg := hb2.bk.lt
  have hl1 := hb2.h1.lt
  have hl2 := hb2.h2.lt
  have HB2 := Lib.hid hb2
  clear hb2 hg1 hg2
  go_wp2_with fail
  go_loopw [13, 14, 15] (fun pv qv iv wr => ∃ (k : Nat) (X Y : List ByteArray), k ≤ l.length ∧ iv = .int .i64 k ∧ X.length ≤ k1 ∧ Y.length ≤ k2 ∧ Hid (BoxS wr g c1 c2 k1 k2 X Y) ∧ wr.ownsRow w2.heap.size 9 1 pv X.length (strL X) ∧ wr.ownsRow w2.heap.size 9 1 qv Y.length (strL Y) ∧ Hid (∀ g, pv.ownBlock = some g → qv.ownBlock ≠ some g) ∧ Grew W wr ∧ w2.heap.size ≤ wr.heap.size) (fun _ _ i _ => l.length - (intOf i).toNat)
  case atStart => exact ⟨0, [], [], Nat.zero_le _, rfl, Nat.zero_le _, Nat.zero_le _, HB2, World.ownsRow_nil _ _ _ _, World.ownsRow_nil _ _ _ _, Lib.hid (fun _ h => by cases h), hgr2, Nat.le_refl _⟩
  case round =>
    clear HB2 hgr2
    obtain ⟨k, X, Y, hk, rfl, hXk, hYk, HBX, hop, hoq, hap, hgr, hzw⟩ := hrel
    obtain ⟨Ap, cp, rfl, _, _, _⟩ := own_rd hop
    obtain ⟨Aq, cq, rfl, _, _, _⟩ := own_rd hoq
    by_cases hlt : k < l.length
    · obtain ⟨ad, rfl, hbl, hc0⟩ := rd_str (HA.out.below hgr) k hlt
      obtain ⟨bd, rfl, hbl2, hc1⟩ := rd_boo (HB.out.below hgr) k (by omega)
      generalize l[k] = z at *
      generalize m[k] = u at *
      have hi0 : (0 : Int) ≤ (k : Int) := by omega
      have hi1 : (k : Int) < (l.length : Int) := by omega
      have hi2 : (k : Int) < (m.length : Int) := by omega
      have e4 : IntKind.i64.wrap ((k : Int) + 1) = (k : Int) + 1 := IntWalk.i64_in _ (by omega)
      have hWz := hgr.size
      cases u
      · by_cases hroom : Y.length < k2
        · skip
          have hq1 : (Y.length : Int) < (k2 : Int) := by omega
          go_wp2_with fail
          go_region_held3 (fun w' => w'.cell? (ad.add k) = some (.string z) ∧ w'.cell? (bd.add k) = some (.bool false)) (go_keep)
            (first
              | (go_at_call 40; refine (sput2 g c1 c2 k1 k2 X Y z _ (by exact HBX.out.drew) hroom).mono ?_; rintro e w4 ⟨rfl, hb4, hk4⟩; have hk4' := kp_undrew1 hk4; have hz4 : w4.cell? (ad.add k) = some (.string z) := (kp_cell hk4' (by rw [blk_add]; omega) (by rw [blk_add]; omega)).trans hc0; have hy4 : w4.cell? (bd.add k) = some (.bool false) := (kp_cell hk4' (by rw [blk_add]; omega) (by rw [blk_add]; omega)).trans hc1))
          have hg4 := grew_kp hgr hk4' (fun i hi => by have e : i = c2 := hi; omega)
          have hop4 := ownsRow_kp hop hk4' (fun q hq e => by have h3 := own_base hop q hq; have e : q = c2 := e; omega)
          have hoq4 := ownsRow_kp hoq hk4' (fun q hq e => by have h3 := own_base hoq q hq; have e : q = c2 := e; omega)
          have hz4s := hk4'.size
          have HB4 := Lib.hid hb4
          clear hb4 hk4 hop hoq hroom HBX
          go_wp2_with (at_builtin; refine wpList_append_rd rfl (.tmp 101) (.tmp 106) 58 rfl w2.heap.size 9 i0 (.string ⟨#[]⟩) 16 Try.underlying58 hi hz0 hz1 hz2 rfl _ Y.length (strL Y) rfl (hoq4.alloc _) (w4.heap.size + 1) (some ⟨w4.heap.size, 0, none⟩) 1 1 (strL [z]) rfl rfl (rd_new w4 9 #[.string z] (0, 0)) (strL_one _) (by unfold maxLen; omega) (by omega) (by simp; omega) ?_; intro v6 w6 hown6 hgrow6 hat6)
          obtain ⟨hot6, hap6⟩ := two_stepS hop4 (apart_symmS hap.out) hgrow6 hat6
          have hk6 : Kp (fun i => w2.heap.size ≤ i) w4 w6 := kp_grown (kp_alloc (kp_refl _ _) _) hgrow6 (fun q hq => .inl (own_base hoq4 q hq))
          have hg6 := grew_kp hg4 hk6 (fun i hi => by have h3 : w2.heap.size ≤ i := hi; omega)
          have HB6 := Lib.hid (HB4.out.kp hk6 (by omega) (by omega) (by omega))
          have hz6s := hk6.size
          go_roundw
          case rel => exact ⟨k + 1, X, Y ++ [z], by omega, by go_num, hXk, by simp; omega, HB6, hot6, by rw [List.length_append, List.length_singleton, strL_append]; exact hown6, Lib.hid (apart_symmS hap6), hg6, by omega⟩
          case measure => simp [intOf]; omega
        · skip
          have hq1 : ¬ (Y.length : Int) < (k2 : Int) := by omega
          go_wp2_with fail
          go_region_held3 (fun w' => w'.cell? (ad.add k) = some (.string z) ∧ w'.cell? (bd.add k) = some (.bool false)) (go_keep)
            (first
              | (go_at_call 40; refine (sput2_full g c1 c2 k1 k2 X Y z _ (by exact HBX.out.drew) (by omega)).mono ?_; rintro e w4 ⟨rfl, rfl⟩))
          go_wp2_with fail
          go_roundw
          case rel => exact ⟨k + 1, X, Y, by omega, by go_num, hXk, hYk, Lib.hid HBX.out.drew, hop, hoq, hap, grew_drew0 hgr, hzw⟩
          case measure => simp [intOf]; omega
      · by_cases hroom : X.length < k1
        · skip
          have hq1 : (X.length : Int) < (k1 : Int) := by omega
          go_wp2_with fail
          go_region_held3 (fun w' => w'.cell? (ad.add k) = some (.string z) ∧ w'.cell? (bd.add k) = some (.bool true)) (go_keep)
            (first
              | (go_at_call 40; refine (sput1 g c1 c2 k1 k2 X Y z _ (by exact HBX.out.drew) hroom).mono ?_; rintro e w4 ⟨rfl, hb4, hk4⟩; have hk4' := kp_undrew1 hk4; have hz4 : w4.cell? (ad.add k) = some (.string z) := (kp_cell hk4' (by rw [blk_add]; omega) (by rw [blk_add]; omega)).trans hc0; have hy4 : w4.cell? (bd.add k) = some (.bool true) := (kp_cell hk4' (by rw [blk_add]; omega) (by rw [blk_add]; omega)).trans hc1))
          have hg4 := grew_kp hgr hk4' (fun i hi => by have e : i = c1 := hi; omega)
          have hop4 := ownsRow_kp hop hk4' (fun q hq e => by have h3 := own_base hop q hq; have e : q = c1 := e; omega)
          have hoq4 := ownsRow_kp hoq hk4' (fun q hq e => by have h3 := own_base hoq q hq; have e : q = c1 := e; omega)
          have hz4s := hk4'.size
          have HB4 := Lib.hid hb4
          clear hb4 hk4 hop hoq hroom HBX
          go_wp2_with (at_builtin; refine wpList_append_rd rfl (.tmp 82) (.tmp 87) 58 rfl w2.heap.size 9 i0 (.string ⟨#[]⟩) 16 Try.underlying58 hi hz0 hz1 hz2 rfl _ X.length (strL X) rfl (hop4.alloc _) (w4.heap.size + 1) (some ⟨w4.heap.size, 0, none⟩) 1 1 (strL [z]) rfl rfl (rd_new w4 9 #[.string z] (0, 0)) (strL_one _) (by unfold maxLen; omega) (by omega) (by simp; omega) ?_; intro v6 w6 hown6 hgrow6 hat6)
          obtain ⟨hot6, hap6⟩ := two_stepS hoq4 hap.out hgrow6 hat6
          have hk6 : Kp (fun i => w2.heap.size ≤ i) w4 w6 := kp_grown (kp_alloc (kp_refl _ _) _) hgrow6 (fun q hq => .inl (own_base hop4 q hq))
          have hg6 := grew_kp hg4 hk6 (fun i hi => by have h3 : w2.heap.size ≤ i := hi; omega)
          have HB6 := Lib.hid (HB4.out.kp hk6 (by omega) (by omega) (by omega))
          have hz6s := hk6.size
          go_roundw
          case rel => exact ⟨k + 1, X ++ [z], Y, by omega, by go_num, by simp; omega, hYk, HB6, by rw [List.length_append, List.length_singleton, strL_append]; exact hown6, hot6, Lib.hid hap6, hg6, by omega⟩
          case measure => simp [intOf]; omega
        · skip
          have hq1 : ¬ (X.length : Int) < (k1 : Int) := by omega
          go_wp2_with fail
          go_region_held3 (fun w' => w'.cell? (ad.add k) = some (.string z) ∧ w'.cell? (bd.add k) = some (.bool true)) (go_keep)
            (first
              | (go_at_call 40; refine (sput1_full g c1 c2 k1 k2 X Y z _ (by exact HBX.out.drew) (by omega)).mono ?_; rintro e w4 ⟨rfl, rfl⟩))
          go_wp2_with fail
          go_roundw
          case rel => exact ⟨k + 1, X, Y, by omega, by go_num, hXk, hYk, Lib.hid HBX.out.drew, hop, hoq, hap, grew_drew0 hgr, hzw⟩
          case measure => simp [intOf]; omega
    · obtain rfl : k = l.length := by omega
      have hXY : X.length + Y.length ≤ 16 := by omega
      have HOP := Lib.hid hop
      have HOQ := Lib.hid hoq
      clear hop hoq hap
      go_wp2_with fail
      go_loopw [17, 18] (fun ov iv w3 => ∃ (i : Nat) (O P Q : List ByteArray), i ≤ 20 ∧ iv = .int .i64 i ∧ Hid (O ++ (P ++ Q) = X ++ Y) ∧ Hid (O.length = i ∨ (P = [] ∧ Q = [] ∧ O.length ≤ i)) ∧ O.length ≤ 16 ∧ Hid (BoxS w3 g c1 c2 k1 k2 P Q) ∧ w3.ownsRow wr.heap.size 9 1 ov O.length (strL O) ∧ Hid (Kp (fun j => j = c1 ∨ j = c2) wr w3)) (fun _ iv _ => 20 - (intOf iv).toNat)
      case atStart => exact ⟨0, [], X, Y, by omega, rfl, Lib.hid rfl, Lib.hid (.inl rfl), by simp, HBX, World.ownsRow_nil _ _ _ _, Lib.hid (kp_refl _ _)⟩
      case round =>
        obtain ⟨i, O, P, Q, hi20, rfl, HE, HL, hO16, HBQ, hoo, HK⟩ := hrel
        have hzk := HK.out.size
        by_cases h20 : i < 20
        · have h20' : (i : Int) < 20 := by omega
          have e5 : IntKind.i64.wrap ((i : Int) + 1) = (i : Int) + 1 := IntWalk.i64_in _ (by omega)
          match P, Q, HE, HL, HBQ with
          | p :: P, Q, HE, HL, HBQ =>
            obtain ⟨Ao, co, rfl, _, _, _⟩ := own_rd hoo
            have hOi : O.length = i := by
              rcases HL.out with h | ⟨h, _⟩
              · exact h
              · cases h
            have hOs : O.length + 1 ≤ 16 := by have h3 := congrArg List.length HE.out; simp at h3; omega
            have hq1 : (i : Int) < (O.length : Int) + 1 := by omega
            have HOI := Lib.hid hOi
            clear hOi
            go_wp2_with fail
            refine (stake1 g c1 c2 k1 k2 p P Q _ HBQ.out).mono ?_
            rintro e w5 ⟨rfl, hb5, hk5⟩
            have hz5 := hk5.size
            have hk5' : Kp (fun j => j = c1 ∨ j = c2) _ w5 := kp_then HK.out (kp_mono hk5 (S' := fun j => j = c1 ∨ j = c2) (fun j hj => .inl hj)) (fun j hj => .inl hj)
            have hoo5 := ownsRow_kp hoo hk5 (fun q hq e => by have h3 := own_base hoo q hq; have e : q = c1 := e; omega)
            have HE' := HE.out
            have HB5 := Lib.hid hb5
            have HK5 := Lib.hid hk5'
            clear hb5 hk5 hk5' hoo
            go_wp2_with (at_builtin; refine wpList_append_rd rfl (.tmp 120) (.tmp 122) 58 rfl _ 9 i0 (.string ⟨#[]⟩) 16 Try.underlying58 hi hz0 hz1 hz2 rfl (.slice Ao O.length co) O.length (strL O) rfl (hoo5.alloc _) (w5.heap.size + 1) (some ⟨w5.heap.size, 0, none⟩) 1 1 (strL [p]) rfl rfl (rd_new w5 9 #[.string p] (0, 0)) (strL_one _) (by unfold maxLen; omega) (by omega) (by simp; omega) ?_; intro v6 w6 hown6 hgrow6 hat6; obtain ⟨A6, c6, rfl, _, _, _⟩ := own_rd hown6)
            have hk6 : Kp (fun j => (Value.slice Ao O.length co).ownBlock = some j) w5 w6 := kp_grown (kp_alloc (kp_refl _ _) _) hgrow6 (fun q hq => .inl hq)
            have hno : ∀ j, j < w2.heap.size → ¬ (Value.slice Ao O.length co).ownBlock = some j := fun j hj hh => by have h3 := own_base hoo5 j hh; omega
            have HB6 := Lib.hid (HB5.out.kp hk6 (hno _ hlg) (hno _ hl1) (hno _ hl2))
            have HK6 := Lib.hid (kp_then HK5.out hk6 (fun j hj => .inr (own_base hoo5 j hj)))
            go_roundw
            case rel => exact ⟨i + 1, O ++ [p], P, Q, by omega, by go_num, Lib.hid (by simpa using HE'), Lib.hid (.inl (by have h9 := HOI.out; simp; omega)), by simp; omega, HB6, by rw [List.length_append, List.length_singleton, strL_append]; exact hown6, HK6⟩
            case measure => simp [intOf]; omega
          | [], q :: Q, HE, HL, HBQ =>
            obtain ⟨Ao, co, rfl, _, _, _⟩ := own_rd hoo
            have hOi : O.length = i := by
              rcases HL.out with h | ⟨_, h, _⟩
              · exact h
              · cases h
            have hOs : O.length + 1 ≤ 16 := by have h3 := congrArg List.length HE.out; simp at h3; omega
            have hq1 : (i : Int) < (O.length : Int) + 1 := by omega
            have HOI := Lib.hid hOi
            clear hOi
            go_wp2_with fail
            refine (stake2 g c1 c2 k1 k2 q Q _ HBQ.out).mono ?_
            rintro e w5 ⟨rfl, hb5, hk5⟩
            have hz5 := hk5.size
            have hk5' : Kp (fun j => j = c1 ∨ j = c2) _ w5 := kp_then HK.out (kp_mono hk5 (S' := fun j => j = c1 ∨ j = c2) (fun j hj => .inr hj)) (fun j hj => .inl hj)
            have hoo5 := ownsRow_kp hoo hk5 (fun q hq e => by have h3 := own_base hoo q hq; have e : q = c2 := e; omega)
            have HE' := HE.out
            have HB5 := Lib.hid hb5
            have HK5 := Lib.hid hk5'
            clear hb5 hk5 hk5' hoo
            go_wp2_with (at_builtin; refine wpList_append_rd rfl (.tmp 120) (.tmp 122) 58 rfl _ 9 i0 (.string ⟨#[]⟩) 16 Try.underlying58 hi hz0 hz1 hz2 rfl (.slice Ao O.length co) O.length (strL O) rfl (hoo5.alloc _) (w5.heap.size + 1) (some ⟨w5.heap.size, 0, none⟩) 1 1 (strL [q]) rfl rfl (rd_new w5 9 #[.string q] (0, 0)) (strL_one _) (by unfold maxLen; omega) (by omega) (by simp; omega) ?_; intro v6 w6 hown6 hgrow6 hat6; obtain ⟨A6, c6, rfl, _, _, _⟩ := own_rd hown6)
            have hk6 : Kp (fun j => (Value.slice Ao O.length co).ownBlock = some j) w5 w6 := kp_grown (kp_alloc (kp_refl _ _) _) hgrow6 (fun q hq => .inl hq)
            have hno : ∀ j, j < w2.heap.size → ¬ (Value.slice Ao O.length co).ownBlock = some j := fun j hj hh => by have h3 := own_base hoo5 j hh; omega
            have HB6 := Lib.hid (HB5.out.kp hk6 (hno _ hlg) (hno _ hl1) (hno _ hl2))
            have HK6 := Lib.hid (kp_then HK5.out hk6 (fun j hj => .inr (own_base hoo5 j hj)))
            go_roundw
            case rel => exact ⟨i + 1, O ++ [q], [], Q, by omega, by go_num, Lib.hid (by simpa using HE'), Lib.hid (.inl (by have h9 := HOI.out; simp; omega)), by simp; omega, HB6, by rw [List.length_append, List.length_singleton, strL_append]; exact hown6, HK6⟩
            case measure => simp [intOf]; omega
          | [], [], HE, HL, HBQ =>
            obtain ⟨Ao, co, rfl, _, _, _⟩ := own_rd hoo
            have hOi : O.length ≤ i := by rcases HL.out with h | ⟨_, _, h⟩ <;> omega
            have hq1 : ¬ (i : Int) < (O.length : Int) := by omega
            go_wp2_with fail
            refine (stake0 g c1 c2 k1 k2 _ HBQ.out).mono ?_
            rintro e w5 ⟨rfl, rfl⟩
            go_wp2_with fail
            go_roundw
            case rel => exact ⟨i + 1, O, [], [], by omega, by go_num, HE, Lib.hid (.inr ⟨rfl, rfl, by omega⟩), hO16, HBQ, hoo, HK⟩
            case measure => simp [intOf]; omega
        · obtain rfl : i = 20 := by omega
          have hPQ : P = [] ∧ Q = [] := by
            rcases HL.out with h | ⟨h1, h2, _⟩
            · omega
            · exact ⟨h1, h2⟩
          obtain ⟨rfl, rfl⟩ := hPQ
          have hOE : O = X ++ Y := by have := HE.out; simpa using this
          obtain ⟨Ao, co, rfl, _, _, ro⟩ := own_rd hoo
          have hp3 := ownsRow_kp HOP.out HK.out (fun q hq e => by have h3 := own_base HOP.out q hq; omega)
          have hq3 := ownsRow_kp HOQ.out HK.out (fun q hq e => by have h3 := own_base HOQ.out q hq; omega)
          obtain ⟨Ap', cp', hqp, _, _, rp⟩ := own_rd hp3
          obtain ⟨rfl, rfl⟩ : Ap = Ap' ∧ cp = cp' := by injection hqp with h1 h2 h3; exact ⟨h1, h3⟩
          obtain ⟨Aq', cq', hqq, _, _, rq⟩ := own_rd hq3
          obtain ⟨rfl, rfl⟩ : Aq = Aq' ∧ cq = cq' := by injection hqq with h1 h2 h3; exact ⟨h1, h3⟩
          have hgz := grew_kp hgr HK.out (fun j hj => by omega)
          have RO := Lib.hid ro
          have RP := Lib.hid rp
          have RQ := Lib.hid rq
          have hmm := World.ownsRow_made (base := wr.heap.size) (e := 9) (size := 1) wr #[] 0 (Nat.le_refl _) (by decide) rfl
          have HMM := Lib.hid hmm
          have g0 := grew_alloc' (Below.refl _ wr) (.cells #[] 9)
          have hOl : O.length = X.length + Y.length := by rw [hOE]; simp
          have HOE := Lib.hid hOE
          clear hmm ro rp rq hp3 hq3 hqp hqq hOE hoo HBQ HL HE
          go_wp2_with (first
            | (at_builtin; refine wpList_append_rd rfl (.tmp 131) (.tmp 132) 58 rfl wr.heap.size 9 i0 (.string ⟨#[]⟩) 16 Try.underlying58 hi hz0 hz1 hz2 rfl (.slice (some ⟨wr.heap.size, 0, none⟩) 0 0) 0 [] rfl HMM.out _ Ap X.length cp (strL X) rfl (strL_length X) ((RP.out.below g0).more g0.size) (strL_one _) (by unfold maxLen; omega) (by omega) (by simp) ?_; intro v6 w6 hown6 hgrow6 hat6; simp only [Nat.zero_add, List.nil_append] at hown6; obtain ⟨A6, c6, rfl, _, _, _⟩ := own_rd hown6; have g6 := grew_grownB g0 hgrow6 (fun j hj => by have h2 : some wr.heap.size = some j := hj; injection h2 with h2; omega); have hz6 := g6.size)
            | (at_builtin; refine wpList_append_rd rfl (.tmp 133) (.tmp 134) 58 rfl wr.heap.size 9 i0 (.string ⟨#[]⟩) 16 Try.underlying58 hi hz0 hz1 hz2 rfl (.slice A6 X.length c6) X.length (strL X) rfl hown6 _ Aq Y.length cq (strL Y) rfl (strL_length Y) (RQ.out.below g6) (strL_one _) (by unfold maxLen; omega) (by omega) (by omega) ?_; intro v7 w7 hown7 hgrow7 hat7; obtain ⟨A7, c7, rfl, _, _, r7⟩ := own_rd hown7; have g7 := grew_grownB g6 hgrow7 (own_base hown6)))
          rw [← strL_append] at r7
          refine (names_same Ao A7 co c7 _ _ _ _ (X ++ Y) (by simp) (by simp) (by rw [List.length_append]; omega) _ ((HOE.out ▸ RO.out).below g7) r7).mono ?_
          rintro e w' ⟨rfl, nz, rfl⟩
          go_wp2_with fail
          go_ret
          exact ⟨rfl, grew_drewN' (grew_trans hgz g7) nz⟩
end Go.Proofs.Ytpoimhjencpieaa
