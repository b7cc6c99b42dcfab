/- The statements of layer 8: WalFronts. -/
import Derived.Test.YtpoimhjencpieaaWalK
import Derived.IntWalk
namespace Go.Proofs.Ytpoimhjencpieaa
open Go.RowKit
set_option linter.unusedVariables false
theorem rd_take_i64 {w : World} {B : Nat} {A : Option Addr} {l : List Int} (h : Rd w B A (i64L l)) (n : Nat) : Rd w B A (i64L (l.take n)) := by
  intro k hk
  have hk' : k < l.length := by simp [i64L] at hk; omega
  obtain ⟨ad, h1, h2, h3⟩ := h k (by simpa [i64L] using hk')
  exact ⟨ad, h1, h2, by rw [h3]; simp [i64L]⟩
theorem rd_drop_i64 {w : World} {B : Nat} {ad : Addr} {l : List Int} (h : Rd w B (some ad) (i64L l)) (n : Nat) : Rd w B (some (ad.add n)) (i64L (l.drop n)) := by
  have := rd_drop h n
  rw [show (i64L l).drop n = i64L (l.drop n) by simp [i64L]] at this
  exact this
theorem RdN.stepM {w w' : World} {N N' : Nat → Prop} {A : Option Addr} {xs : List Value} (h : RdN w N A xs) (k : Kp N w w') (hn : ∀ i, N' i → N i ∨ w.heap.size ≤ i) : RdN w' N' A xs := fun j hj => by
  obtain ⟨ad, h1, h2, h3⟩ := h j hj
  refine ⟨ad, h1, ⟨Nat.lt_of_lt_of_le h2.1 k.size, fun hh => ?_⟩, ?_⟩
  · rcases hn _ hh with h' | h'
    · exact h2.2 h'
    · omega
  · rw [← h3]
    exact World.cell?_of_block (k.block _ (by rw [blk_add]; exact h2.1) (by rw [blk_add]; exact h2.2))
theorem WalS.same {w w' : World} {base g room sy : Nat} {A : Option Addr} {c : Nat} {l : List Int} (h : WalS w base g room sy A c l) (e : w'.heap = w.heap) : WalS w' base g room sy A c l :=
  ⟨by have := h.bk; unfold Bk at *; rw [e]; exact this, by have := h.own; unfold World.ownsRow at *; rw [e]; exact this, h.ne, h.lo, h.sy, h.le, h.rm⟩
theorem ints_any2 (A A' : Option Addr) (c c' B B' n n' : Nat) (l : List Int) (hn : l.length = n) (hn' : l.length = n') (hl : l.length ≤ 1048576) (w : World) (hr : Rd w B A (i64L l)) (hr' : Rd w B' A' (i64L l)) :
    Calls Try.prog 18 #[.slice A n c, .slice A' n' c'] w fun e w' => e = .returned (.bool true) ∧ ∃ n, w' = w.drewN n := by
  subst hn hn'
  exact ints_any A A' c c' B B' l hl w hr hr'
set_option maxRecDepth 100000 in
theorem walFronts_big (A : Option Addr) (c : Nat) (l : List Int) (n keep trim : Int) (w : World) (h : 60 < l.length) :
    Calls Try.prog 11 #[.slice A l.length c, .int .u8 n, .int .u8 keep, .int .u8 trim] w fun e w' => e = .returned (.bool true) ∧ Grew w w' := by
  have h' : (60 : Int) < (l.length : Int) := by omega
  go_enter Try.func11, Try.ntmps11
  go_wp2_with (refine (wlknown_any _).mono ?_; rintro e w1 ⟨rfl, hb1⟩)
  go_ret
  exact ⟨rfl, hb1⟩
set_option maxRecDepth 100000 in
set_option maxHeartbeats 4000000 in
theorem walFronts_lawA (A : Option Addr) (cl : Nat) (l : List Int) (n keep trim : Int) (w : World) (h : l.length ≤ 60) (hcl : l.length ≤ cl) (hn : 0 ≤ n ∧ n ≤ 255) (hkp : 0 ≤ keep ∧ keep ≤ 255) (htr : 0 ≤ trim ∧ trim ≤ 255) (hr : Rd w w.heap.size A (i64L l)) (hcase : (l.length : Int) ≤ n % ((l.length : Int) + 1) + keep) :
    Calls Try.prog 11 #[.slice A l.length cl, .int .u8 n, .int .u8 keep, .int .u8 trim] w fun e w' => e = .returned (.bool true) ∧ Grew w w' := by
  have g1 : ¬ (60 : Int) < (l.length : Int) := by omega
  obtain ⟨k, hk⟩ : ∃ k : Nat, n % ((l.length : Int) + 1) = k := ⟨(n % ((l.length : Int) + 1)).toNat, by have := Int.emod_nonneg n (show (l.length : Int) + 1 ≠ 0 by omega); omega⟩
  have hkl : k ≤ l.length := by have := Int.emod_lt_of_pos n (show (0 : Int) < (l.length : Int) + 1 by omega); omega
  have hp1 : (0 : Int) < (l.length : Int) + 1 := by omega
  rw [hk] at hcase
  have HR := Lib.hid hr
  clear hr
  go_enter Try.func11, Try.ntmps11
  go_wp2_with (refine (wlknown_any _).mono ?_; rintro e w1 ⟨rfl, hb1⟩)
  refine (wnew_ok 100 (by omega) (by omega) w.heap.size _ hb1.size).mono ?_
  rintro e w2 ⟨rfl, hb2, hs2⟩
  have hb2' : Grew w w2 := grew_trans hb1 hb2
  obtain ⟨g, hg0⟩ : ∃ g, g = w1.heap.size := ⟨_, rfl⟩
  rw [← hg0] at hs2 ⊢
  clear hg0 hb1 hb2
  go_wp2_with fail
  try rw [hk]
  have HK := Lib.hid hk
  clear hk hp1
  go_loopw [12] (fun iv wr => ∃ (i sy : Nat) (A' : Option Addr) (c' : Nat), i ≤ l.length ∧ iv = .int .i64 i ∧ ((i < k ∧ sy = 0) ∨ (k ≤ i ∧ sy = k)) ∧ WalS wr w.heap.size g 100 sy A' c' (l.take i) ∧ Grew w wr) (fun i _ => l.length - (intOf i).toNat)
  case atStart => exact ⟨0, 0, none, 0, Nat.zero_le _, rfl, by omega, hs2, hb2'⟩
  case round =>
    clear hs2 hb2'
    obtain ⟨i, sy, A', c', hil, rfl, hsy, hs, hb⟩ := hrel
    have hzs := hb.size
    by_cases hlt : i < l.length
    · obtain ⟨ad, rfl, hbl, hc0⟩ := rd_i64 (HR.out.below hb) i hlt
      have hlk : (l.take i).length = i := by rw [List.length_take]; omega
      have HT : Hid (l.take (i + 1) = l.take i ++ [l[i]]) := Lib.hid (by rw [List.take_succ_eq_append_getElem hlt])
      have hlo : ∀ j, WN g A' j → w.heap.size ≤ j := fun j hj => (hs.lowN j hj).1
      generalize l[i] = z at *
      have HS := Lib.hid hs
      have HLO := Lib.hid hlo
      have HLK := Lib.hid hlk
      clear hs hlo hlk
      by_cases hik : i + 1 = k
      · have hik' : (i : Int) + 1 = (k : Int) := by omega
        have HIK := Lib.hid hik
        have hbeq : ((i : Int) + 1 == (k : Int)) = true := by simpa using hik'
        clear hik hik'
        go_wp2_with fail
        refine (wappend_ok _ g 100 sy A' c' (l.take i) z (by rw [HLK.out]; omega) _ HS.out).mono ?_
        rintro e w4 ⟨rfl, A4, c4, hs4, k4, n4⟩
        have hb4 := below_kp hb k4 hzs HLO.out
        rw [← HT.out] at hs4
        go_wp2_with fail
        refine (wsync_any _ g 100 sy A4 c4 _ _ hs4).mono ?_
        rintro e w5 ⟨rfl, hs5, k5⟩
        have hb5 := below_kp hb4 k5 hb4.size (fun j hj => (hs4.lowN j hj).1)
        rw [List.length_take, Nat.min_eq_left (by omega)] at hs5
        go_wp2_with fail
        go_roundw
        case rel => exact ⟨i + 1, i + 1, A4, c4, by omega, by go_num, by have := HIK.out; omega, hs5, hb5⟩
        case measure => simp [intOf]; omega
      · have hbeq : ((i : Int) + 1 == (k : Int)) = false := by rw [beq_eq_false_iff_ne]; omega
        have HIK := Lib.hid hik
        have HSY := Lib.hid hsy
        clear hik hsy
        go_wp2_with fail
        refine (wappend_ok _ g 100 sy A' c' (l.take i) z (by rw [HLK.out]; omega) _ HS.out).mono ?_
        rintro e w4 ⟨rfl, A4, c4, hs4, k4, n4⟩
        have hb4 := below_kp hb k4 hzs HLO.out
        rw [← HT.out] at hs4
        go_wp2_with fail
        go_roundw
        case rel => exact ⟨i + 1, sy, A4, c4, by omega, by go_num, by have := HIK.out; have := HSY.out; omega, hs4, hb4⟩
        case measure => simp [intOf]; omega
    · obtain rfl : i = l.length := by omega
      obtain rfl : sy = k := by omega
      rw [List.take_length] at hs
      clear hsy
      have HS := Lib.hid hs
      have hlo : ∀ j, WN g A' j → w.heap.size ≤ j := fun j hj => (hs.lowN j hj).1
      have HLO := Lib.hid hlo
      clear hs hlo
      go_wp2_with fail
      refine (wtwin_any _ g 100 sy A' c' l _ HS.out).mono ?_
      rintro e w4 ⟨g2, A2, d2, rfl, ht4, hb4, f4⟩
      have hs4 := HS.out.kp (kp_grew (S := fun _ => False) hb4) (fun _ _ => id)
      have hbb4 := grew_trans hb hb4
      have dis4 : ∀ i, WN g2 A2 i → ¬ WN g A' i := fun i h1 h2 => by
        have := f4 i h1
        have := (HS.out.lowN i h2).2
        omega
      obtain ⟨K1, hK1⟩ : ∃ K1, keptN sy l.length keep = K1 := ⟨_, rfl⟩
      obtain ⟨K2, hK2⟩ : ∃ K2, keptN sy l.length (keep + 1) = K2 := ⟨_, rfl⟩
      have q1 : K1 = min l.length (sy + keep.toNat) := by rw [← hK1]; unfold keptN; omega
      have q2 : K2 = min l.length (sy + keep.toNat + 1) := by rw [← hK2]; unfold keptN; omega
      have Q1 := Lib.hid q1
      have Q2 := Lib.hid q2
      have hK1l : K1 ≤ l.length := by omega
      have hK2l : K2 ≤ l.length := by omega
      clear q1 q2
      have KK1 := Lib.hid hK1
      have KK2 := Lib.hid hK2
      clear hK1 hK2
      go_wp2_with fail
      refine (wcrash_any _ g 100 sy A' c' l keep (by omega) _ hs4).mono ?_
      rintro e w5 ⟨rfl, A5, c5, hs5, k5, n5⟩
      rw [KK1.out] at hs5
      have ht5 := ht4.kp k5 dis4
      have dis5 := dis_step ht4 dis4 n5
      have hb5 := below_kp hbb4 k5 hbb4.size HLO.out
      have dis5' : ∀ i, WN g A5 i → ¬ WN g2 A2 i := fun i h1 h2 => dis5 i h2 h1
      go_wp2_with fail
      refine (wcrash_any _ g2 100 sy A2 d2 l (keep + 1) (by omega) _ ht5).mono ?_
      rintro e w6 ⟨rfl, A6, c6, ht6, k6, n6⟩
      rw [KK2.out] at ht6
      have hs6 := hs5.kp k6 dis5'
      have hb6 := below_kp hb5 k6 hb5.size (fun j hj => (ht5.lowN j hj).1)
      go_wp2_with fail
      refine (wall_any _ g 100 K1 A5 c5 _ _ hs6).mono ?_
      rintro e w7 ⟨La, Lc, rfl, ho7, hb7⟩
      have hs7 := hs6.kp (kp_grew (S := fun _ => False) hb7) (fun _ _ => id)
      have ht7 := ht6.kp (kp_grew (S := fun _ => False) hb7) (fun _ _ => id)
      have hlk1 : (l.take K1).length = K1 := by rw [List.length_take]; omega
      have hlk2 : (l.take K2).length = K2 := by rw [List.length_take]; omega
      have hra := fresh_rdN ho7 (N := WN g A5) (fun i hi => (hs6.lowN i hi).2)
      have hac := (RetI.parts ho7).2.1
      rw [hlk1] at hac ⊢
      clear ho7
      go_wp2_with fail
      refine (wall_any _ g2 100 K2 A6 c6 _ _ ht7).mono ?_
      rintro e w8 ⟨Lb, Ld, rfl, ho8, hb8⟩
      have hs8 := hs7.kp (kp_grew (S := fun _ => False) hb8) (fun _ _ => id)
      have hra8 := hra.kp (kp_grew (S := fun _ => False) hb8) (fun _ h => h.elim)
      have hrb := (fresh_rdN ho8 (N := fun _ => False) (fun _ h => h.elim)).rd
      have hbb8 := grew_trans hb6 (grew_trans hb7 hb8)
      have hrl := HR.out.below hbb8
      rw [hlk2]
      clear ho8 ht4 ht5 ht6 ht7 hs4 hs5 hs6 hs7 hra dis4 dis5 dis5' f4
      have I1 := ints_any La A Lc cl _ _ (l.take K1) (by omega) w8 hra8.rd (rd_take_i64 hrl K1)
      have I2 := fun m => ints_any Lb A Ld cl _ _ (l.take K2) (by omega) (w8.drewN m) (hrb.drewN m) ((rd_take_i64 hrl K2).drewN m)
      rw [hlk1] at I1
      rw [hlk2] at I2
      have II1 := Lib.hid I1
      have II2 := Lib.hid I2
      have HS8 := Lib.hid hs8
      have HRA := Lib.hid hra8
      have HLK1 := Lib.hid hlk1
      clear I1 I2 hs8 hra8 hrb hrl hlk1 hlk2
      have hc1 : K1 ≤ cl := by omega
      have hc2 : K2 ≤ cl := by omega
      by_cases hx1 : (l.length : Int) ≤ (sy : Int) + keep
      · skip
        have hv1 : K1 = l.length := by have := Q1.out; omega
        have hv2 : K2 = l.length := by have := Q2.out; omega
        have hx2 : (l.length : Int) ≤ (sy : Int) + keep + 1 := by omega
        have hy3 : ((K1 : Int) != (l.length : Int)) = false := by rw [bne_eq_false_iff_eq]; omega
        have hy4 : ((K2 : Int) != (l.length : Int)) = false := by rw [bne_eq_false_iff_eq]; omega
        clear hv1 hv2
        go_wp2_with fail
        refine (II1.out).mono ?_
        rintro e w' ⟨rfl, na, rfl⟩
        go_wp2_with fail
        refine (II2.out na).mono ?_
        rintro e w' ⟨rfl, nb, rfl⟩
        have HS9 := Lib.hid (HS8.out.drewN (na + nb))
        have HRA9 := Lib.hid (show RdN (w8.drewN (na + nb)) (WN g A5) La (i64L (l.take K1)) from HRA.out)
        have hb9 := grew_drewN hbb8 (na + nb)
        have hz9 : w8.heap.size = (w8.drewN (na + nb)).heap.size := rfl
        by_cases hz : K1 = 0
        · have HZ := Lib.hid hz
          have hzb : ((K1 : Int) == 0) = true := by simpa using hz
          clear hz
          go_wp2_with fail
          refine (wtrim_arg _ g 100 K1 A5 c5 _ 1 0 (.inr (by rw [HLK1.out, HZ.out]; decide)) _ HS9.out).mono ?_
          rintro e w' ⟨rfl, rfl⟩
          go_wp2_with fail
          go_ret
          exact ⟨rfl, hb9⟩
        · have hzb : ((K1 : Int) == 0) = false := by simpa using hz
          have hKp : (0 : Int) < (K1 : Int) := by omega
          have hKn : 0 < K1 := by omega
          obtain ⟨t, ht⟩ : ∃ t : Nat, trim % (K1 : Int) = t := ⟨(trim % (K1 : Int)).toNat, by have := Int.emod_nonneg trim (show (K1 : Int) ≠ 0 by omega); omega⟩
          have htl : t < K1 := by have := Int.emod_lt_of_pos trim hKp; omega
          obtain ⟨m, hm⟩ : ∃ m : Nat, 1 + (t : Int) = m := ⟨1 + t, by omega⟩
          have hm1 : 1 ≤ m := by omega
          have hm2 : m ≤ K1 := by omega
          have hm3 : m ≤ Lc := by omega
          obtain ⟨adA, hadA, _, _⟩ := rd_i64 HS9.out.rd.1 0 (by rw [HLK1.out]; omega)
          subst hadA
          obtain ⟨ada, hada, _, _⟩ := rd_i64 HRA9.out.rd 0 (by rw [HLK1.out]; omega)
          subst hada
          have HT := Lib.hid ht
          have HM := Lib.hid hm
          clear hz
          go_wp2_with fail
          clear ht hm
          refine (wtrim_ok _ g 100 K1 adA c5 _ m (-7) (by omega) (by omega) (by omega) _ HS9.out).mono ?_
          rintro e w10 ⟨rfl, A10, c10, hs10, k10, n10⟩
          have hlo9 : ∀ j, WN g (some adA) j → w.heap.size ≤ j := fun j hj => (HS9.out.lowN j hj).1
          have hb10 := below_kp hb9 k10 hb9.size hlo9
          have hra10 : RdN w10 (WN g A10) (some ada) (i64L (l.take K1)) := HRA9.out.stepM k10 n10
          obtain ⟨T, hT⟩ : ∃ T, (l.take K1).drop m = T := ⟨_, rfl⟩
          have hlT : T.length = K1 - m := by rw [← hT, List.length_drop, HLK1.out]
          rw [hT] at hs10
          have HLT := Lib.hid hlT
          have HTT := Lib.hid hT
          clear hT hlT
          go_wp2_with fail
          refine (wall_any _ g 100 _ A10 c10 (-7 :: T) _ hs10).mono ?_
          rintro e w11 ⟨Lq, Le, rfl, ho11, hb11⟩
          have hs11 := hs10.kp (kp_grew (S := fun _ => False) hb11) (fun _ _ => id)
          have hra11 := hra10.kp (kp_grew (S := fun _ => False) hb11) (fun _ h => h.elim)
          have hrc := fresh_rdN ho11 (N := WN g A10) (fun i hi => (hs10.lowN i hi).2)
          have hce := (RetI.parts ho11).2.1
          have hbb11 := grew_trans hb10 hb11
          have HS11 := Lib.hid hs11
          have HRC := Lib.hid hrc
          have HRA11 := Lib.hid hra11
          clear ho11 hs10 hs11 hrc hra10 hra11
          rw [List.length_cons] at hce ⊢
          go_wp2_with fail
          refine (wcrash_any _ g 100 _ A10 c10 (-7 :: T) 0 (by omega) _ HS11.out).mono ?_
          rintro e w12 ⟨rfl, A12, c12, hs12, k12, n12⟩
          have hkk : keptN (K1 - (m - 1)) (-7 :: T).length 0 = (-7 :: T).length := by unfold keptN; rw [List.length_cons, HLT.out]; omega
          rw [hkk, List.take_length] at hs12
          have hb12 := below_kp hbb11 k12 hbb11.size (fun j hj => (HS11.out.lowN j hj).1)
          have hrc12 := HRC.out.kp k12 (fun _ h => h)
          have hra12 := HRA11.out.kp k12 (fun _ h => h)
          obtain ⟨adc, hadc, hblc, hcc0⟩ := rd_i64 hrc12.rd 0 (by simp)
          subst hadc
          have hcc0 : w12.cell? adc = some (.int .i64 (-7)) := by simpa [Addr.add] using hcc0
          have HS12 := Lib.hid hs12
          have HRC12 := Lib.hid hrc12
          have hrc12c := hrc12
          have hrT : Rd w12 w12.heap.size (some (adc.add 1)) (i64L T) := rd_drop_i64 (l := -7 :: T) hrc12.rd 1
          rw [addr_one] at hrT
          have hrT2 := rd_drop_i64 hra12.rd m
          rw [HTT.out] at hrT2
          have HRT := Lib.hid hrT
          have HRT2 := Lib.hid hrT2
          have hzT : T.length = 0 ∨ 1 < Le := by omega
          have hzT2 : T.length = 0 ∨ m < Lc := by have := HLT.out; omega
          clear hs12 hrc12 hkk hra12 hrT hrT2
          have e1 : IntKind.i64.wrap ((K1 : Int) - (m : Int)) = (T.length : Int) := by have := HLT.out; rw [IntWalk.i64_in _ (by omega)]; omega
          have e2 : IntKind.i64.wrap ((T.length : Int) + 1) = (T.length : Int) + 1 := by have := HLT.out; rw [IntWalk.i64_in _ (by omega)]
          have e3 : (0 : Int) < (T.length : Int) + 1 := by omega
          have e4 : (1 : Int) ≤ (T.length : Int) + 1 := by omega
          have e5 : 1 ≤ Le := by omega
          have e6 : 1 ≤ T.length + 1 := by omega
          have e7 : (m : Int) ≤ (K1 : Int) := by omega
          have e8 : (0 : Int) ≤ (m : Int) := by omega
          have hTl : T.length ≤ 60 := by have := HLT.out; omega
          have AL := Lib.hid (fun W h => wall_any w.heap.size g 100 (-7 :: T).length A12 c12 (-7 :: T) W h)
          by_cases hLe : Le = 1
          · by_cases hLm : Lc = m
            · skip
              have HTN := Lib.hid (show T = [] from List.length_eq_zero_iff.1 (by omega))
              have J1' := Lib.hid (fun c c' n n' (hn : T.length = n) (hn' : T.length = n') => ints_any2 (some adc) (some ada) c c' w12.heap.size w12.heap.size n n' T hn hn' (by omega) w12.drew (by rw [HTN.out]; exact Rd.nil_ _ _ _) (by rw [HTN.out]; exact Rd.nil_ _ _ _))
              have hLe' : (Le = 1) = True := eq_true hLe
              have hLm' : (Lc = m) = True := eq_true hLm
              clear hzT hzT2 hrc12c hLe hLm
              go_wp2_with fail
              go_region_held3 (fun w' => w'.cell? adc = some (.int .i64 (-7))) (go_keep)
                (first
                  | (go_at_call 18; refine (J2.out _ _ _ (by rw [List.length_cons]) (by rw [List.length_cons])).mono ?_; rintro e w15 ⟨rfl, n15, rfl⟩)
                  | (go_at_call 50; refine (AL.out _ (by exact HS12.out.same rfl)).mono ?_; rintro e w14 ⟨Ta, Tc, rfl, ho14, hb14⟩; have hb14' : Grew w12 w14 := ⟨hb14.os, hb14.tape, hb14.output, hb14.size, hb14.block⟩; have HTA := Lib.hid (RetI.parts ho14).1; have HRC14 := Lib.hid (HRC12.out.kp (kp_grew (S := fun _ => False) hb14') (fun _ h => h.elim)).rd; have hq := hb14'.cell (p := adc) hblc; rw [hcc0] at hq; have J2 := Lib.hid (fun c n n' (hn : (-7 :: T).length = n) (hn' : (-7 :: T).length = n') => ints_any2 Ta (some adc) Tc c w14.heap.size w14.heap.size n n' (-7 :: T) hn hn' (by rw [List.length_cons]; omega) w14 HTA.out HRC14.out))
                  | (go_at_call 18; refine (J1'.out _ _ _ _ (by first | rfl | exact HLT.out) (by first | rfl | exact HLT.out)).mono ?_; rintro e w13 ⟨rfl, n13, rfl⟩))
              go_wp2_with fail
              go_ret
              exact ⟨rfl, grew_drewN (grew_trans hb12 hb14') _⟩
            · skip
              have HTN := Lib.hid (show T = [] from List.length_eq_zero_iff.1 (by omega))
              have J1' := Lib.hid (fun c c' n n' (hn : T.length = n) (hn' : T.length = n') => ints_any2 (some adc) (some (ada.add m)) c c' w12.heap.size w12.heap.size n n' T hn hn' (by omega) w12.drew (by rw [HTN.out]; exact Rd.nil_ _ _ _) (by rw [HTN.out]; exact Rd.nil_ _ _ _))
              have hLe' : (Le = 1) = True := eq_true hLe
              clear hzT hzT2 hrc12c hLe
              go_wp2_with fail
              go_region_held3 (fun w' => w'.cell? adc = some (.int .i64 (-7))) (go_keep)
                (first
                  | (go_at_call 18; refine (J2.out _ _ _ (by rw [List.length_cons]) (by rw [List.length_cons])).mono ?_; rintro e w15 ⟨rfl, n15, rfl⟩)
                  | (go_at_call 50; refine (AL.out _ (by exact HS12.out.same rfl)).mono ?_; rintro e w14 ⟨Ta, Tc, rfl, ho14, hb14⟩; have hb14' : Grew w12 w14 := ⟨hb14.os, hb14.tape, hb14.output, hb14.size, hb14.block⟩; have HTA := Lib.hid (RetI.parts ho14).1; have HRC14 := Lib.hid (HRC12.out.kp (kp_grew (S := fun _ => False) hb14') (fun _ h => h.elim)).rd; have hq := hb14'.cell (p := adc) hblc; rw [hcc0] at hq; have J2 := Lib.hid (fun c n n' (hn : (-7 :: T).length = n) (hn' : (-7 :: T).length = n') => ints_any2 Ta (some adc) Tc c w14.heap.size w14.heap.size n n' (-7 :: T) hn hn' (by rw [List.length_cons]; omega) w14 HTA.out HRC14.out))
                  | (go_at_call 18; refine (J1'.out _ _ _ _ (by first | rfl | exact HLT.out) (by first | rfl | exact HLT.out)).mono ?_; rintro e w13 ⟨rfl, n13, rfl⟩))
              go_wp2_with fail
              go_ret
              exact ⟨rfl, grew_drewN (grew_trans hb12 hb14') _⟩
          · by_cases hLm : Lc = m
            · skip
              have HTN := Lib.hid (show T = [] from List.length_eq_zero_iff.1 (by omega))
              have J1' := Lib.hid (fun c c' n n' (hn : T.length = n) (hn' : T.length = n') => ints_any2 (some ⟨adc.block, adc.off + 1, none⟩) (some ada) c c' w12.heap.size w12.heap.size n n' T hn hn' (by omega) w12.drew (by rw [HTN.out]; exact Rd.nil_ _ _ _) (by rw [HTN.out]; exact Rd.nil_ _ _ _))
              have hLm' : (Lc = m) = True := eq_true hLm
              clear hzT hzT2 hrc12c hLm
              go_wp2_with fail
              go_region_held3 (fun w' => w'.cell? adc = some (.int .i64 (-7))) (go_keep)
                (first
                  | (go_at_call 18; refine (J2.out _ _ _ (by rw [List.length_cons]) (by rw [List.length_cons])).mono ?_; rintro e w15 ⟨rfl, n15, rfl⟩)
                  | (go_at_call 50; refine (AL.out _ (by exact HS12.out.same rfl)).mono ?_; rintro e w14 ⟨Ta, Tc, rfl, ho14, hb14⟩; have hb14' : Grew w12 w14 := ⟨hb14.os, hb14.tape, hb14.output, hb14.size, hb14.block⟩; have HTA := Lib.hid (RetI.parts ho14).1; have HRC14 := Lib.hid (HRC12.out.kp (kp_grew (S := fun _ => False) hb14') (fun _ h => h.elim)).rd; have hq := hb14'.cell (p := adc) hblc; rw [hcc0] at hq; have J2 := Lib.hid (fun c n n' (hn : (-7 :: T).length = n) (hn' : (-7 :: T).length = n') => ints_any2 Ta (some adc) Tc c w14.heap.size w14.heap.size n n' (-7 :: T) hn hn' (by rw [List.length_cons]; omega) w14 HTA.out HRC14.out))
                  | (go_at_call 18; refine (J1'.out _ _ _ _ (by first | rfl | exact HLT.out) (by first | rfl | exact HLT.out)).mono ?_; rintro e w13 ⟨rfl, n13, rfl⟩))
              go_wp2_with fail
              go_ret
              exact ⟨rfl, grew_drewN (grew_trans hb12 hb14') _⟩
            · skip
              have J1' := Lib.hid (fun c c' n n' (hn : T.length = n) (hn' : T.length = n') => ints_any2 (some ⟨adc.block, adc.off + 1, none⟩) (some (ada.add m)) c c' w12.heap.size w12.heap.size n n' T hn hn' (by omega) w12.drew HRT.out HRT2.out)
              clear hzT hzT2 hrc12c
              go_wp2_with fail
              go_region_held3 (fun w' => w'.cell? adc = some (.int .i64 (-7))) (go_keep)
                (first
                  | (go_at_call 18; refine (J2.out _ _ _ (by rw [List.length_cons]) (by rw [List.length_cons])).mono ?_; rintro e w15 ⟨rfl, n15, rfl⟩)
                  | (go_at_call 50; refine (AL.out _ (by exact HS12.out.same rfl)).mono ?_; rintro e w14 ⟨Ta, Tc, rfl, ho14, hb14⟩; have hb14' : Grew w12 w14 := ⟨hb14.os, hb14.tape, hb14.output, hb14.size, hb14.block⟩; have HTA := Lib.hid (RetI.parts ho14).1; have HRC14 := Lib.hid (HRC12.out.kp (kp_grew (S := fun _ => False) hb14') (fun _ h => h.elim)).rd; have hq := hb14'.cell (p := adc) hblc; rw [hcc0] at hq; have J2 := Lib.hid (fun c n n' (hn : (-7 :: T).length = n) (hn' : (-7 :: T).length = n') => ints_any2 Ta (some adc) Tc c w14.heap.size w14.heap.size n n' (-7 :: T) hn hn' (by rw [List.length_cons]; omega) w14 HTA.out HRC14.out))
                  | (go_at_call 18; refine (J1'.out _ _ _ _ (by first | rfl | exact HLT.out) (by first | rfl | exact HLT.out)).mono ?_; rintro e w13 ⟨rfl, n13, rfl⟩))
              go_wp2_with fail
              go_ret
              exact ⟨rfl, grew_drewN (grew_trans hb12 hb14') _⟩
      by_cases hx2 : (l.length : Int) ≤ (sy : Int) + keep + 1
      · skip
        have hv1 : K1 = sy + keep.toNat := by have := Q1.out; omega
        have hv2 : K2 = l.length := by have := Q2.out; omega
        have hy3 : ((K1 : Int) != (sy : Int) + keep) = false := by rw [bne_eq_false_iff_eq]; omega
        have hy4 : ((K2 : Int) != (l.length : Int)) = false := by rw [bne_eq_false_iff_eq]; omega
        clear hv1 hv2
        exfalso
        omega
      · skip
        have hv1 : K1 = sy + keep.toNat := by have := Q1.out; omega
        have hv2 : K2 = sy + keep.toNat + 1 := by have := Q2.out; omega
        have hy3 : ((K1 : Int) != (sy : Int) + keep) = false := by rw [bne_eq_false_iff_eq]; omega
        have hy4 : ((K2 : Int) != (sy : Int) + keep + 1) = false := by rw [bne_eq_false_iff_eq]; omega
        clear hv1 hv2
        exfalso
        omega
end Go.Proofs.Ytpoimhjencpieaa
