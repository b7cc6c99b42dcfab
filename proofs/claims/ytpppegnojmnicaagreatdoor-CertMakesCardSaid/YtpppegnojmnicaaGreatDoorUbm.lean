/- folkmootlaw11.OfKeys; the reference's Who, Signed, ValidStamp. -/
import Derived.Test.YtpppegnojmnicaaGreatDoorUbl
import Derived.Test.YtpppegnojmnicaaGreatDoorUbb
import Derived.Test.YtpppegnojmnicaaGreatDoorUbd
import Derived.Test.YtpppegnojmnicaaGreatDoorUbk
set_option linter.unusedSimpArgs false
set_option linter.unusedVariables false
namespace Go.Proofs.YtpppegnojmnicaaGreatDoor
open Go.RowKit
structure KV (w : World) (B : Nat) (f : Int) (R : List Nat) (h : Int) (v : Value) : Prop where
 out : ∃ A c, v = .agg (kyS f A R.length c h) ∧ Rd w w.heap.size A (u64L R) ∧ (∀ ad, A = some ad → B ≤ ad.block)
theorem KV.gr {w w' : World} {B : Nat} {f : Int} {R : List Nat} {h : Int} {v : Value} (k : KV w B f R h v) (g : Grew w w') : KV w' B f R h v := by
 obtain ⟨A, c, h1, h2, h3⟩ := k.out
 exact ⟨A, c, h1, h2.gr g, h3⟩
theorem zbm : (Tryz.prog.info? 24).map (·.size) = some 3 := by kernel_rfl
theorem zpi (f h : Int) (A : Option Addr) (n c : Nat) : (kyS f A n c h).all (·.oneCell') = true := by simp [kyS, Value.oneCell']
def whB (f who : Int) : Bool := decide (0 ≤ who ∧ who < 3 * f + 1)
set_option maxRecDepth 100000 in
theorem zpj (f : Int) (hf : 1 ≤ f ∧ f ≤ 3) (RA : Option Addr) (n Rc : Nat) (h who : Int) (w : World) :
 Calls Tryz.prog 159 #[.agg (kyS f RA n Rc h), .int .i64 who] w fun e w' => e = .returned (.bool (whB f who)) ∧ Grew w w' := by
 have z0 := Ag.new w 24 (kyS f RA n Rc h)
 have G0 := zc (za w) (.cells (kyS f RA n Rc h) 24)
 have c0 : (w.alloc (.cells (kyS f RA n Rc h) 24)).cell? ⟨w.heap.size, 0, none⟩ = some (.int .i64 f) := by simpa using z0.cell 0 _ rfl
 have CN := Lib.hid (fun W => rn_ok f hf W)
 obtain ⟨nn, hnn⟩ : ∃ nn, 3 * f + 1 = nn := ⟨_, rfl⟩
 have HB : Hid (whB f who = decide (0 ≤ who ∧ who < nn)) := Lib.hid (by unfold whB; rw [hnn])
 rw [hnn] at CN
 clear z0 hnn hf
 by_cases h0 : 0 ≤ who
 ·by_cases h1 : who < nn
  ·have e0 : decide (0 ≤ who) = true := decide_eq_true h0
   have e1 : decide (who < nn) = true := decide_eq_true h1
   rw [HB.out, decide_eq_true ⟨h0, h1⟩]
   clear HB
   go_enter Tryz.func159, Tryz.ntmps159
   go_wp2_with (go_at_call 78; refine (CN.out _).mono ?_; rintro e z ⟨rfl, hz⟩; rw [hz]; clear hz)
   go_ret
   exact ⟨rfl, G0⟩
  ·have e0 : decide (0 ≤ who) = true := decide_eq_true h0
   have e1 : decide (who < nn) = false := decide_eq_false h1
   rw [HB.out, decide_eq_false (by omega)]
   clear HB
   go_enter Tryz.func159, Tryz.ntmps159
   go_wp2_with (go_at_call 78; refine (CN.out _).mono ?_; rintro e z ⟨rfl, hz⟩; rw [hz]; clear hz)
   go_ret
   exact ⟨rfl, G0⟩
 ·have e0 : decide (0 ≤ who) = false := decide_eq_false h0
  rw [HB.out, decide_eq_false (by omega)]
  clear HB
  go_enter Tryz.func159, Tryz.ntmps159
  go_wp2_with fail
  go_ret
  exact ⟨rfl, G0⟩
set_option maxRecDepth 100000 in
set_option maxHeartbeats 2000000 in
theorem zh8 (f : Int) (R : List Nat) (RA : Option Addr) (Rc : Nat) (h : Int) (n d : Nat) (sw lf : Int) (s : Nat → Nat) (A : Option Addr) (c : Nat) (l : List Nat) (hn : n ≤ 1000) (hlf : in64 lf) (hl : l.length ≤ 1000) (hs : ∀ k, k < 18 → s k < 18446744073709551616) (hb : ∀ x ∈ l, x < 18446744073709551616) (hd : d < 18446744073709551616)
 (hRl : R.length ≤ 1000) (w : World) (hrR : Rd w w.heap.size RA (u64L R)) (hrl : Rd w w.heap.size A (u64L l)) :
 Calls Tryz.prog 160 #[.agg (kyS f RA R.length Rc h), .int .i64 (n : Int), .agg (sgC sw lf s (.slice A l.length c)), .int .u64 (d : Nat)] w fun e w' => e = .returned (.bool (decide (ckE R h n d sw lf s l = 0))) ∧ Grew w w' := by
 have z1 := (Ag.new w 24 (kyS f RA R.length Rc h)).grew (zc (za _) (.cells (sgC sw lf s (.slice A l.length c)) 132))
 have z2 := Ag.new (w.alloc (.cells (kyS f RA R.length Rc h) 24)) 132 (sgC sw lf s (.slice A l.length c))
 rw [zo] at z2
 have G0 := zc (zc (za w) (.cells (kyS f RA R.length Rc h) 24)) (.cells (sgC sw lf s (.slice A l.length c)) 132)
 have hug := Tryz.underlying132
 have HSL : Hid ((Tryz.prog.info? 132).map (·.size) = some (sgC sw lf s (.slice A l.length c)).toList.length) := Lib.hid xD
 have CV := Lib.hid (fun W hR => zhu (R.getD n 0) sw lf s A c l (d : Int) h (by omega) hlf hs hb ⟨by omega, by omega⟩ W hR)
 have HLL := Lib.hid hrl
 have HRR := Lib.hid hrR
 have HCK : Hid (∀ b, (decide (sw = (n : Int)) && decide (n < R.length) && vrS (R.getD n 0) lf s l (d : Int) h) = b → decide (ckE R h n d sw lf s l = 0) = b) := Lib.hid (fun b hb => by
  rw [← hb]
  unfold ckE
  by_cases a1 : R.length ≤ n
  ·rw [if_pos a1]
   have : ¬ n < R.length := by omega
   simp [this]
  ·rw [if_neg a1]
   have a1' : n < R.length := by omega
   by_cases a2 : sw = (n : Int)
   ·rw [if_pos a2]
    cases hv : vrS (R.getD n 0) lf s l (d : Int) h <;> simp [a2, a1']
   ·rw [if_neg a2]; simp [a2])
 clear hrR hrl hs hb hlf hl hd
 go_enter Tryz.func160, Tryz.ntmps160
 go_wp2_with fail
 generalize (w.alloc (.cells (kyS f RA R.length Rc h) 24)).alloc (.cells (sgC sw lf s (.slice A l.length c)) 132) = w1 at *
 have k1 : ∀ y : Gr w1, y.val.cell? ⟨w.heap.size, 1, none⟩ = some (.slice RA R.length Rc) := fun y => by simpa using (z1.gr y).cell 1 _ rfl
 have k2 : ∀ y : Gr w1, y.val.cell? ⟨w.heap.size, 2, none⟩ = some (.int .i64 h) := fun y => by simpa using (z1.gr y).cell 2 _ rfl
 have k0 : ∀ y : Gr w1, y.val.cell? ⟨w.heap.size + 1, 0, none⟩ = some (.int .i64 sw) := fun y => by simpa using (z2.gr y).cell 0 _ rfl
 have M2 : Hid (∀ y : Gr w1, y.val.rangeAt (w.heap.size + 1) 0 (sgC sw lf s (.slice A l.length c)).toList) := Lib.hid (fun y => (z2.gr y).cell)
 have RL : Hid (∀ y : Gr w1, Rd y.val y.val.heap.size A (u64L l)) := Lib.hid (fun y => (HLL.out.gr G0).gr y.ok)
 have hn0 : (0 : Int) ≤ (n : Int) := by omega
 have g0 : decide ((0 : Int) ≤ (n : Int)) = true := decide_eq_true hn0
 clear z1 z2 HLL
 by_cases a2 : sw = (n : Int)
 case neg =>
  have e2 : (sw == (n : Int)) = false := by simpa using a2
  have HE := HCK.out false (by simp [a2])
  clear HCK a2 HRR
  refine zg (za w1) (by kernel_rfl) (by kernel_rfl) ?_
  repeat (first
   | (go_big_quiet_want; refine zu 132 (.tmp 6) rfl (w.heap.size + 1) 0 rfl (sgC sw lf s (.slice A l.length c)).toList _ M2.out hug rfl HSL.out ?_; simp only [Act.put, List.setIfInBounds_toArray, List.set_cons_succ, List.set_cons_zero, Array.toArray_toList]; go_big_quiet_on)
   | (go_big_quiet_step (first
    | (go_at_call 220; exact callG (CV.out _ (RL.out _))))))
  refine wpQuiet_nil ?_
  rintro w8 ⟨⟨w8', g8⟩, rfl⟩
  go_wp2_with fail
  go_ret
  exact ⟨by rw [HE]; rfl, zb G0 g8⟩
 have e2 : (sw == (n : Int)) = true := by simpa using a2
 by_cases a1 : n < R.length
 case neg =>
  have e1 : decide (n < R.length) = false := decide_eq_false a1
  have HE := HCK.out false (by simp [a1])
  clear HCK a2 HRR a1
  refine zg (za w1) (by kernel_rfl) (by kernel_rfl) ?_
  repeat (first
   | (go_big_quiet_want; refine zu 132 (.tmp 6) rfl (w.heap.size + 1) 0 rfl (sgC sw lf s (.slice A l.length c)).toList _ M2.out hug rfl HSL.out ?_; simp only [Act.put, List.setIfInBounds_toArray, List.set_cons_succ, List.set_cons_zero, Array.toArray_toList]; go_big_quiet_on)
   | (go_big_quiet_step (first
    | (go_at_call 220; exact callG (CV.out _ (RL.out _))))))
  refine wpQuiet_nil ?_
  rintro w8 ⟨⟨w8', g8⟩, rfl⟩
  go_wp2_with fail
  go_ret
  exact ⟨by rw [HE]; rfl, zb G0 g8⟩
 have e1 : decide (n < R.length) = true := decide_eq_true a1
 have hn1 : (n : Int) < (R.length : Int) := by omega
 have HE := HCK.out (vrS (R.getD n 0) lf s l (d : Int) h) (by simp [a2, a1])
 obtain ⟨ad, hA, -, -⟩ := HRR.out n (by simpa [u64L] using a1)
 have kR : ∀ y : Gr w1, y.val.cell? (ad.add n) = some (.int .u64 (R.getD n 0 : Nat)) := fun y => by
  obtain ⟨ad', hA', _, hc⟩ := (HRR.out.gr (zb G0 y.ok)) n (by simpa [u64L] using a1)
  rw [hA] at hA'
  injection hA' with hA'
  subst hA'
  rw [hc]
  simp [u64L, List.getD_eq_getElem?_getD, a1]
 subst hA
 have HE2 := Lib.hid HE
 clear HCK a2 HRR HE
 generalize R.getD n 0 = root at *
 refine zg (za w1) (by kernel_rfl) (by kernel_rfl) ?_
 repeat (first
  | (go_big_quiet_want; refine zu 132 (.tmp 6) rfl (w.heap.size + 1) 0 rfl (sgC sw lf s (.slice A l.length c)).toList _ M2.out hug rfl HSL.out ?_; simp only [Act.put, List.setIfInBounds_toArray, List.set_cons_succ, List.set_cons_zero, Array.toArray_toList]; go_big_quiet_on)
  | (go_big_quiet_step (first
   | (go_at_call 220; exact callG (CV.out _ (RL.out _))))))
 refine wpQuiet_nil ?_
 rintro w8 ⟨⟨w8', g8⟩, rfl⟩
 go_wp2_with fail
 go_ret
 exact ⟨by rw [HE2.out]; rfl, zb G0 g8⟩
theorem ckE_07 (R : List Nat) (h : Int) (n d : Nat) (sw lf : Int) (s : Nat → Nat) (l : List Nat) : ckE R h n d sw lf s l = 0 ∨ ckE R h n d sw lf s l = 7 := by
 unfold ckE
 split
 ·exact .inr rfl
 ·split
  ·split
   ·exact .inl rfl
   ·exact .inr rfl
  ·exact .inr rfl
set_option maxRecDepth 100000 in
set_option maxHeartbeats 2000000 in
theorem zfk (f : Int) (hf : 1 ≤ f ∧ f ≤ 3) (R : List Nat) (RA : Option Addr) (Rc : Nat) (h : Int) (cm : Nat) (who at_ sw lf : Int) (s : Nat → Nat) (A : Option Addr) (c : Nat) (l : List Nat) (hc : cm < 18446744073709551616) (hw : in64 who) (ha : in64 at_) (hsw : in64 sw) (hlf : in64 lf) (hl : l.length ≤ 1000) (hs : ∀ k, k < 18 → s k < 18446744073709551616) (hb : ∀ x ∈ l, x < 18446744073709551616)
 (hRl : R.length ≤ 1000) (w : World) (hrR : Rd w w.heap.size RA (u64L R)) (hrl : Rd w w.heap.size A (u64L l)) :
 Calls Tryz.prog 101 #[.agg (kyS f RA R.length Rc h), .agg (stC cm who at_ sw lf s (.slice A l.length c))] w fun e w' => e = .returned (.int .i64 (vaE f R h cm who at_ sw lf s l)) ∧ Grew w w' := by
 have huk := Tryz.underlying24
 have hug := Tryz.underlying132
 have HSK : Hid ((Tryz.prog.info? 24).map (·.size) = some (kyS f RA R.length Rc h).toList.length) := Lib.hid zbm
 have HSG : Hid ((Tryz.prog.info? 132).map (·.size) = some (sgC sw lf s (.slice A l.length c)).toList.length) := Lib.hid xD
 have z1 := (Ag.new w 24 (kyS f RA R.length Rc h)).grew (zc (za _) (.cells (stC cm who at_ sw lf s (.slice A l.length c)) 169))
 have z2 := Ag.new (w.alloc (.cells (kyS f RA R.length Rc h) 24)) 169 (stC cm who at_ sw lf s (.slice A l.length c))
 rw [zo] at z2
 have G0 := zc (zc (za w) (.cells (kyS f RA R.length Rc h) 24)) (.cells (stC cm who at_ sw lf s (.slice A l.length c)) 169)
 have b1 : ((w.alloc (.cells (kyS f RA R.length Rc h) 24)).alloc (.cells (stC cm who at_ sw lf s (.slice A l.length c)) 169)).cell? ⟨w.heap.size + 1, 1, none⟩ = some (.int .i64 who) := by simpa using z2.cell 1 _ rfl
 have hm := z1.cell
 have CW := Lib.hid (fun W => zpj f hf RA R.length Rc h who W)
 have HRR := Lib.hid hrR
 have HLL := Lib.hid hrl
 clear hrR hrl
 by_cases hA : 0 ≤ who ∧ who < 3 * f + 1
 case neg =>
  have HE : Hid (vaE f R h cm who at_ sw lf s l = 1) := Lib.hid (by
   unfold vaE
   by_cases h0 : who < 0
   ·rw [if_pos h0]
   ·rw [if_neg h0, if_pos (by omega)])
  rw [show whB f who = false from decide_eq_false hA] at CW
  clear hs hb hA
  go_enter Tryz.func101, Tryz.ntmps101
  go_wp2_with (first
   | (with_reducible refine wpList_load_mid rfl 24 (.tmp 2) rfl w.heap.size 0 rfl (kyS f RA R.length Rc h).toList _ hm huk rfl HSK.out ?_; simp only [Array.toArray_toList]))
  refine (CW.out _).mono ?_
  rintro e w2 ⟨rfl, gg⟩
  have G2 := zb G0 gg
  have y1 := z1.grew gg
  have y2 := z2.grew gg
  have c2 : w2.cell? ⟨w.heap.size + 1, 2, none⟩ = some (.int .i64 at_) := by simpa using y2.cell 2 _ rfl
  clear hm z1 z2 gg CW G0
  go_wp2_with fail
  go_ret
  exact ⟨by rw [HE.out]; rfl, G2⟩
 rw [show whB f who = true from decide_eq_true hA] at CW
 have HV : Hid (vaE f R h cm who at_ sw lf s l = if tmB at_ = true then ckE R h who.toNat (stD cm who at_) sw lf s l else 1) := Lib.hid (by unfold vaE; rw [if_neg (by omega), if_neg (by omega)])
 by_cases hT : 1 ≤ at_ ∧ at_ ≤ 1099511627776
 case neg =>
  have HE : Hid (vaE f R h cm who at_ sw lf s l = 1) := Lib.hid (by rw [HV.out, show tmB at_ = false from decide_eq_false hT]; rfl)
  clear HV hs hb hA
  rcases (show at_ < 1 ∨ (¬ at_ < 1 ∧ 1099511627776 < at_) by omega) with t | ⟨t, t'⟩
  ·have t0 : decide (at_ < 1) = true := decide_eq_true t
   clear hT t
   go_enter Tryz.func101, Tryz.ntmps101
   go_wp2_with (first
    | (with_reducible refine wpList_load_mid rfl 24 (.tmp 2) rfl w.heap.size 0 rfl (kyS f RA R.length Rc h).toList _ hm huk rfl HSK.out ?_; simp only [Array.toArray_toList]))
   refine (CW.out _).mono ?_
   rintro e w2 ⟨rfl, gg⟩
   have G2 := zb G0 gg
   have y1 := z1.grew gg
   have y2 := z2.grew gg
   have c2 : w2.cell? ⟨w.heap.size + 1, 2, none⟩ = some (.int .i64 at_) := by simpa using y2.cell 2 _ rfl
   clear hm z1 z2 gg CW G0
   go_wp2_with fail
   go_ret
   exact ⟨by rw [HE.out]; rfl, G2⟩
  ·have t0 : decide (at_ < 1) = false := decide_eq_false t
   have t1 : decide (1099511627776 < at_) = true := decide_eq_true t'
   clear hT t t'
   go_enter Tryz.func101, Tryz.ntmps101
   go_wp2_with (first
    | (with_reducible refine wpList_load_mid rfl 24 (.tmp 2) rfl w.heap.size 0 rfl (kyS f RA R.length Rc h).toList _ hm huk rfl HSK.out ?_; simp only [Array.toArray_toList]))
   refine (CW.out _).mono ?_
   rintro e w2 ⟨rfl, gg⟩
   have G2 := zb G0 gg
   have y1 := z1.grew gg
   have y2 := z2.grew gg
   have c2 : w2.cell? ⟨w.heap.size + 1, 2, none⟩ = some (.int .i64 at_) := by simpa using y2.cell 2 _ rfl
   clear hm z1 z2 gg CW G0
   go_wp2_with fail
   go_ret
   exact ⟨by rw [HE.out]; rfl, G2⟩
 obtain ⟨n, rfl⟩ := Int.eq_ofNat_of_zero_le hA.1
 have HE : Hid (vaE f R h cm (n : Int) at_ sw lf s l = ckE R h n (stD cm (n : Int) at_) sw lf s l) := Lib.hid (by rw [HV.out, show tmB at_ = true from decide_eq_true hT]; simp)
 have CS := Lib.hid (fun W h1 h2 => zh8 f R RA Rc h n (stD cm (n : Int) at_) sw lf s A c l (by omega) hlf hl hs hb (zd3 _ _ _) hRl W h1 h2)
 have CD := Lib.hid (fun W => zd5 cm (n : Int) at_ hc hw ha W)
 have t0 : decide (at_ < 1) = false := decide_eq_false (by omega)
 have t1 : decide (1099511627776 < at_) = false := decide_eq_false (by omega)
 have H07 := Lib.hid (ckE_07 R h n (stD cm (n : Int) at_) sw lf s l)
 clear HV hs hb hA hT
 generalize stD cm (n : Int) at_ = d at *
 generalize ckE R h n d sw lf s l = ck at *
 obtain ⟨bk, hbk⟩ : ∃ b, decide (ck = 0) = b := ⟨_, rfl⟩
 rw [hbk] at CS
 have HBK := Lib.hid hbk
 clear hbk
 go_enter Tryz.func101, Tryz.ntmps101
 go_wp2_with (first
  | (with_reducible refine wpList_load_mid rfl 24 (.tmp 2) rfl w.heap.size 0 rfl (kyS f RA R.length Rc h).toList _ hm huk rfl HSK.out ?_; simp only [Array.toArray_toList]))
 refine (CW.out _).mono ?_
 rintro e w2 ⟨rfl, gg⟩
 have G2 := zb G0 gg
 have y1 := z1.grew gg
 have y2 := z2.grew gg
 have c2 : w2.cell? ⟨w.heap.size + 1, 2, none⟩ = some (.int .i64 at_) := by simpa using y2.cell 2 _ rfl
 clear hm z1 z2 gg CW G0
 have M1 : Hid (∀ y : Gr w2, y.val.rangeAt w.heap.size 0 (kyS f RA R.length Rc h).toList) := Lib.hid (fun y => (y1.gr y).cell)
 have M2 : Hid (∀ y : Gr w2, y.val.rangeAt (w.heap.size + 1) 3 (sgC sw lf s (.slice A l.length c)).toList) := Lib.hid (fun y => xr (y2.gr y).cell)
 have RR : Hid (∀ y : Gr w2, Rd y.val y.val.heap.size RA (u64L R)) := Lib.hid (fun y => (HRR.out.gr G2).gr y.ok)
 have RL : Hid (∀ y : Gr w2, Rd y.val y.val.heap.size A (u64L l)) := Lib.hid (fun y => (HLL.out.gr G2).gr y.ok)
 have q0 : ∀ y : Gr w2, y.val.cell? ⟨w.heap.size + 1, 0, none⟩ = some (.int .u64 (cm : Nat)) := fun y => by simpa using (y2.gr y).cell 0 _ rfl
 have q1 : ∀ y : Gr w2, y.val.cell? ⟨w.heap.size + 1, 1, none⟩ = some (.int .i64 (n : Int)) := fun y => by simpa using (y2.gr y).cell 1 _ rfl
 have q2 : ∀ y : Gr w2, y.val.cell? ⟨w.heap.size + 1, 2, none⟩ = some (.int .i64 at_) := fun y => by simpa using (y2.gr y).cell 2 _ rfl
 clear y1 y2 HRR HLL
 go_wp2_with fail
 clear c2
 refine zg (za w2) (by kernel_rfl) (by kernel_rfl) ?_
 repeat (first
  | (go_big_quiet_want; refine zu 24 (.tmp 2) rfl w.heap.size 0 rfl (kyS f RA R.length Rc h).toList _ M1.out huk rfl HSK.out ?_; simp only [Act.put, List.setIfInBounds_toArray, List.set_cons_succ, List.set_cons_zero, Array.toArray_toList]; go_big_quiet_on)
  | (go_big_quiet_want; refine zu 132 (.tmp 23) rfl (w.heap.size + 1) 3 rfl (sgC sw lf s (.slice A l.length c)).toList _ M2.out hug rfl HSG.out ?_; simp only [Act.put, List.setIfInBounds_toArray, List.set_cons_succ, List.set_cons_zero, Array.toArray_toList]; go_big_quiet_on)
  | (go_big_quiet_step (first
   | (go_at_call 176; exact callG (CD.out _))
   | (go_at_call 160; exact callG (CS.out _ (RR.out _) (RL.out _))))))
 refine wpQuiet_nil ?_
 rintro w8 ⟨⟨w8', g8⟩, rfl⟩
 cases bk
 ·have HK : Hid (ck = 7) := Lib.hid (by
   rcases H07.out with hk | hk
   ·have := HBK.out; simp [hk] at this
   ·exact hk)
  clear HBK
  go_wp2_with fail
  go_ret
  exact ⟨by rw [HE.out, HK.out]; rfl, zb G2 g8⟩
 ·have HK : Hid (ck = 0) := Lib.hid (of_decide_eq_true HBK.out)
  clear HBK
  go_wp2_with fail
  go_ret
  exact ⟨by rw [HE.out, HK.out]; rfl, zb G2 g8⟩
set_option maxRecDepth 100000 in
set_option maxHeartbeats 2000000 in
theorem kto_fr (who leaf : Int) (s : Nat → Nat) (A : Option Addr) (c : Nat) (l : List Nat) (hl : l.length ≤ 1048576) (w : World) (hr : Rd w w.heap.size A (u64L l)) :
 Calls Tryz.prog 142 #[.agg (sgC who leaf s (.slice A l.length c))] w fun e w' => ∃ A' c', e = .returned (.agg (sgC who leaf s (.slice A' l.length c'))) ∧ Rd w' w'.heap.size A' (u64L l) ∧ Grew w w' ∧ (∀ ad, A' = some ad → w.heap.size ≤ ad.block) := by
 have z0 := Ag.new w 132 (sgC who leaf s (.slice A l.length c))
 have G0 := zc (za w) (.cells (sgC who leaf s (.slice A l.length c)) 132)
 have hwz : w.heap.size < (w.alloc (.cells (sgC who leaf s (.slice A l.length c)) 132)).heap.size := z0.lt
 have HIA : Hid ((Tryz.prog.info? 130).map (·.size) = some (arrU s).toList.length) := Lib.hid (by rw [show (arrU s).toList.length = 18 by simp [arrU]]; kernel_rfl)
 have hua := Tryz.underlying130
 have hur := Tryz.underlying89
 go_enter Tryz.func142, Tryz.ntmps142
 go_wp2_with fail
 have z2 : Ag ((w.alloc (.cells (sgC who leaf s (.slice A l.length c)) 132)).alloc (.cells (#[.int .i64 0, .int .i64 0, .int .u64 0, .int .u64 0, .int .u64 0, .int .u64 0, .int .u64 0, .int .u64 0, .int .u64 0, .int .u64 0, .int .u64 0, .int .u64 0, .int .u64 0, .int .u64 0, .int .u64 0, .int .u64 0, .int .u64 0, .int .u64 0, .int .u64 0, .int .u64 0, .slice none 0 0]) 89)) (w.heap.size + 1) (#[.int .i64 0, .int .i64 0, .int .u64 0, .int .u64 0, .int .u64 0, .int .u64 0, .int .u64 0, .int .u64 0, .int .u64 0, .int .u64 0, .int .u64 0, .int .u64 0, .int .u64 0, .int .u64 0, .int .u64 0, .int .u64 0, .int .u64 0, .int .u64 0, .int .u64 0, .int .u64 0, .slice none 0 0] : Array Value).toList := by
  have := Ag.new (w.alloc (.cells (sgC who leaf s (.slice A l.length c)) 132)) 89 (#[.int .i64 0, .int .i64 0, .int .u64 0, .int .u64 0, .int .u64 0, .int .u64 0, .int .u64 0, .int .u64 0, .int .u64 0, .int .u64 0, .int .u64 0, .int .u64 0, .int .u64 0, .int .u64 0, .int .u64 0, .int .u64 0, .int .u64 0, .int .u64 0, .int .u64 0, .int .u64 0, .slice none 0 0])
  simpa using this
 have z1 := z0.grew (zc (za _) (.cells (#[.int .i64 0, .int .i64 0, .int .u64 0, .int .u64 0, .int .u64 0, .int .u64 0, .int .u64 0, .int .u64 0, .int .u64 0, .int .u64 0, .int .u64 0, .int .u64 0, .int .u64 0, .int .u64 0, .int .u64 0, .int .u64 0, .int .u64 0, .int .u64 0, .int .u64 0, .int .u64 0, .slice none 0 0]) 89))
 have G2 := zc G0 (.cells (#[.int .i64 0, .int .i64 0, .int .u64 0, .int .u64 0, .int .u64 0, .int .u64 0, .int .u64 0, .int .u64 0, .int .u64 0, .int .u64 0, .int .u64 0, .int .u64 0, .int .u64 0, .int .u64 0, .int .u64 0, .int .u64 0, .int .u64 0, .int .u64 0, .int .u64 0, .int .u64 0, .slice none 0 0]) 89)
 clear z0 G0 hwz
 generalize (w.alloc (.cells (sgC who leaf s (.slice A l.length c)) 132)).alloc (.cells (#[.int .i64 0, .int .i64 0, .int .u64 0, .int .u64 0, .int .u64 0, .int .u64 0, .int .u64 0, .int .u64 0, .int .u64 0, .int .u64 0, .int .u64 0, .int .u64 0, .int .u64 0, .int .u64 0, .int .u64 0, .int .u64 0, .int .u64 0, .int .u64 0, .int .u64 0, .int .u64 0, .slice none 0 0]) 89) = w2 at *
 have HC0 : Hid (∀ y, Grew w2 y → y.cell? ⟨w.heap.size, 0, none⟩ = some (.int .i64 who)) := Lib.hid (fun y g => by simpa using (z1.grew g).cell 0 _ rfl)
 have HC1 : Hid (∀ y, Grew w2 y → y.cell? ⟨w.heap.size, 1, none⟩ = some (.int .i64 leaf)) := Lib.hid (fun y g => by simpa using (z1.grew g).cell 1 _ rfl)
 have HC20 : Hid (∀ y, Grew w2 y → y.cell? ⟨w.heap.size, 20, none⟩ = some (.slice A l.length c)) := Lib.hid (fun y g => by simpa using (z1.grew g).cell 20 _ rfl)
 have HCM : Hid (∀ y, Grew w2 y → y.rangeAt w.heap.size 2 (arrU s).toList) := Lib.hid (fun y g => xq (z1.grew g))
 have r2 := hr.gr G2
 have HRY := Lib.hid (fun y (g : Grew w2 y) => r2.gr g)
 clear z1 hr r2
 refine zy 11 (fun i => match i with
  | 0 => fun v _ => v = .pointer (some ⟨w.heap.size, 0, none⟩)
  | 1 => fun v _ => v = .int .i64 who
  | 2 => fun v _ => v = .pointer (some ⟨w.heap.size, 1, none⟩)
  | 3 => fun v _ => v = .int .i64 leaf
  | 4 => fun v _ => v = .pointer (some ⟨w.heap.size, 2, none⟩)
  | 5 => fun v _ => v = .agg (arrU s)
  | 6 => fun v _ => v = .agg (arrU s)
  | 7 => fun v _ => v = .pointer (some ⟨w.heap.size, 20, none⟩)
  | 8 => fun v _ => v = .slice A l.length c
  | 9 => fun v w => PV w w2.heap.size l v
  | 10 => fun v w => AgS w w2.heap.size who leaf s l v
  | _ => fun _ _ => True) (by kernel_rfl) (by kernel_rfl) ?_ ?_ ?_
 ·intro i v x y h hg
  match i, h with
  | 0, h | 1, h | 2, h | 3, h | 4, h | 5, h | 6, h | 7, h | 8, h => exact h
  | 9, h => exact PV.gr h hg
  | 10, h => exact AgS.gr h hg
  | m + 11, _ => trivial
 ·refine ⟨?_, ?_, ?_, ?_, ?_, ?_, ?_, ?_, ?_, ?_, ?_, trivial⟩
  ·intro vs y hg hd
   simp only [actOf, tk1, tk0, dr1, dr0, Act.put, si1, st1, st0, Nat.reduceAdd]
   go_wp2_with fail
   exact ⟨rfl, _, rfl, za _, rfl⟩
  ·intro vs y hg hd
   obtain ⟨h0, _⟩ := hd
   replace h0 := h0 rfl
   simp only [actOf, tk1, tk0, dr1, dr0, Act.put, si1, st1, st0, Nat.reduceAdd]
   rw [show vs 0 = _ from h0]
   have hc := HC0.out y hg
   go_wp2_with fail
   exact ⟨rfl, _, rfl, za _, rfl⟩
  ·intro vs y hg hd
   simp only [actOf, tk1, tk0, dr1, dr0, Act.put, si1, st1, st0, Nat.reduceAdd]
   go_wp2_with fail
   exact ⟨rfl, _, rfl, za _, rfl⟩
  ·intro vs y hg hd
   obtain ⟨h2, _⟩ := hd
   replace h2 := h2 rfl
   simp only [actOf, tk1, tk0, dr1, dr0, Act.put, si1, st1, st0, Nat.reduceAdd]
   rw [show vs 2 = _ from h2]
   have hc := HC1.out y hg
   go_wp2_with fail
   exact ⟨rfl, _, rfl, za _, rfl⟩
  ·intro vs y hg hd
   simp only [actOf, tk1, tk0, dr1, dr0, Act.put, si1, st1, st0, Nat.reduceAdd]
   go_wp2_with fail
   exact ⟨rfl, _, rfl, za _, rfl⟩
  ·intro vs y hg hd
   obtain ⟨h4, _⟩ := hd
   replace h4 := h4 rfl
   simp only [actOf, tk1, tk0, dr1, dr0, Act.put, si1, st1, st0, Nat.reduceAdd]
   rw [show vs 4 = _ from h4]
   have hm := HCM.out y hg
   go_wp2_with (with_reducible refine wpList_load_mid rfl 130 (.tmp 7) rfl w.heap.size 2 rfl (arrU s).toList _ hm hua rfl HIA.out ?_)
   exact ⟨rfl, _, rfl, za _, rfl⟩
  ·intro vs y hg hd
   obtain ⟨h5, _⟩ := hd
   replace h5 := h5 rfl
   simp only [actOf, tk1, tk0, dr1, dr0, Act.put, si1, st1, st0, Nat.reduceAdd]
   rw [show vs 5 = _ from h5]
   go_wp2_with (go_at_call 209; refine (to_row s y).mono ?_; rintro e z ⟨rfl, gz⟩)
   exact ⟨rfl, _, rfl, gz, rfl⟩
  ·intro vs y hg hd
   simp only [actOf, tk1, tk0, dr1, dr0, Act.put, si1, st1, st0, Nat.reduceAdd]
   go_wp2_with fail
   exact ⟨rfl, _, rfl, za _, rfl⟩
  ·intro vs y hg hd
   obtain ⟨h7, _⟩ := hd
   replace h7 := h7 rfl
   simp only [actOf, tk1, tk0, dr1, dr0, Act.put, si1, st1, st0, Nat.reduceAdd]
   rw [show vs 7 = _ from h7]
   have hc := HC20.out y hg
   go_wp2_with fail
   exact ⟨rfl, _, rfl, za _, rfl⟩
  ·intro vs y hg hd
   obtain ⟨h8, _⟩ := hd
   replace h8 := h8 rfl
   simp only [actOf, tk1, tk0, dr1, dr0, Act.put, si1, st1, st0, Nat.reduceAdd]
   rw [show vs 8 = _ from h8]
   go_wp2_with (go_at_call 97; refine (zdx A c y.heap.size l hl y (HRY.out y hg) (Nat.le_refl _)).mono ?_; rintro e z ⟨A2, c2, rfl, hr9, hb9, gz⟩)
   exact ⟨rfl, _, rfl, gz, ⟨A2, c2, rfl, hr9, fun ad h => Nat.le_trans hg.size (hb9 ad h)⟩⟩
  ·intro vs y hg hd
   obtain ⟨h1, h3, h6, h9, _⟩ := hd
   replace h1 := h1 rfl
   replace h3 := h3 rfl
   replace h6 := h6 rfl
   replace h9 := h9 rfl
   simp only [actOf, tk1, tk0, dr1, dr0, Act.put, si1, st1, st0, Nat.reduceAdd]
   rw [show vs 1 = _ from h1, show vs 3 = _ from h3, show vs 6 = _ from h6]
   obtain ⟨A2, c2, hv, hr9, hb9⟩ := PV.out h9
   rw [hv]
   have hbu := zm4 who leaf s A2 l.length c2
   generalize arrU s = aa at *
   refine zE rfl 89 #[(0, .tmp 4), (1, .tmp 6), (2, .tmp 9), (3, .tmp 12)] rfl _ (by simpa [Act.eval] using hbu) ?_
   go_wp2_with fail
   exact ⟨rfl, _, rfl, za _, ⟨A2, c2, rfl, hr9, hb9⟩⟩
 ·intro vs y hg hJ
  have j0 : vs 0 = .pointer (some ⟨w.heap.size, 0, none⟩) := hJ 0 (by decide)
  have j1 : vs 1 = .int .i64 who := hJ 1 (by decide)
  have j2 : vs 2 = .pointer (some ⟨w.heap.size, 1, none⟩) := hJ 2 (by decide)
  have j3 : vs 3 = .int .i64 leaf := hJ 3 (by decide)
  have j4 : vs 4 = .pointer (some ⟨w.heap.size, 2, none⟩) := hJ 4 (by decide)
  have j5 : vs 5 = .agg (arrU s) := hJ 5 (by decide)
  have j6 : vs 6 = .agg (arrU s) := hJ 6 (by decide)
  have j7 : vs 7 = .pointer (some ⟨w.heap.size, 20, none⟩) := hJ 7 (by decide)
  have j8 : vs 8 = .slice A l.length c := hJ 8 (by decide)
  simp only [actOf, tk1, tk0, dr1, dr0, Act.put, si1, st1, st0, Nat.reduceAdd]
  obtain ⟨A2, c2, j10, r3, hb3⟩ := AgS.out (show AgS y w2.heap.size who leaf s l (vs 10) from hJ 10 (by decide))
  rw [j10]
  clear hJ j0 j1 j2 j3 j4 j5 j6 j7 j8 j10
  have h2 := z2.lt
  have HLO : Hid (∀ ad, A2 = some ad → w.heap.size ≤ ad.block) := Lib.hid (fun ad h => by have := hb3 ad h; have := G2.size; omega)
  have HNE : Hid (∀ ad, A2 = some ad → ad.block ≠ w.heap.size + 1) := Lib.hid (fun ad h => by have := hb3 ad h; omega)
  have z3 := z2.grew hg
  have G3 := zb G2 hg
  clear z2 G2 hg hb3 h2
  have HTH : Hid (y.there (w.heap.size + 1) 0 (sgC who leaf s (.slice A2 l.length c2)).size) := Lib.hid (z3.thereN 21 rfl)
  have HSI : Hid ((Tryz.prog.info? 89).map (·.size) = some (sgC who leaf s (.slice A2 l.length c2)).size) := Lib.hid zf6
  have HON := Lib.hid (xC who leaf s A2 l.length c2)
  have K3 := zx (sgC who leaf s (.slice A2 l.length c2)).toList (w.heap.size + 1) 0 y
  have r4 := (r3.kp K3 (Nat.le_refl _) (fun ad h1 h2 h3 => HNE.out ad h1 h3)).more K3.size
  have z4 := Ag.set (vs := (sgC who leaf s (.slice A2 l.length c2)).toList) z3 rfl
  have G4 := ze (o := 0) (b := w.heap.size + 1) (sgC who leaf s (.slice A2 l.length c2)).toList G3 (by omega)
  go_wp2_with (with_reducible refine wpList_store_mid rfl 89 (.tmp 2) (.tmp 13) rfl (w.heap.size + 1) 0 (sgC who leaf s (.slice A2 l.length c2)) rfl rfl HTH.out HSI.out HON.out ?_)
  exact bodyPost_ret (yl Tryz.results142 _ _ (w.heap.size + 1) _ _ rfl z4 hur rfl zf6) rfl ⟨A2, ⟨c2, rfl⟩, r4, G4, HLO.out⟩
set_option maxRecDepth 100000 in
set_option maxHeartbeats 2000000 in
theorem zpk (cm : Nat) (who at_ sw lf : Int) (s : Nat → Nat) (A : Option Addr) (c : Nat) (l : List Nat) (hl : l.length ≤ 1048576) (w : World) (hr : Rd w w.heap.size A (u64L l)) :
 Calls Tryz.prog 116 #[.agg (stC cm who at_ sw lf s (.slice A l.length c))] w fun e w' => ∃ A' c', e = .returned (.agg (stC cm who at_ sw lf s (.slice A' l.length c'))) ∧ Rd w' w'.heap.size A' (u64L l) ∧ Grew w w' ∧ (∀ ad, A' = some ad → w.heap.size ≤ ad.block) := by
 have z0 := Ag.new w 169 (stC cm who at_ sw lf s (.slice A l.length c))
 have G0 := zc (za w) (.cells (stC cm who at_ sw lf s (.slice A l.length c)) 169)
 have hus := Tryz.underlying132
 have hur := Tryz.underlying91
 have CO := Lib.hid (fun W hR => kto_fr sw lf s A c l hl W hR)
 have HSL : Hid ((Tryz.prog.info? 132).map (·.size) = some (sgC sw lf s (.slice A l.length c)).toList.length) := Lib.hid xD
 go_enter Tryz.func116, Tryz.ntmps116
 go_wp2_with fail
 have z2 : Ag ((w.alloc (.cells (stC cm who at_ sw lf s (.slice A l.length c)) 169)).alloc (.cells (#[.int .u64 0, .int .i64 0, .int .i64 0, .int .i64 0, .int .i64 0, .int .u64 0, .int .u64 0, .int .u64 0, .int .u64 0, .int .u64 0, .int .u64 0, .int .u64 0, .int .u64 0, .int .u64 0, .int .u64 0, .int .u64 0, .int .u64 0, .int .u64 0, .int .u64 0, .int .u64 0, .int .u64 0, .int .u64 0, .int .u64 0, .slice none 0 0]) 91)) (w.heap.size + 1) (#[.int .u64 0, .int .i64 0, .int .i64 0, .int .i64 0, .int .i64 0, .int .u64 0, .int .u64 0, .int .u64 0, .int .u64 0, .int .u64 0, .int .u64 0, .int .u64 0, .int .u64 0, .int .u64 0, .int .u64 0, .int .u64 0, .int .u64 0, .int .u64 0, .int .u64 0, .int .u64 0, .int .u64 0, .int .u64 0, .int .u64 0, .slice none 0 0] : Array Value).toList := by
  have := Ag.new (w.alloc (.cells (stC cm who at_ sw lf s (.slice A l.length c)) 169)) 91 (#[.int .u64 0, .int .i64 0, .int .i64 0, .int .i64 0, .int .i64 0, .int .u64 0, .int .u64 0, .int .u64 0, .int .u64 0, .int .u64 0, .int .u64 0, .int .u64 0, .int .u64 0, .int .u64 0, .int .u64 0, .int .u64 0, .int .u64 0, .int .u64 0, .int .u64 0, .int .u64 0, .int .u64 0, .int .u64 0, .int .u64 0, .slice none 0 0])
  simpa using this
 have z1 := z0.grew (zc (za _) (.cells (#[.int .u64 0, .int .i64 0, .int .i64 0, .int .i64 0, .int .i64 0, .int .u64 0, .int .u64 0, .int .u64 0, .int .u64 0, .int .u64 0, .int .u64 0, .int .u64 0, .int .u64 0, .int .u64 0, .int .u64 0, .int .u64 0, .int .u64 0, .int .u64 0, .int .u64 0, .int .u64 0, .int .u64 0, .int .u64 0, .int .u64 0, .slice none 0 0]) 91))
 have G2 := zc G0 (.cells (#[.int .u64 0, .int .i64 0, .int .i64 0, .int .i64 0, .int .i64 0, .int .u64 0, .int .u64 0, .int .u64 0, .int .u64 0, .int .u64 0, .int .u64 0, .int .u64 0, .int .u64 0, .int .u64 0, .int .u64 0, .int .u64 0, .int .u64 0, .int .u64 0, .int .u64 0, .int .u64 0, .int .u64 0, .int .u64 0, .int .u64 0, .slice none 0 0]) 91)
 clear z0 G0
 generalize (w.alloc (.cells (stC cm who at_ sw lf s (.slice A l.length c)) 169)).alloc (.cells (#[.int .u64 0, .int .i64 0, .int .i64 0, .int .i64 0, .int .i64 0, .int .u64 0, .int .u64 0, .int .u64 0, .int .u64 0, .int .u64 0, .int .u64 0, .int .u64 0, .int .u64 0, .int .u64 0, .int .u64 0, .int .u64 0, .int .u64 0, .int .u64 0, .int .u64 0, .int .u64 0, .int .u64 0, .int .u64 0, .int .u64 0, .slice none 0 0]) 91) = w2 at *
 have HC0 : Hid (∀ y, Grew w2 y → y.cell? ⟨w.heap.size, 0, none⟩ = some (.int .u64 (cm : Nat))) := Lib.hid (fun y g => by simpa using (z1.grew g).cell 0 _ rfl)
 have HC1 : Hid (∀ y, Grew w2 y → y.cell? ⟨w.heap.size, 1, none⟩ = some (.int .i64 who)) := Lib.hid (fun y g => by simpa using (z1.grew g).cell 1 _ rfl)
 have HC2 : Hid (∀ y, Grew w2 y → y.cell? ⟨w.heap.size, 2, none⟩ = some (.int .i64 at_)) := Lib.hid (fun y g => by simpa using (z1.grew g).cell 2 _ rfl)
 have HCM : Hid (∀ y, Grew w2 y → y.rangeAt w.heap.size 3 (sgC sw lf s (.slice A l.length c)).toList) := Lib.hid (fun y g => xr (z1.grew g).cell)
 have r2 := hr.gr G2
 have HRY := Lib.hid (fun y (g : Grew w2 y) => r2.gr g)
 clear z1 hr r2
 generalize sgC sw lf s (.slice A l.length c) = gs at *
 refine zy 10 (fun i => match i with
  | 0 => fun v _ => v = .pointer (some ⟨w.heap.size, 0, none⟩)
  | 1 => fun v _ => v = .int .u64 (cm : Nat)
  | 2 => fun v _ => v = .pointer (some ⟨w.heap.size, 1, none⟩)
  | 3 => fun v _ => v = .int .i64 who
  | 4 => fun v _ => v = .pointer (some ⟨w.heap.size, 2, none⟩)
  | 5 => fun v _ => v = .int .i64 at_
  | 6 => fun v _ => v = .pointer (some ⟨w.heap.size, 3, none⟩)
  | 7 => fun v _ => v = .agg gs
  | 8 => fun v w => AgS w w2.heap.size sw lf s l v
  | 9 => fun v w => AgT w w2.heap.size cm who at_ sw lf s l v
  | _ => fun _ _ => True) (by kernel_rfl) (by kernel_rfl) ?_ ?_ ?_
 ·intro i v x y h hg
  match i, h with
  | 0, h | 1, h | 2, h | 3, h | 4, h | 5, h | 6, h | 7, h => exact h
  | 8, h => exact AgS.gr h hg
  | 9, h => exact AgT.gr h hg
  | m + 10, _ => trivial
 ·refine ⟨?_, ?_, ?_, ?_, ?_, ?_, ?_, ?_, ?_, ?_, trivial⟩
  ·intro vs y hg hd
   simp only [actOf, tk1, tk0, dr1, dr0, Act.put, si1, st1, st0, Nat.reduceAdd]
   go_wp2_with fail
   exact ⟨rfl, _, rfl, za _, rfl⟩
  ·intro vs y hg hd
   obtain ⟨h0, _⟩ := hd
   replace h0 := h0 rfl
   simp only [actOf, tk1, tk0, dr1, dr0, Act.put, si1, st1, st0, Nat.reduceAdd]
   rw [show vs 0 = _ from h0]
   have hc := HC0.out y hg
   go_wp2_with fail
   exact ⟨rfl, _, rfl, za _, rfl⟩
  ·intro vs y hg hd
   simp only [actOf, tk1, tk0, dr1, dr0, Act.put, si1, st1, st0, Nat.reduceAdd]
   go_wp2_with fail
   exact ⟨rfl, _, rfl, za _, rfl⟩
  ·intro vs y hg hd
   obtain ⟨h2, _⟩ := hd
   replace h2 := h2 rfl
   simp only [actOf, tk1, tk0, dr1, dr0, Act.put, si1, st1, st0, Nat.reduceAdd]
   rw [show vs 2 = _ from h2]
   have hc := HC1.out y hg
   go_wp2_with fail
   exact ⟨rfl, _, rfl, za _, rfl⟩
  ·intro vs y hg hd
   simp only [actOf, tk1, tk0, dr1, dr0, Act.put, si1, st1, st0, Nat.reduceAdd]
   go_wp2_with fail
   exact ⟨rfl, _, rfl, za _, rfl⟩
  ·intro vs y hg hd
   obtain ⟨h4, _⟩ := hd
   replace h4 := h4 rfl
   simp only [actOf, tk1, tk0, dr1, dr0, Act.put, si1, st1, st0, Nat.reduceAdd]
   rw [show vs 4 = _ from h4]
   have hc := HC2.out y hg
   go_wp2_with fail
   exact ⟨rfl, _, rfl, za _, rfl⟩
  ·intro vs y hg hd
   simp only [actOf, tk1, tk0, dr1, dr0, Act.put, si1, st1, st0, Nat.reduceAdd]
   go_wp2_with fail
   exact ⟨rfl, _, rfl, za _, rfl⟩
  ·intro vs y hg hd
   obtain ⟨h6, _⟩ := hd
   replace h6 := h6 rfl
   simp only [actOf, tk1, tk0, dr1, dr0, Act.put, si1, st1, st0, Nat.reduceAdd]
   rw [show vs 6 = _ from h6]
   have hm := HCM.out y hg
   go_wp2_with (with_reducible refine wpList_load_mid rfl 132 (.tmp 9) rfl w.heap.size 3 rfl gs.toList _ hm hus rfl HSL.out ?_; simp only [Array.toArray_toList])
   exact ⟨rfl, _, rfl, za _, rfl⟩
  ·intro vs y hg hd
   obtain ⟨h7, _⟩ := hd
   replace h7 := h7 rfl
   simp only [actOf, tk1, tk0, dr1, dr0, Act.put, si1, st1, st0, Nat.reduceAdd]
   rw [show vs 7 = _ from h7]
   go_wp2_with (go_at_call 142; refine (CO.out y (HRY.out y hg)).mono ?_; rintro e z ⟨A2, c2, rfl, hr2, gz, hb2⟩)
   exact ⟨rfl, _, rfl, gz, ⟨A2, c2, rfl, hr2, fun ad h => by have := hb2 ad h; have := hg.size; omega⟩⟩
  ·intro vs y hg hd
   obtain ⟨h1, h3, h5, h8, _⟩ := hd
   replace h1 := h1 rfl
   replace h3 := h3 rfl
   replace h5 := h5 rfl
   replace h8 := h8 rfl
   simp only [actOf, tk1, tk0, dr1, dr0, Act.put, si1, st1, st0, Nat.reduceAdd]
   rw [show vs 1 = _ from h1, show vs 3 = _ from h3, show vs 5 = _ from h5]
   obtain ⟨A2, c2, hv, hr2, hb2⟩ := AgS.out h8
   rw [hv]
   have HBU := Lib.hid (q4 cm who at_ sw lf s A2 l.length c2)
   go_wp2_with (with_reducible refine zE rfl 91 #[(0, .tmp 4), (1, .tmp 6), (2, .tmp 8), (3, .tmp 11)] rfl (stC cm who at_ sw lf s (.slice A2 l.length c2)) ?_ ?_; · simpa [Act.eval, Act.put] using HBU.out)
   exact ⟨rfl, _, rfl, za _, ⟨A2, c2, rfl, hr2, hb2⟩⟩
 ·intro vs y hg hJ
  have j0 : vs 0 = .pointer (some ⟨w.heap.size, 0, none⟩) := hJ 0 (by decide)
  have j1 : vs 1 = .int .u64 (cm : Nat) := hJ 1 (by decide)
  have j2 : vs 2 = .pointer (some ⟨w.heap.size, 1, none⟩) := hJ 2 (by decide)
  have j3 : vs 3 = .int .i64 who := hJ 3 (by decide)
  have j4 : vs 4 = .pointer (some ⟨w.heap.size, 2, none⟩) := hJ 4 (by decide)
  have j5 : vs 5 = .int .i64 at_ := hJ 5 (by decide)
  have j6 : vs 6 = .pointer (some ⟨w.heap.size, 3, none⟩) := hJ 6 (by decide)
  have j7 : vs 7 = .agg gs := hJ 7 (by decide)
  have s11 := hJ 8 (by decide)
  have s12 := hJ 9 (by decide)
  clear hJ
  simp only [actOf, tk1, tk0, dr1, dr0, Act.put, si1, st1, st0, Nat.reduceAdd]
  obtain ⟨A2, c2, j9, r3, hb3⟩ := AgT.out s12
  rw [j9]
  clear s11 s12 j9
  have hz1 := z2.lt
  have hz2 := G2.size
  have HNE : Hid (∀ ad, A2 = some ad → ad.block ≠ w.heap.size + 1) := Lib.hid (fun ad h => by have := hb3 ad h; omega)
  have HLO : Hid (∀ ad, A2 = some ad → w.heap.size ≤ ad.block) := Lib.hid (fun ad h => by have := hb3 ad h; omega)
  have z3 := z2.grew hg
  have G3 := zb G2 hg
  clear z2 G2 hg hb3 hz1 hz2
  have HTH : Hid (y.there (w.heap.size + 1) 0 (stC cm who at_ sw lf s (.slice A2 l.length c2)).size) := Lib.hid (z3.thereN 24 rfl)
  have HSI : Hid ((Tryz.prog.info? 91).map (·.size) = some (stC cm who at_ sw lf s (.slice A2 l.length c2)).size) := Lib.hid zv
  have HON := Lib.hid (x7 cm who at_ sw lf s A2 l.length c2)
  have K3 := zx (stC cm who at_ sw lf s (.slice A2 l.length c2)).toList (w.heap.size + 1) 0 y
  have r4 := (r3.kp K3 (Nat.le_refl _) (fun ad h1 h2 h3 => HNE.out ad h1 h3)).more K3.size
  have z4 := Ag.set (vs := (stC cm who at_ sw lf s (.slice A2 l.length c2)).toList) z3 rfl
  have G4 := ze (o := 0) (b := w.heap.size + 1) (stC cm who at_ sw lf s (.slice A2 l.length c2)).toList G3 (by omega)
  go_wp2_with (with_reducible refine wpList_store_mid rfl 91 (.tmp 2) (.tmp 12) rfl (w.heap.size + 1) 0 (stC cm who at_ sw lf s (.slice A2 l.length c2)) rfl rfl HTH.out HSI.out HON.out ?_)
  exact bodyPost_ret (yl Tryz.results116 _ _ (w.heap.size + 1) _ _ rfl z4 hur rfl zv) rfl ⟨A2, ⟨c2, rfl⟩, r4, G4, HLO.out⟩
theorem znh (f : Int) : Tryz.prog.built 47 [(0, .int .i64 f)] = some #[.int .i64 f] := by kernel_rfl
theorem zni (f h : Int) (A : Option Addr) (n c : Nat) : Tryz.prog.built 50 [(0, .agg #[.int .i64 f]), (1, .slice A n c), (2, .int .i64 h)] = some (kyS f A n c h) := by kernel_rfl
theorem zgh : (Tryz.prog.info? 50).map (·.size) = some 3 := by kernel_rfl
set_option maxRecDepth 100000 in
set_option maxHeartbeats 1000000 in
theorem zj5 (f : Int) (R : List Nat) (RA : Option Addr) (Rc : Nat) (h : Int) (hl : R.length ≤ 1048576) (w : World) (hr : Rd w w.heap.size RA (u64L R)) :
 Calls Tryz.prog 24 #[.agg (kyS f RA R.length Rc h)] w fun e w' => ∃ A' c', e = .returned (.agg (kyS f A' R.length c' h)) ∧ Rd w' w'.heap.size A' (u64L R) ∧ Grew w w' ∧ (∀ ad, A' = some ad → w.heap.size ≤ ad.block) := by
 have z0 := Ag.new w 24 (kyS f RA R.length Rc h)
 have G0 := zc (za w) (.cells (kyS f RA R.length Rc h) 24)
 have hur := Tryz.underlying50
 have CO := Lib.hid (fun W hR => zdx RA Rc _ R hl W hR (Nat.le_refl _))
 go_enter Tryz.func24, Tryz.ntmps24
 go_wp2_with fail
 have z2 : Ag ((w.alloc (.cells (kyS f RA R.length Rc h) 24)).alloc (.cells (#[.int .i64 0, .slice none 0 0, .int .i64 0]) 50)) (w.heap.size + 1) (#[.int .i64 0, .slice none 0 0, .int .i64 0] : Array Value).toList := by
  have := Ag.new (w.alloc (.cells (kyS f RA R.length Rc h) 24)) 50 (#[.int .i64 0, .slice none 0 0, .int .i64 0])
  simpa using this
 have z1 := z0.grew (zc (za _) (.cells (#[.int .i64 0, .slice none 0 0, .int .i64 0]) 50))
 have G2 := zc G0 (.cells (#[.int .i64 0, .slice none 0 0, .int .i64 0]) 50)
 clear z0 G0
 generalize (w.alloc (.cells (kyS f RA R.length Rc h) 24)).alloc (.cells (#[.int .i64 0, .slice none 0 0, .int .i64 0]) 50) = w2 at *
 have HC0 : Hid (∀ y, Grew w2 y → y.cell? ⟨w.heap.size, 0, none⟩ = some (.int .i64 f)) := Lib.hid (fun y g => by simpa using (z1.grew g).cell 0 _ rfl)
 have HC1 : Hid (∀ y, Grew w2 y → y.cell? ⟨w.heap.size, 1, none⟩ = some (.slice RA R.length Rc)) := Lib.hid (fun y g => by simpa using (z1.grew g).cell 1 _ rfl)
 have HC2 : Hid (∀ y, Grew w2 y → y.cell? ⟨w.heap.size, 2, none⟩ = some (.int .i64 h)) := Lib.hid (fun y g => by simpa using (z1.grew g).cell 2 _ rfl)
 have r2 := hr.gr G2
 have HRY := Lib.hid (fun y (g : Grew w2 y) => r2.gr g)
 clear z1 hr r2
 refine zy 9 (fun i => match i with
  | 0 => fun v _ => v = .pointer (some ⟨w.heap.size, 0, none⟩)
  | 1 => fun v _ => v = .int .i64 f
  | 2 => fun v _ => v = .agg #[.int .i64 f]
  | 3 => fun v _ => v = .pointer (some ⟨w.heap.size, 1, none⟩)
  | 4 => fun v _ => v = .slice RA R.length Rc
  | 5 => fun v w => PV w w2.heap.size R v
  | 6 => fun v _ => v = .pointer (some ⟨w.heap.size, 2, none⟩)
  | 7 => fun v _ => v = .int .i64 h
  | 8 => fun v w => KV w w2.heap.size f R h v
  | _ => fun _ _ => True) (by kernel_rfl) (by kernel_rfl) ?_ ?_ ?_
 ·intro i v x y h hg
  match i, h with
  | 0, h | 1, h | 2, h | 3, h | 4, h | 6, h | 7, h => exact h
  | 5, h => exact PV.gr h hg
  | 8, h => exact KV.gr h hg
  | m + 9, _ => trivial
 ·refine ⟨?_, ?_, ?_, ?_, ?_, ?_, ?_, ?_, ?_, trivial⟩
  ·intro vs y hg hd
   simp only [actOf, tk1, tk0, dr1, dr0, Act.put, si1, st1, st0, Nat.reduceAdd]
   go_wp2_with fail
   exact ⟨rfl, _, rfl, za _, rfl⟩
  ·intro vs y hg hd
   obtain ⟨h0, _⟩ := hd
   replace h0 := h0 rfl
   simp only [actOf, tk1, tk0, dr1, dr0, Act.put, si1, st1, st0, Nat.reduceAdd]
   rw [show vs 0 = _ from h0]
   have hc := HC0.out y hg
   go_wp2_with fail
   exact ⟨rfl, _, rfl, za _, rfl⟩
  ·intro vs y hg hd
   obtain ⟨h1, _⟩ := hd
   replace h1 := h1 rfl
   simp only [actOf, tk1, tk0, dr1, dr0, Act.put, si1, st1, st0, Nat.reduceAdd]
   rw [show vs 1 = _ from h1]
   have HBF := Lib.hid (znh f)
   go_wp2_with (with_reducible refine zE rfl 47 #[(0, .tmp 4)] rfl #[.int .i64 f] ?_ ?_; · simpa [Act.eval, Act.put] using HBF.out)
   exact ⟨rfl, _, rfl, za _, rfl⟩
  ·intro vs y hg hd
   simp only [actOf, tk1, tk0, dr1, dr0, Act.put, si1, st1, st0, Nat.reduceAdd]
   go_wp2_with fail
   exact ⟨rfl, _, rfl, za _, rfl⟩
  ·intro vs y hg hd
   obtain ⟨h3, _⟩ := hd
   replace h3 := h3 rfl
   simp only [actOf, tk1, tk0, dr1, dr0, Act.put, si1, st1, st0, Nat.reduceAdd]
   rw [show vs 3 = _ from h3]
   have hc := HC1.out y hg
   go_wp2_with fail
   exact ⟨rfl, _, rfl, za _, rfl⟩
  ·intro vs y hg hd
   obtain ⟨h4, _⟩ := hd
   replace h4 := h4 rfl
   simp only [actOf, tk1, tk0, dr1, dr0, Act.put, si1, st1, st0, Nat.reduceAdd]
   rw [show vs 4 = _ from h4]
   go_wp2_with (go_at_call 97; refine (CO.out y (HRY.out y hg)).mono ?_; rintro e z ⟨A2, c2, rfl, hr2, hb2, gz⟩)
   exact ⟨rfl, _, rfl, gz, ⟨A2, c2, rfl, hr2, fun ad h => by have := hb2 ad h; have := hg.size; omega⟩⟩
  ·intro vs y hg hd
   simp only [actOf, tk1, tk0, dr1, dr0, Act.put, si1, st1, st0, Nat.reduceAdd]
   go_wp2_with fail
   exact ⟨rfl, _, rfl, za _, rfl⟩
  ·intro vs y hg hd
   obtain ⟨h6, _⟩ := hd
   replace h6 := h6 rfl
   simp only [actOf, tk1, tk0, dr1, dr0, Act.put, si1, st1, st0, Nat.reduceAdd]
   rw [show vs 6 = _ from h6]
   have hc := HC2.out y hg
   go_wp2_with fail
   exact ⟨rfl, _, rfl, za _, rfl⟩
  ·intro vs y hg hd
   obtain ⟨h2, h5, h7, _⟩ := hd
   replace h2 := h2 rfl
   replace h5 := h5 rfl
   replace h7 := h7 rfl
   simp only [actOf, tk1, tk0, dr1, dr0, Act.put, si1, st1, st0, Nat.reduceAdd]
   rw [show vs 2 = _ from h2, show vs 7 = _ from h7]
   obtain ⟨A2, c2, hv, hr2, hb2⟩ := PV.out h5
   rw [hv]
   have HBU := Lib.hid (zni f h A2 R.length c2)
   go_wp2_with (with_reducible refine zE rfl 50 #[(0, .tmp 5), (1, .tmp 8), (2, .tmp 10)] rfl (kyS f A2 R.length c2 h) ?_ ?_; · simpa [Act.eval, Act.put] using HBU.out)
   exact ⟨rfl, _, rfl, za _, ⟨A2, c2, rfl, hr2, hb2⟩⟩
 ·intro vs y hg hJ
  have j0 : vs 0 = .pointer (some ⟨w.heap.size, 0, none⟩) := hJ 0 (by decide)
  have j1 : vs 1 = .int .i64 f := hJ 1 (by decide)
  have j2 : vs 2 = .agg #[.int .i64 f] := hJ 2 (by decide)
  have j3 : vs 3 = .pointer (some ⟨w.heap.size, 1, none⟩) := hJ 3 (by decide)
  have j4 : vs 4 = .slice RA R.length Rc := hJ 4 (by decide)
  have j6 : vs 6 = .pointer (some ⟨w.heap.size, 2, none⟩) := hJ 6 (by decide)
  have j7 : vs 7 = .int .i64 h := hJ 7 (by decide)
  have s8 := hJ 5 (by decide)
  have s11 := hJ 8 (by decide)
  clear hJ
  simp only [actOf, tk1, tk0, dr1, dr0, Act.put, si1, st1, st0, Nat.reduceAdd]
  obtain ⟨A2, c2, j9, r3, hb3⟩ := KV.out s11
  rw [j9]
  clear s8 s11 j9
  have hz1 := z2.lt
  have hz2 := G2.size
  have HNE : Hid (∀ ad, A2 = some ad → ad.block ≠ w.heap.size + 1) := Lib.hid (fun ad h => by have := hb3 ad h; omega)
  have HLO : Hid (∀ ad, A2 = some ad → w.heap.size ≤ ad.block) := Lib.hid (fun ad h => by have := hb3 ad h; omega)
  have z3 := z2.grew hg
  have G3 := zb G2 hg
  clear z2 G2 hg hb3 hz1 hz2
  have HTH : Hid (y.there (w.heap.size + 1) 0 (kyS f A2 R.length c2 h).size) := Lib.hid (z3.thereN 3 rfl)
  have HSI : Hid ((Tryz.prog.info? 50).map (·.size) = some (kyS f A2 R.length c2 h).size) := Lib.hid zgh
  have HON := Lib.hid (zpi f h A2 R.length c2)
  have K3 := zx (kyS f A2 R.length c2 h).toList (w.heap.size + 1) 0 y
  have r4 := (r3.kp K3 (Nat.le_refl _) (fun ad h1 h2 h3 => HNE.out ad h1 h3)).more K3.size
  have z4 := Ag.set (vs := (kyS f A2 R.length c2 h).toList) z3 rfl
  have G4 := ze (o := 0) (b := w.heap.size + 1) (kyS f A2 R.length c2 h).toList G3 (by omega)
  go_wp2_with (with_reducible refine wpList_store_mid rfl 50 (.tmp 2) (.tmp 11) rfl (w.heap.size + 1) 0 (kyS f A2 R.length c2 h) rfl rfl HTH.out HSI.out HON.out ?_)
  exact bodyPost_ret (yl Tryz.results24 _ _ (w.heap.size + 1) _ _ rfl z4 hur rfl zgh) rfl ⟨A2, ⟨c2, rfl⟩, r4, G4, HLO.out⟩
set_option maxRecDepth 100000 in
set_option maxHeartbeats 1000000 in
theorem zfl (f : Int) (R : List Nat) (RA : Option Addr) (Rc : Nat) (h : Int) (w : World) :
 Calls Tryz.prog 16 #[.agg (kyS f RA R.length Rc h)] w fun e w' => e = .returned (.int .i64 (cyE f R.length h)) ∧ Grew w w' := by
 have CC := Lib.hid (fun W => zjk f W)
 have zk := Ag.new w 24 (kyS f RA R.length Rc h)
 have G1 := zc (za w) (.cells (kyS f RA R.length Rc h) 24)
 have hm0 : (w.alloc (.cells (kyS f RA R.length Rc h) 24)).cell? ⟨w.heap.size, 0, none⟩ = some (.int .i64 f) := by simpa using zk.cell 0 _ rfl
 by_cases hbad : f < 1 ∨ 3 < f
 ·have HE : Hid (cyE f R.length h = 1) := Lib.hid (by unfold cyE; rw [if_pos hbad])
  rw [if_pos hbad] at CC
  clear hbad zk
  go_enter Tryz.func16, Tryz.ntmps16
  go_wp2_with fail
  refine (CC.out _).mono ?_
  rintro e w2 ⟨rfl, rfl⟩
  go_wp2_with fail
  go_ret
  exact ⟨by rw [HE.out]; rfl, G1⟩
 rw [if_neg hbad] at CC
 have CN : Hid (∀ W, Calls Tryz.prog 78 #[.int .i64 f] W fun e w' => e = .returned (.int .i64 (3 * f + 1)) ∧ Grew W w') := Lib.hid (fun W => (rn_ok f (by omega) W).mono (by rintro e z ⟨rfl, rfl⟩; exact ⟨rfl, za _⟩))
 have hf : 1 ≤ f ∧ f ≤ 3 := by omega
 go_enter Tryz.func16, Tryz.ntmps16
 go_wp2_with fail
 refine (CC.out _).mono ?_
 rintro e w1 ⟨rfl, hw1⟩
 rw [← hw1] at zk G1
 clear hm0 CC hw1
 go_wp2_with fail
 have HD : Hid (cyE f R.length h = if (R.length : Int) = 3 * f + 1 ∧ 0 ≤ h ∧ h ≤ 8 then 0 else 1) := Lib.hid (by unfold cyE; rw [if_neg hbad])
 have m0 : ∀ y : Gr w1, y.val.cell? ⟨w.heap.size, 0, none⟩ = some (.int .i64 f) := fun y => by simpa using (zk.gr y).cell 0 _ rfl
 have m1 : ∀ y : Gr w1, y.val.cell? ⟨w.heap.size, 1, none⟩ = some (.slice RA R.length Rc) := fun y => by simpa using (zk.gr y).cell 1 _ rfl
 have m2 : ∀ y : Gr w1, y.val.cell? ⟨w.heap.size, 2, none⟩ = some (.int .i64 h) := fun y => by simpa using (zk.gr y).cell 2 _ rfl
 obtain ⟨nn, hnn⟩ : ∃ nn, 3 * f + 1 = nn := ⟨_, rfl⟩
 rw [hnn] at CN HD
 clear hnn hbad hf zk
 by_cases hA : (R.length : Int) = nn
 ·have e1 : ((R.length : Int) != nn) = false := by simp [hA]
  by_cases hB : h < 0
  ·have HE : Hid (cyE f R.length h = 1) := Lib.hid (by rw [HD.out, if_neg (by omega)])
   clear hA HD
   refine zg (za w1) (by kernel_rfl) (by kernel_rfl) ?_
   repeat (go_big_quiet_step (first | (go_at_call 78; exact callG (CN.out _))))
   refine wpQuiet_nil ?_
   rintro w8 ⟨⟨w8', g8⟩, rfl⟩
   have G8 := zb G1 g8
   go_wp2_with fail
   go_ret
   exact ⟨by rw [HE.out]; rfl, G8⟩
  by_cases hC : 8 < h
  ·have HE : Hid (cyE f R.length h = 1) := Lib.hid (by rw [HD.out, if_neg (by omega)])
   clear hA HD
   refine zg (za w1) (by kernel_rfl) (by kernel_rfl) ?_
   repeat (go_big_quiet_step (first | (go_at_call 78; exact callG (CN.out _))))
   refine wpQuiet_nil ?_
   rintro w8 ⟨⟨w8', g8⟩, rfl⟩
   have G8 := zb G1 g8
   go_wp2_with fail
   go_ret
   exact ⟨by rw [HE.out]; rfl, G8⟩
  have HE : Hid (cyE f R.length h = 0) := Lib.hid (by rw [HD.out, if_pos ⟨hA, by omega, by omega⟩])
  clear hA HD
  refine zg (za w1) (by kernel_rfl) (by kernel_rfl) ?_
  repeat (go_big_quiet_step (first | (go_at_call 78; exact callG (CN.out _))))
  refine wpQuiet_nil ?_
  rintro w8 ⟨⟨w8', g8⟩, rfl⟩
  have G8 := zb G1 g8
  go_wp2_with fail
  go_ret
  exact ⟨by rw [HE.out]; rfl, G8⟩
 ·have e1 : ((R.length : Int) != nn) = true := by simp [hA]
  have HE : Hid (cyE f R.length h = 1) := Lib.hid (by rw [HD.out, if_neg (fun h => hA h.1)])
  clear hA HD
  refine zg (za w1) (by kernel_rfl) (by kernel_rfl) ?_
  repeat (go_big_quiet_step (first | (go_at_call 78; exact callG (CN.out _))))
  refine wpQuiet_nil ?_
  rintro w8 ⟨⟨w8', g8⟩, rfl⟩
  have G8 := zb G1 g8
  go_wp2_with fail
  go_ret
  exact ⟨by rw [HE.out]; rfl, G8⟩
end Go.Proofs.YtpppegnojmnicaaGreatDoor
