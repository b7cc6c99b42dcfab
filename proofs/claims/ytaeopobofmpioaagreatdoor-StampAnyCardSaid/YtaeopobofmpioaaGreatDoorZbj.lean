/- stamp.Valid, CheckKeys. -/
import Derived.Test.YtaeopobofmpioaaGreatDoorZbi
import Derived.Test.YtaeopobofmpioaaGreatDoorZan
import Derived.Test.YtaeopobofmpioaaGreatDoorZat
import Derived.Test.YtaeopobofmpioaaGreatDoorZbh
namespace Go.Proofs.YtaeopobofmpioaaGreatDoor
set_option linter.unusedSimpArgs false
set_option linter.unusedVariables false
open Go.RowKit
set_option linter.unusedVariables false
set_option linter.unusedSimpArgs false
set_option maxRecDepth 100000 in
theorem st_fold (cm : Nat) (who at_ sw lf : Int) (s : Nat → Nat) (A : Option Addr) (n c : Nat) : Array.foldl (fun (cs : Array Value) (x : Value × Nat) => cs.setIfInBounds x.snd x.fst) (#[.int .u64 0, .int .i64 0, .int .i64 0, .int .i64 0, .int .i64 0, .int .u64 0, .int .u64 0, .int .u64 0, .int .u64 0, .int .u64 0, .int .u64 0, .int .u64 0, .int .u64 0, .int .u64 0, .int .u64 0, .int .u64 0, .int .u64 0, .int .u64 0, .int .u64 0, .int .u64 0, .int .u64 0, .int .u64 0, .int .u64 0, .slice none 0 0]) (stC cm who at_ sw lf s (.slice A n c)).zipIdx 0 24 = stC cm who at_ sw lf s (.slice A n c) := by kernel_rfl
def kyS (f : Int) (RA : Option Addr) (n c : Nat) (h : Int) : Array Value := #[.int .i64 f, .slice RA n c, .int .i64 h]
noncomputable def vaE (f : Int) (R : List Nat) (h : Int) (cm : Nat) (who at_ sw lf : Int) (s : Nat → Nat) (l : List Nat) : Int :=
  if who < 0 then 1 else if 3 * f + 1 ≤ who then 1 else if tmB at_ = true then ckE R h who.toNat (stD cm who at_) sw lf s l else 1
def cyE (f : Int) (n : Nat) (h : Int) : Int := if f < 1 ∨ 3 < f then 1 else if (n : Int) = 3 * f + 1 ∧ 0 ≤ h ∧ h ≤ 8 then 0 else 1
set_option maxRecDepth 100000 in
set_option maxHeartbeats 2000000 in
theorem stvalid_ok (f : Int) (hf : 1 ≤ f ∧ f ≤ 3) (R : List Nat) (RA : Option Addr) (Rc : Nat) (h : Int) (cm : Nat) (who at_ sw lf : Int) (s : Nat → Nat) (A : Option Addr) (c : Nat) (l : List Nat) (hc : cm < 18446744073709551616) (hw : in64 who) (ha : in64 at_) (hsw : in64 sw) (hlf : in64 lf) (hl : l.length ≤ 1000) (hs : ∀ k, k < 18 → s k < 18446744073709551616) (hb : ∀ x ∈ l, x < 18446744073709551616)
    (hRl : R.length ≤ 1000) (hRb : ∀ x ∈ R, x < 18446744073709551616) (w : World) (hS : Std w) (hrR : Rd w w.heap.size RA (u64L R)) (hrl : Rd w w.heap.size A (u64L l)) :
    Calls Tryz.prog 26 #[.agg (kyS f RA R.length Rc h), .agg (stC cm who at_ sw lf s (.slice A l.length c))] w fun e w' => e = .returned (.int .i64 (vaE f R h cm who at_ sw lf s l)) ∧ Grew w w' := by
  have hut := Tryz.underlying44
  have huf := Tryz.underlying33
  have HST : Hid ((Tryz.prog.info? 44).map (·.size) = some (stC cm who at_ sw lf s (.slice A l.length c)).toList.length) := Lib.hid st_info
  have HCF : Hid ((Tryz.prog.info? 33).map (·.size) = some [Value.int .i64 f].length) := Lib.hid (by kernel_rfl)
  have CN := Lib.hid (fun W => qn_ok f hf W)
  have CT := Lib.hid (fun W => isTime_ok at_ W)
  have zk := (Ag.new w 36 (kyS f RA R.length Rc h)).grew (grew_alloc (grew_refl _) (.cells (stC cm who at_ sw lf s (.slice A l.length c)) 44))
  have zs : Ag ((w.alloc (.cells (kyS f RA R.length Rc h) 36)).alloc (.cells (stC cm who at_ sw lf s (.slice A l.length c)) 44)) (w.heap.size + 1) (stC cm who at_ sw lf s (.slice A l.length c)).toList := by
    have := Ag.new (w.alloc (.cells (kyS f RA R.length Rc h) 36)) 44 (stC cm who at_ sw lf s (.slice A l.length c))
    simpa using this
  have G1 := grew_alloc (grew_alloc (grew_refl w) (.cells (kyS f RA R.length Rc h) 36)) (.cells (stC cm who at_ sw lf s (.slice A l.length c)) 44)
  have HS := Lib.hid hS
  have HR := Lib.hid hrR
  have HL := Lib.hid hrl
  have HRb := Lib.hid hRb
  have HB := Lib.hid hb
  have HSS := Lib.hid hs
  have h3f : (4 : Int) ≤ 3 * f + 1 ∧ 3 * f + 1 ≤ 10 := by omega
  have HF := Lib.hid hf
  clear hS hrR hrl hRb hb hs hf
  go_enter Tryz.func26, Tryz.ntmps26
  go_wp2_with fail
  generalize (w.alloc (.cells (kyS f RA R.length Rc h) 36)).alloc (.cells (stC cm who at_ sw lf s (.slice A l.length c)) 44) = w1 at *
  have m1 : ∀ y : Gr w1, y.val.cell? ⟨w.heap.size + 1, 1, none⟩ = some (.int .i64 who) := fun y => by simpa using (zs.gr y).cell 1 _ rfl
  have m2 : ∀ y : Gr w1, y.val.cell? ⟨w.heap.size + 1, 2, none⟩ = some (.int .i64 at_) := fun y => by simpa using (zs.gr y).cell 2 _ rfl
  have qf : Hid (∀ y : Gr w1, y.val.rangeAt w.heap.size 0 [.int .i64 f]) := Lib.hid (fun y j v hj => by
    have hj0 : j = 0 := by have := (List.getElem?_eq_some_iff.1 hj).1; simpa using this
    subst hj0
    have h0 : v = .int .i64 f := by simpa using hj.symm
    rw [h0]
    exact (zk.gr y).cell 0 _ rfl)
  obtain ⟨nn, hnn⟩ : ∃ nn, 3 * f + 1 = nn := ⟨_, rfl⟩
  rw [hnn] at CN h3f
  have HNN := Lib.hid hnn
  clear hnn
  by_cases hA : who < 0
  · have HE : Hid (vaE f R h cm who at_ sw lf s l = 1) := Lib.hid (by unfold vaE; rw [if_pos hA])
    refine wp_region_grew (grew_refl w1) (by kernel_rfl) (by kernel_rfl) ?_
    repeat (first
      | (go_big_quiet_want; refine quiet_load_mid 33 (.tmp 11) rfl w.heap.size 0 rfl [.int .i64 f] _ qf.out huf rfl HCF.out ?_; simp only [Act.put, List.setIfInBounds_toArray, List.set_cons_succ, List.set_cons_zero, Array.toArray_toList]; go_big_quiet_on)
      | (go_big_quiet_step (first
        | (go_at_call 72; exact callG (CN.out _))
        | (go_at_call 80; exact callS (CT.out _)))))
    refine wpQuiet_nil ?_
    rintro w8 ⟨⟨w8', g8⟩, rfl⟩
    have G8 := grew_trans G1 g8
    go_wp2_with fail
    go_ret
    exact ⟨by rw [HE.out]; rfl, G8⟩
  by_cases hB : nn ≤ who
  · have HE : Hid (vaE f R h cm who at_ sw lf s l = 1) := Lib.hid (by unfold vaE; rw [if_neg hA, HNN.out, if_pos hB])
    refine wp_region_grew (grew_refl w1) (by kernel_rfl) (by kernel_rfl) ?_
    repeat (first
      | (go_big_quiet_want; refine quiet_load_mid 33 (.tmp 11) rfl w.heap.size 0 rfl [.int .i64 f] _ qf.out huf rfl HCF.out ?_; simp only [Act.put, List.setIfInBounds_toArray, List.set_cons_succ, List.set_cons_zero, Array.toArray_toList]; go_big_quiet_on)
      | (go_big_quiet_step (first
        | (go_at_call 72; exact callG (CN.out _))
        | (go_at_call 80; exact callS (CT.out _)))))
    refine wpQuiet_nil ?_
    rintro w8 ⟨⟨w8', g8⟩, rfl⟩
    have G8 := grew_trans G1 g8
    go_wp2_with fail
    go_ret
    exact ⟨by rw [HE.out]; rfl, G8⟩
  have HE0 : Hid (vaE f R h cm who at_ sw lf s l = if tmB at_ = true then ckE R h who.toNat (stD cm who at_) sw lf s l else 1) := Lib.hid (by unfold vaE; rw [if_neg hA, HNN.out, if_neg hB])
  generalize tmB at_ = tb at *
  cases tb
  · have HE : Hid (vaE f R h cm who at_ sw lf s l = 1) := Lib.hid (by rw [HE0.out, if_neg (by simp)])
    clear HE0
    refine wp_region_grew (grew_refl w1) (by kernel_rfl) (by kernel_rfl) ?_
    repeat (first
      | (go_big_quiet_want; refine quiet_load_mid 33 (.tmp 11) rfl w.heap.size 0 rfl [.int .i64 f] _ qf.out huf rfl HCF.out ?_; simp only [Act.put, List.setIfInBounds_toArray, List.set_cons_succ, List.set_cons_zero, Array.toArray_toList]; go_big_quiet_on)
      | (go_big_quiet_step (first
        | (go_at_call 72; exact callG (CN.out _))
        | (go_at_call 80; exact callS (CT.out _)))))
    refine wpQuiet_nil ?_
    rintro w8 ⟨⟨w8', g8⟩, rfl⟩
    have G8 := grew_trans G1 g8
    go_wp2_with fail
    go_ret
    exact ⟨by rw [HE.out]; rfl, G8⟩
  have HE : Hid (vaE f R h cm who at_ sw lf s l = ckE R h who.toNat (stD cm who at_) sw lf s l) := Lib.hid (by rw [HE0.out, if_pos rfl])
  clear HE0
  obtain ⟨n, rfl⟩ := Int.eq_ofNat_of_zero_le (show 0 ≤ who by omega)
  rw [Int.toNat_natCast] at HE
  refine wp_region_grew (grew_refl w1) (by kernel_rfl) (by kernel_rfl) ?_
  repeat (first
    | (go_big_quiet_want; refine quiet_load_mid 33 (.tmp 11) rfl w.heap.size 0 rfl [.int .i64 f] _ qf.out huf rfl HCF.out ?_; simp only [Act.put, List.setIfInBounds_toArray, List.set_cons_succ, List.set_cons_zero, Array.toArray_toList]; go_big_quiet_on)
    | (go_big_quiet_step (first
      | (go_at_call 72; exact callG (CN.out _))
      | (go_at_call 80; exact callS (CT.out _)))))
  refine wpQuiet_nil ?_
  rintro w8 ⟨⟨w8', g8⟩, rfl⟩
  have G8 := grew_trans G1 g8
  have zk8 := zk.grew g8
  have zs8 := zs.grew g8
  have hk1 : w8.cell? ⟨w.heap.size, 1, none⟩ = some (.slice RA R.length Rc) := by simpa using zk8.cell 1 _ rfl
  have hk2 : w8.cell? ⟨w.heap.size, 2, none⟩ = some (.int .i64 h) := by simpa using zk8.cell 2 _ rfl
  have hm := zs8.cell
  have hsz : (stC cm (n : Int) at_ sw lf s (.slice A l.length c)).size = 24 := rfl
  clear m1 m2 qf
  go_wp2_with (with_reducible refine wpList_load_mid rfl 44 (.tmp 3) rfl (w.heap.size + 1) 0 rfl (stC cm (n : Int) at_ sw lf s (.slice A l.length c)).toList _ hm hut rfl HST.out ?_; simp only [Array.toArray_toList])
  rw [st_fold]
  have GA := grew_alloc (grew_refl w8) (.cells (stC cm (n : Int) at_ sw lf s (.slice A l.length c)) 44)
  have zq := Ag.new w8 44 (stC cm (n : Int) at_ sw lf s (.slice A l.length c))
  have G9 := grew_trans G8 GA
  refine (scheck_ok R RA Rc h cm n at_ sw lf s A c l hc hw ha hsw hlf hl HSS.out HB.out hRl HRb.out w8.heap.size _ (HS.out.grew G9) (HR.out.gr G9) (HL.out.gr G9) zq.cell zq.lt).mono ?_
  rintro e w9 ⟨rfl, gg⟩
  go_wp2_with fail
  go_ret
  exact ⟨by rw [HE.out]; rfl, grew_trans G9 gg⟩
set_option maxRecDepth 100000 in
set_option maxHeartbeats 2000000 in
theorem stkeys_ok (f : Int) (R : List Nat) (RA : Option Addr) (Rc : Nat) (h : Int) (hRl : R.length ≤ 1000) (w : World) :
    Calls Tryz.prog 19 #[.agg (kyS f RA R.length Rc h)] w fun e w' => e = .returned (.int .i64 (cyE f R.length h)) ∧ Grew w w' := by
  have huf := Tryz.underlying33
  have HCF : Hid ((Tryz.prog.info? 33).map (·.size) = some [Value.int .i64 f].length) := Lib.hid (by kernel_rfl)
  have CC := Lib.hid (fun W => qcheck_ok f W)
  have zk := Ag.new w 36 (kyS f RA R.length Rc h)
  have G1 := grew_alloc (grew_refl w) (.cells (kyS f RA R.length Rc h) 36)
  have hm0 : (w.alloc (.cells (kyS f RA R.length Rc h) 36)).rangeAt w.heap.size 0 [.int .i64 f] := fun j v hj => by
    have hj0 : j = 0 := by have := (List.getElem?_eq_some_iff.1 hj).1; simpa using this
    subst hj0
    have h0 : v = .int .i64 f := by simpa using hj.symm
    rw [h0]
    exact zk.cell 0 _ rfl
  by_cases hbad : f < 1 ∨ 3 < f
  · have HE : Hid (cyE f R.length h = 1) := Lib.hid (by unfold cyE; rw [if_pos hbad])
    rw [if_pos hbad] at CC
    clear hbad zk
    go_enter Tryz.func19, Tryz.ntmps19
    go_wp2_with (with_reducible refine wpList_load_mid rfl 33 (.tmp 4) rfl w.heap.size 0 rfl [.int .i64 f] _ hm0 huf rfl HCF.out ?_)
    refine (CC.out _).mono ?_
    rintro e w2 ⟨rfl, gg⟩
    go_wp2_with fail
    go_ret
    exact ⟨by rw [HE.out]; rfl, grew_trans G1 gg⟩
  rw [if_neg hbad] at CC
  have CN := Lib.hid (fun W => qn_ok f (by omega) W)
  have hf : 1 ≤ f ∧ f ≤ 3 := by omega
  go_enter Tryz.func19, Tryz.ntmps19
  go_wp2_with (with_reducible refine wpList_load_mid rfl 33 (.tmp 4) rfl w.heap.size 0 rfl [.int .i64 f] _ hm0 huf rfl HCF.out ?_)
  refine (CC.out _).mono ?_
  rintro e w1 ⟨rfl, gg⟩
  have zk1 := zk.grew gg
  have G0 := grew_trans G1 gg
  clear G1 zk gg hm0 CC
  have G1 := G0
  clear G0
  go_wp2_with fail
  have HD : Hid (cyE f R.length h = if (R.length : Int) = 3 * f + 1 ∧ 0 ≤ h ∧ h ≤ 8 then 0 else 1) := Lib.hid (by unfold cyE; rw [if_neg hbad])
  have m1 : ∀ y : Gr w1, y.val.cell? ⟨w.heap.size, 1, none⟩ = some (.slice RA R.length Rc) := fun y => by simpa using (zk1.gr y).cell 1 _ rfl
  have m2 : ∀ y : Gr w1, y.val.cell? ⟨w.heap.size, 2, none⟩ = some (.int .i64 h) := fun y => by simpa using (zk1.gr y).cell 2 _ rfl
  have qf : Hid (∀ y : Gr w1, y.val.rangeAt w.heap.size 0 [.int .i64 f]) := Lib.hid (fun y j v hj => by
    have hj0 : j = 0 := by have := (List.getElem?_eq_some_iff.1 hj).1; simpa using this
    subst hj0
    have h0 : v = .int .i64 f := by simpa using hj.symm
    rw [h0]
    exact (zk1.gr y).cell 0 _ rfl)
  have CT : Hid (∀ W : World, Calls Tryz.prog 80 #[.int .i64 1] W fun e w' => e = .returned (.bool (tmB 1)) ∧ W = w') := Lib.hid (fun W => isTime_ok 1 W)
  obtain ⟨nn, hnn⟩ : ∃ nn, 3 * f + 1 = nn := ⟨_, rfl⟩
  rw [hnn] at CN HD
  clear hnn hbad hf zk1
  by_cases hA : (R.length : Int) = nn
  · have e1 : ((R.length : Int) != nn) = false := by simp [hA]
    by_cases hB : h < 0
    · have HE : Hid (cyE f R.length h = 1) := Lib.hid (by rw [HD.out, if_neg (by omega)])
      clear hA HD
      refine wp_region_grew (grew_refl w1) (by kernel_rfl) (by kernel_rfl) ?_
      repeat (first
        | (go_big_quiet_want; refine quiet_load_mid 33 (.tmp 13) rfl w.heap.size 0 rfl [.int .i64 f] _ qf.out huf rfl HCF.out ?_; simp only [Act.put, List.setIfInBounds_toArray, List.set_cons_succ, List.set_cons_zero, Array.toArray_toList]; go_big_quiet_on)
        | (go_big_quiet_step (first
          | (go_at_call 72; exact callG (CN.out _))
          | (go_at_call 80; exact callS (CT.out _)))))
      refine wpQuiet_nil ?_
      rintro w8 ⟨⟨w8', g8⟩, rfl⟩
      have G8 := grew_trans G1 g8
      go_wp2_with fail
      go_ret
      exact ⟨by rw [HE.out]; rfl, G8⟩
    by_cases hC : 8 < h
    · have HE : Hid (cyE f R.length h = 1) := Lib.hid (by rw [HD.out, if_neg (by omega)])
      clear hA HD
      refine wp_region_grew (grew_refl w1) (by kernel_rfl) (by kernel_rfl) ?_
      repeat (first
        | (go_big_quiet_want; refine quiet_load_mid 33 (.tmp 13) rfl w.heap.size 0 rfl [.int .i64 f] _ qf.out huf rfl HCF.out ?_; simp only [Act.put, List.setIfInBounds_toArray, List.set_cons_succ, List.set_cons_zero, Array.toArray_toList]; go_big_quiet_on)
        | (go_big_quiet_step (first
          | (go_at_call 72; exact callG (CN.out _))
          | (go_at_call 80; exact callS (CT.out _)))))
      refine wpQuiet_nil ?_
      rintro w8 ⟨⟨w8', g8⟩, rfl⟩
      have G8 := grew_trans G1 g8
      go_wp2_with fail
      go_ret
      exact ⟨by rw [HE.out]; rfl, G8⟩
    have HE : Hid (cyE f R.length h = 0) := Lib.hid (by rw [HD.out, if_pos ⟨hA, by omega, by omega⟩])
    clear hA HD
    refine wp_region_grew (grew_refl w1) (by kernel_rfl) (by kernel_rfl) ?_
    repeat (first
      | (go_big_quiet_want; refine quiet_load_mid 33 (.tmp 13) rfl w.heap.size 0 rfl [.int .i64 f] _ qf.out huf rfl HCF.out ?_; simp only [Act.put, List.setIfInBounds_toArray, List.set_cons_succ, List.set_cons_zero, Array.toArray_toList]; go_big_quiet_on)
      | (go_big_quiet_step (first
        | (go_at_call 72; exact callG (CN.out _))
        | (go_at_call 80; exact callS (CT.out _)))))
    refine wpQuiet_nil ?_
    rintro w8 ⟨⟨w8', g8⟩, rfl⟩
    have G8 := grew_trans G1 g8
    go_wp2_with fail
    go_ret
    exact ⟨by rw [HE.out]; rfl, G8⟩
  · have e1 : ((R.length : Int) != nn) = true := by simp [hA]
    have HE : Hid (cyE f R.length h = 1) := Lib.hid (by rw [HD.out, if_neg (fun h => hA h.1)])
    clear hA HD
    refine wp_region_grew (grew_refl w1) (by kernel_rfl) (by kernel_rfl) ?_
    repeat (first
      | (go_big_quiet_want; refine quiet_load_mid 33 (.tmp 13) rfl w.heap.size 0 rfl [.int .i64 f] _ qf.out huf rfl HCF.out ?_; simp only [Act.put, List.setIfInBounds_toArray, List.set_cons_succ, List.set_cons_zero, Array.toArray_toList]; go_big_quiet_on)
      | (go_big_quiet_step (first
        | (go_at_call 72; exact callG (CN.out _))
        | (go_at_call 80; exact callS (CT.out _)))))
    refine wpQuiet_nil ?_
    rintro w8 ⟨⟨w8', g8⟩, rfl⟩
    have G8 := grew_trans G1 g8
    go_wp2_with fail
    go_ret
    exact ⟨by rw [HE.out]; rfl, G8⟩

end Go.Proofs.YtaeopobofmpioaaGreatDoor

namespace Go.Proofs.YtaeopobofmpioaaGreatDoor
set_option linter.unusedSimpArgs false
set_option linter.unusedVariables false
open Go.RowKit
set_option linter.unusedVariables false
set_option linter.unusedSimpArgs false
set_option maxRecDepth 100000 in
theorem st_zero : Tryz.prog.built 44 [] = some (#[.int .u64 0, .int .i64 0, .int .i64 0, .int .i64 0, .int .i64 0, .int .u64 0, .int .u64 0, .int .u64 0, .int .u64 0, .int .u64 0, .int .u64 0, .int .u64 0, .int .u64 0, .int .u64 0, .int .u64 0, .int .u64 0, .int .u64 0, .int .u64 0, .int .u64 0, .int .u64 0, .int .u64 0, .int .u64 0, .int .u64 0, .slice none 0 0]) := by kernel_rfl
set_option maxRecDepth 100000 in
set_option maxHeartbeats 600000 in
theorem stmake_no (v : Value) (cm : Nat) (who at_ : Int) (ht : tmB at_ = false) (w : World) :
    Calls Tryz.prog 34 #[v, .int .i64 who, .int .u64 (cm : Nat), .int .i64 at_] w fun e w' => e = .returned (.tuple #[.agg (#[.int .u64 0, .int .i64 0, .int .i64 0, .int .i64 0, .int .i64 0, .int .u64 0, .int .u64 0, .int .u64 0, .int .u64 0, .int .u64 0, .int .u64 0, .int .u64 0, .int .u64 0, .int .u64 0, .int .u64 0, .int .u64 0, .int .u64 0, .int .u64 0, .int .u64 0, .int .u64 0, .int .u64 0, .int .u64 0, .int .u64 0, .slice none 0 0]), .int .i64 1]) ∧ Grew w w' := by
  have z0 := Ag.new w 44 (#[.int .u64 0, .int .i64 0, .int .i64 0, .int .i64 0, .int .i64 0, .int .u64 0, .int .u64 0, .int .u64 0, .int .u64 0, .int .u64 0, .int .u64 0, .int .u64 0, .int .u64 0, .int .u64 0, .int .u64 0, .int .u64 0, .int .u64 0, .int .u64 0, .int .u64 0, .int .u64 0, .int .u64 0, .int .u64 0, .int .u64 0, .slice none 0 0])
  have g0 := grew_alloc (grew_refl w) (.cells (#[.int .u64 0, .int .i64 0, .int .i64 0, .int .i64 0, .int .i64 0, .int .u64 0, .int .u64 0, .int .u64 0, .int .u64 0, .int .u64 0, .int .u64 0, .int .u64 0, .int .u64 0, .int .u64 0, .int .u64 0, .int .u64 0, .int .u64 0, .int .u64 0, .int .u64 0, .int .u64 0, .int .u64 0, .int .u64 0, .int .u64 0, .slice none 0 0]) 44)
  have hut := Tryz.underlying44
  have bz : ∀ W, (Instr.build 44 #[]).run Tryz.prog W = .ok (.agg (#[.int .u64 0, .int .i64 0, .int .i64 0, .int .i64 0, .int .i64 0, .int .u64 0, .int .u64 0, .int .u64 0, .int .u64 0, .int .u64 0, .int .u64 0, .int .u64 0, .int .u64 0, .int .u64 0, .int .u64 0, .int .u64 0, .int .u64 0, .int .u64 0, .int .u64 0, .int .u64 0, .int .u64 0, .int .u64 0, .int .u64 0, .slice none 0 0])) W := fun W => run_build W 44 #[] _ st_zero
  have CT := Lib.hid (fun W => isTime_ok at_ W)
  rw [ht] at CT
  clear ht
  have HTH : Hid ((w.alloc (.cells (#[.int .u64 0, .int .i64 0, .int .i64 0, .int .i64 0, .int .i64 0, .int .u64 0, .int .u64 0, .int .u64 0, .int .u64 0, .int .u64 0, .int .u64 0, .int .u64 0, .int .u64 0, .int .u64 0, .int .u64 0, .int .u64 0, .int .u64 0, .int .u64 0, .int .u64 0, .int .u64 0, .int .u64 0, .int .u64 0, .int .u64 0, .slice none 0 0]) 44)).there w.heap.size 0 (#[.int .u64 0, .int .i64 0, .int .i64 0, .int .i64 0, .int .i64 0, .int .u64 0, .int .u64 0, .int .u64 0, .int .u64 0, .int .u64 0, .int .u64 0, .int .u64 0, .int .u64 0, .int .u64 0, .int .u64 0, .int .u64 0, .int .u64 0, .int .u64 0, .int .u64 0, .int .u64 0, .int .u64 0, .int .u64 0, .int .u64 0, .slice none 0 0] : Array Value).size) := Lib.hid (z0.thereN 24 rfl)
  have HSZ : Hid ((Tryz.prog.info? 44).map (·.size) = some (#[.int .u64 0, .int .i64 0, .int .i64 0, .int .i64 0, .int .i64 0, .int .u64 0, .int .u64 0, .int .u64 0, .int .u64 0, .int .u64 0, .int .u64 0, .int .u64 0, .int .u64 0, .int .u64 0, .int .u64 0, .int .u64 0, .int .u64 0, .int .u64 0, .int .u64 0, .int .u64 0, .int .u64 0, .int .u64 0, .int .u64 0, .slice none 0 0] : Array Value).size) := Lib.hid st_info
  have HOZ : Hid ((#[.int .u64 0, .int .i64 0, .int .i64 0, .int .i64 0, .int .i64 0, .int .u64 0, .int .u64 0, .int .u64 0, .int .u64 0, .int .u64 0, .int .u64 0, .int .u64 0, .int .u64 0, .int .u64 0, .int .u64 0, .int .u64 0, .int .u64 0, .int .u64 0, .int .u64 0, .int .u64 0, .int .u64 0, .int .u64 0, .int .u64 0, .slice none 0 0] : Array Value).all (·.oneCell') = true) := Lib.hid (by simp [Value.oneCell'])
  have z1 := Ag.set (vs := (#[.int .u64 0, .int .i64 0, .int .i64 0, .int .i64 0, .int .i64 0, .int .u64 0, .int .u64 0, .int .u64 0, .int .u64 0, .int .u64 0, .int .u64 0, .int .u64 0, .int .u64 0, .int .u64 0, .int .u64 0, .int .u64 0, .int .u64 0, .int .u64 0, .int .u64 0, .int .u64 0, .int .u64 0, .int .u64 0, .int .u64 0, .slice none 0 0] : Array Value).toList) z0 rfl
  have g1 := setCells_grew (o := 0) (b := w.heap.size) (#[.int .u64 0, .int .i64 0, .int .i64 0, .int .i64 0, .int .i64 0, .int .u64 0, .int .u64 0, .int .u64 0, .int .u64 0, .int .u64 0, .int .u64 0, .int .u64 0, .int .u64 0, .int .u64 0, .int .u64 0, .int .u64 0, .int .u64 0, .int .u64 0, .int .u64 0, .int .u64 0, .int .u64 0, .int .u64 0, .int .u64 0, .slice none 0 0] : Array Value).toList g0 (Nat.le_refl _)
  go_enter Tryz.func34, Tryz.ntmps34
  go_wp2_with (first
    | (go_at_call 80; refine (CT.out _).mono ?_; rintro e w1 ⟨rfl, rfl⟩)
    | (with_reducible refine wpList_store_mid rfl 44 (.tmp 8) (.tmp 15) rfl w.heap.size 0 (#[.int .u64 0, .int .i64 0, .int .i64 0, .int .i64 0, .int .i64 0, .int .u64 0, .int .u64 0, .int .u64 0, .int .u64 0, .int .u64 0, .int .u64 0, .int .u64 0, .int .u64 0, .int .u64 0, .int .u64 0, .int .u64 0, .int .u64 0, .int .u64 0, .int .u64 0, .int .u64 0, .int .u64 0, .int .u64 0, .int .u64 0, .slice none 0 0]) rfl rfl HTH.out HSZ.out HOZ.out ?_))
  exact bodyPost_ret (results_ag2 Tryz.results34 _ _ w.heap.size _ _ _ rfl rfl z1 hut rfl st_info) rfl ⟨rfl, g1⟩
set_option maxRecDepth 100000 in
set_option maxHeartbeats 600000 in
theorem stmake_ok (b p : Nat) (kw sd : Int) (l : List Nat) (nx rs : Nat) (hl : l.length ≤ 256) (hn : nx ≤ l.length) (hr : rs ≤ l.length) (hkk : leavesOk l.length = true) (hbb : ∀ n ∈ l, n < 18446744073709551616) (hsd : U64 sd) (hpp : ∀ m, m < l.length → (pathN l m).length ≤ 8) (cm : Nat) (hc : cm < 18446744073709551616) (who at_ : Int) (hw : in64 who) (ha : in64 at_) (ht : tmB at_ = true) (he1 : nx < l.length) (he2 : nx < rs) (w : World) (hS : Std w) (h : KyAt w b p kw sd l nx rs) :
    Calls Tryz.prog 34 #[.pointer (some ⟨b, 0, none⟩), .int .i64 who, .int .u64 (cm : Nat), .int .i64 at_] w fun e w' => (∃ A c, e = .returned (.tuple #[.agg (stC cm who at_ kw (nx : Int) (signF (secN sd (nx : Int)) (stD cm who at_)) (.slice A (pathN l nx).length c)), .int .i64 0]) ∧ Rd w' w'.heap.size A (u64L (pathN l nx)) ∧ (∀ ad, A = some ad → w.heap.size ≤ ad.block)) ∧ Tn b w w' ∧ KyAt w' b p kw sd l (nx + 1) rs := by
  have z0 := Ag.new w 44 (#[.int .u64 0, .int .i64 0, .int .i64 0, .int .i64 0, .int .i64 0, .int .u64 0, .int .u64 0, .int .u64 0, .int .u64 0, .int .u64 0, .int .u64 0, .int .u64 0, .int .u64 0, .int .u64 0, .int .u64 0, .int .u64 0, .int .u64 0, .int .u64 0, .int .u64 0, .int .u64 0, .int .u64 0, .int .u64 0, .int .u64 0, .slice none 0 0])
  have g0 := grew_alloc (grew_refl w) (.cells (#[.int .u64 0, .int .i64 0, .int .i64 0, .int .i64 0, .int .i64 0, .int .u64 0, .int .u64 0, .int .u64 0, .int .u64 0, .int .u64 0, .int .u64 0, .int .u64 0, .int .u64 0, .int .u64 0, .int .u64 0, .int .u64 0, .int .u64 0, .int .u64 0, .int .u64 0, .int .u64 0, .int .u64 0, .int .u64 0, .int .u64 0, .slice none 0 0]) 44)
  have hut := Tryz.underlying44
  have hus := Tryz.underlying42
  have bz : ∀ W, (Instr.build 44 #[]).run Tryz.prog W = .ok (.agg (#[.int .u64 0, .int .i64 0, .int .i64 0, .int .i64 0, .int .i64 0, .int .u64 0, .int .u64 0, .int .u64 0, .int .u64 0, .int .u64 0, .int .u64 0, .int .u64 0, .int .u64 0, .int .u64 0, .int .u64 0, .int .u64 0, .int .u64 0, .int .u64 0, .int .u64 0, .int .u64 0, .int .u64 0, .int .u64 0, .int .u64 0, .slice none 0 0])) W := fun W => run_build W 44 #[] _ st_zero
  have CT := Lib.hid (fun W => isTime_ok at_ W)
  rw [ht] at CT
  have CD := Lib.hid (fun W hW => stdigest_ok cm who at_ hc hw ha W hW)
  have hdl := stD_lt cm who at_
  have CS := Lib.hid (fun W hW => ksign_any b p kw sd l nx rs hl hn hr (stD cm who at_ : Nat) hkk hbb hsd ⟨by omega, by omega⟩ W hW)
  have hpl8 := soP_len l nx rs hpp
  obtain ⟨d, hd⟩ : ∃ d, stD cm who at_ = d := ⟨_, rfl⟩
  rw [hd] at CD
  simp only [hd] at CS
  obtain ⟨a1, ha1⟩ : ∃ v, soW l nx rs kw = v := ⟨_, rfl⟩
  obtain ⟨a2, ha2⟩ : ∃ v, soL l nx rs = v := ⟨_, rfl⟩
  obtain ⟨s, hs⟩ : ∃ v, soS l nx rs sd (d : Int) = v := ⟨_, rfl⟩
  obtain ⟨pl, hp1⟩ : ∃ v, soP l nx rs = v := ⟨_, rfl⟩
  obtain ⟨er, he1⟩ : ∃ v, soE l nx rs = v := ⟨_, rfl⟩
  obtain ⟨n2, hn2⟩ : ∃ v, soN l nx rs = v := ⟨_, rfl⟩
  simp only [ha1, ha2, hs, hp1, he1, hn2] at CS
  rw [hp1] at hpl8
  have hkey : soW l nx rs kw = kw ∧ soL l nx rs = (nx : Int) ∧ soS l nx rs sd (d : Int) = signF (secN sd (nx : Int)) d ∧ soP l nx rs = pathN l nx ∧ soE l nx rs = 0 ∧ soN l nx rs = nx + 1 := by
    have q1 : ¬ l.length ≤ nx := by omega
    have q2 : ¬ rs ≤ nx := by omega
    unfold soW soL soS soP soE soN
    simp only [if_neg q1, if_neg q2, Int.toNat_natCast, and_self]
  have HA1 : Hid (kw = a1) := Lib.hid (hkey.1.symm.trans ha1)
  have HA2 : Hid ((nx : Int) = a2) := Lib.hid (hkey.2.1.symm.trans ha2)
  have HSS : Hid (signF (secN sd (nx : Int)) d = s) := Lib.hid (hkey.2.2.1.symm.trans hs)
  have HP1 : Hid (pathN l nx = pl) := Lib.hid (hkey.2.2.2.1.symm.trans hp1)
  have hne : (er != 0) = false := by rw [← he1, hkey.2.2.2.2.1]; rfl
  have HER : Hid (er = 0) := Lib.hid (he1.symm.trans hkey.2.2.2.2.1)
  have HN2 : Hid (nx + 1 = n2) := Lib.hid (hkey.2.2.2.2.2.symm.trans hn2)
  have HDD := Lib.hid hd
  have HPW : Hid (p < w.heap.size) := Lib.hid h.pub.lt
  clear ha1 ha2 hs hp1 he1 hn2 hkey
  have hbw : b < w.heap.size := h.key.lt
  have HS := Lib.hid hS
  have K1 := h.grew g0
  clear hS h ht hkk hbb hsd hpp hd hdl hc hw ha
  obtain ⟨w1, hw1⟩ : ∃ v, w.alloc (.cells (#[.int .u64 0, .int .i64 0, .int .i64 0, .int .i64 0, .int .i64 0, .int .u64 0, .int .u64 0, .int .u64 0, .int .u64 0, .int .u64 0, .int .u64 0, .int .u64 0, .int .u64 0, .int .u64 0, .int .u64 0, .int .u64 0, .int .u64 0, .int .u64 0, .int .u64 0, .int .u64 0, .int .u64 0, .int .u64 0, .int .u64 0, .slice none 0 0]) 44) = v := ⟨_, rfl⟩
  rw [hw1] at z0 g0 K1
  have HW1 := Lib.hid hw1
  clear hw1
  go_enter Tryz.func34, Tryz.ntmps34
  go_wp2_with (go_at_call 80; rw [HW1.out]; refine (CT.out _).mono ?_; rintro e v1 ⟨rfl, rfl⟩)
  refine (CD.out w1 (HS.out.grew g0)).mono ?_
  rintro e w2 ⟨rfl, gg⟩
  have z2 := z0.grew gg
  have K2 := K1.grew gg
  have G2 := grew_trans g0 gg
  clear z0 K1 g0 gg
  go_wp2_with fail
  refine (CS.out w2 K2).mono ?_
  rintro e w3 ⟨⟨A, c, rfl, r3, hA⟩, t3, K3⟩
  have z3 := z2.kp (kp_tn t3) (show ¬ w.heap.size = b by omega)
  have T3 : Tn b w w3 := tn_kp (tn_grew G2) (kp_tn t3) (fun i e => .inl e)
  have hz3 := z2.lt
  have hfr : ∀ ad, A = some ad → w.heap.size < ad.block := fun ad e => by have := hA ad e; omega
  have HFR := Lib.hid hfr
  have HG2 := Lib.hid G2.size
  clear K2 G2 t3 hA z2 hfr
  have HSI1 : Hid ((Tryz.prog.info? 42).map (·.size) = some (sgC a1 a2 s (.slice A pl.length c)).size) := Lib.hid sg_info
  have HSL1 : Hid ((Tryz.prog.info? 42).map (·.size) = some (sgC a1 a2 s (.slice A pl.length c)).toList.length) := Lib.hid sg_info
  have HON1 := Lib.hid (sgC_one a1 a2 s A pl.length c)
  have HBU := Lib.hid (st_built cm who at_ a1 a2 s A pl.length c)
  have zt := Ag.new w3 42 (#[.int .i64 0, .int .i64 0, .int .u64 0, .int .u64 0, .int .u64 0, .int .u64 0, .int .u64 0, .int .u64 0, .int .u64 0, .int .u64 0, .int .u64 0, .int .u64 0, .int .u64 0, .int .u64 0, .int .u64 0, .int .u64 0, .int .u64 0, .int .u64 0, .int .u64 0, .int .u64 0, .slice none 0 0])
  have HTH : Hid ((w3.alloc (.cells (#[.int .i64 0, .int .i64 0, .int .u64 0, .int .u64 0, .int .u64 0, .int .u64 0, .int .u64 0, .int .u64 0, .int .u64 0, .int .u64 0, .int .u64 0, .int .u64 0, .int .u64 0, .int .u64 0, .int .u64 0, .int .u64 0, .int .u64 0, .int .u64 0, .int .u64 0, .int .u64 0, .slice none 0 0]) 42)).there w3.heap.size 0 (sgC a1 a2 s (.slice A pl.length c)).size) := Lib.hid (zt.thereN 21 rfl)
  have z4 := Ag.set (vs := (sgC a1 a2 s (.slice A pl.length c)).toList) zt rfl
  have g5 : Grew w3 ((w3.alloc (.cells (#[.int .i64 0, .int .i64 0, .int .u64 0, .int .u64 0, .int .u64 0, .int .u64 0, .int .u64 0, .int .u64 0, .int .u64 0, .int .u64 0, .int .u64 0, .int .u64 0, .int .u64 0, .int .u64 0, .int .u64 0, .int .u64 0, .int .u64 0, .int .u64 0, .int .u64 0, .int .u64 0, .slice none 0 0]) 42)).setCells w3.heap.size 0 (sgC a1 a2 s (.slice A pl.length c)).toList) := setCells_grew (o := 0) (b := w3.heap.size) (sgC a1 a2 s (.slice A pl.length c)).toList (grew_alloc (grew_refl w3) _) (Nat.le_refl _)
  have K5 := K3.grew g5
  have r5 := r3.gr g5
  have z5 := z3.grew g5
  have T5 : Tn b w ((w3.alloc (.cells (#[.int .i64 0, .int .i64 0, .int .u64 0, .int .u64 0, .int .u64 0, .int .u64 0, .int .u64 0, .int .u64 0, .int .u64 0, .int .u64 0, .int .u64 0, .int .u64 0, .int .u64 0, .int .u64 0, .int .u64 0, .int .u64 0, .int .u64 0, .int .u64 0, .int .u64 0, .int .u64 0, .slice none 0 0]) 42)).setCells w3.heap.size 0 (sgC a1 a2 s (.slice A pl.length c)).toList) := tn_kp T3 (kp_grew (S := fun _ => False) g5) (fun i e => e.elim)
  have hz5 := z5.lt
  have hz3' := z3.lt
  obtain ⟨g1, hg1⟩ : ∃ g, sgC a1 a2 s (.slice A pl.length c) = g := ⟨_, rfl⟩
  rw [hg1] at HSI1 HSL1 HON1 HTH HBU z4 K5 r5 z5 T5 hz5 ⊢
  obtain ⟨w5, hw5⟩ : ∃ v, (w3.alloc (.cells (#[.int .i64 0, .int .i64 0, .int .u64 0, .int .u64 0, .int .u64 0, .int .u64 0, .int .u64 0, .int .u64 0, .int .u64 0, .int .u64 0, .int .u64 0, .int .u64 0, .int .u64 0, .int .u64 0, .int .u64 0, .int .u64 0, .int .u64 0, .int .u64 0, .int .u64 0, .int .u64 0, .slice none 0 0]) 42)).setCells w3.heap.size 0 g1.toList = v := ⟨_, rfl⟩
  rw [hw5] at z4 K5 r5 z5 T5 hz5
  have HW5 := Lib.hid hw5
  clear hw5 hg1 zt g5 K3 r3 z3 T3
  have HTZ : Hid (w5.there w.heap.size 0 (stC cm who at_ a1 a2 s (.slice A pl.length c)).size) := Lib.hid (z5.thereN 24 rfl)
  have HOZ := Lib.hid (stC_one cm who at_ a1 a2 s A pl.length c)
  have HSZ : Hid ((Tryz.prog.info? 44).map (·.size) = some (stC cm who at_ a1 a2 s (.slice A pl.length c)).size) := Lib.hid st_info
  have HSZL : Hid ((Tryz.prog.info? 44).map (·.size) = some (stC cm who at_ a1 a2 s (.slice A pl.length c)).toList.length) := Lib.hid st_info
  have z6 := Ag.set (vs := (stC cm who at_ a1 a2 s (.slice A pl.length c)).toList) z5 rfl
  have K6 := setCells_kp (stC cm who at_ a1 a2 s (.slice A pl.length c)).toList w.heap.size 0 w5
  have KK := K5.kp K6 (by show ¬ b = w.heap.size; omega) (by show ¬ p = w.heap.size; have := HPW.out; omega)
  have TT : Tn b w (w5.setCells w.heap.size 0 (stC cm who at_ a1 a2 s (.slice A pl.length c)).toList) := tn_kp T5 K6 (fun i (e : i = w.heap.size) => .inr (by omega))
  have RR := (r5.kp K6 (Nat.le_refl _) (fun ad e1 _ (e3 : ad.block = w.heap.size) => by have := HFR.out ad e1; omega)).more K6.size
  have hm4 := z4.cell
  obtain ⟨g2, hg2⟩ : ∃ g, stC cm who at_ a1 a2 s (.slice A pl.length c) = g := ⟨_, rfl⟩
  have HG2' := Lib.hid hg2
  rw [hg2] at HTZ HOZ HSZ HSZL HBU z6 KK TT RR
  have bz2 : ∀ W, (Instr.build 44 #[(0, .int .u64 (cm : Nat)), (1, .int .i64 who), (2, .int .i64 at_), (3, .agg g1)]).run Tryz.prog W = .ok (.agg g2) W := fun W => run_build W 44 _ _ HBU.out
  clear z5 K5 r5 T5 K6 hg2
  go_wp2_with (first
    | (with_reducible refine wpList_store_mid rfl 42 (.tmp 10) (.tmp 23) rfl w3.heap.size 0 g1 rfl rfl HTH.out HSI1.out HON1.out ?_; rw [HW5.out]; clear HW5 HTH)
    | (with_reducible refine wpList_load_mid rfl 42 (.tmp 10) rfl w3.heap.size 0 rfl g1.toList _ hm4 hus rfl HSL1.out ?_; simp only [Array.toArray_toList])
    | (with_reducible refine wpList_build_is rfl 44 #[(0, .tmp 29), (1, .tmp 30), (2, .tmp 31), (3, .tmp 32)] rfl g2 ?_ ?_; · simpa [Act.eval, Act.put] using HBU.out)
    | (with_reducible refine wpList_store_mid rfl 44 (.tmp 8) (.tmp 33) rfl w.heap.size 0 g2 rfl rfl HTZ.out HSZ.out HOZ.out ?_))
  exact bodyPost_ret (results_ag2 Tryz.results34 _ _ w.heap.size _ _ _ rfl rfl z6 hut rfl HSZL.out) rfl ⟨⟨A, c, by show Ending.returned (.tuple #[.agg g2.toList.toArray, .int .i64 0]) = _; rw [Array.toArray_toList, ← HG2'.out, HDD.out, HSS.out, HP1.out, HA2.out, HA1.out], by rw [HP1.out]; exact RR, fun ad e => by have := HFR.out ad e; omega⟩, TT, by rw [HN2.out]; exact KK⟩
set_option maxRecDepth 100000 in
set_option maxHeartbeats 600000 in
theorem stsame_eq (cm : Nat) (who at_ sw lf : Int) (s : Nat → Nat) (A A' : Option Addr) (c c' : Nat) (l : List Nat) (hl : l.length ≤ 1048576) (w : World) (hr : Rd w w.heap.size A (u64L l)) (hr' : Rd w w.heap.size A' (u64L l)) :
    Calls Tryz.prog 32 #[.agg (stC cm who at_ sw lf s (.slice A l.length c)), .agg (stC cm who at_ sw lf s (.slice A' l.length c'))] w fun e w' => e = .returned (.bool true) ∧ Grew w w' := by
  have z1 := (Ag.new w 44 (stC cm who at_ sw lf s (.slice A l.length c))).grew (grew_alloc (grew_refl _) (.cells (stC cm who at_ sw lf s (.slice A' l.length c')) 44))
  have z2 := Ag.new (w.alloc (.cells (stC cm who at_ sw lf s (.slice A l.length c)) 44)) 44 (stC cm who at_ sw lf s (.slice A' l.length c'))
  rw [alloc_size] at z2
  have G0 := grew_alloc (grew_alloc (grew_refl w) (.cells (stC cm who at_ sw lf s (.slice A l.length c)) 44)) (.cells (stC cm who at_ sw lf s (.slice A' l.length c')) 44)
  have r1 := hr.gr G0
  have r2 := hr'.gr G0
  have hus := Tryz.underlying42
  have HSL1 : Hid ((Tryz.prog.info? 42).map (·.size) = some (sgC sw lf s (.slice A l.length c)).toList.length) := Lib.hid sg_info
  have HSL2 : Hid ((Tryz.prog.info? 42).map (·.size) = some (sgC sw lf s (.slice A' l.length c')).toList.length) := Lib.hid sg_info
  have b0 : ∀ j v, (stC cm who at_ sw lf s (.slice A l.length c)).toList[j]? = some v → ((w.alloc (.cells (stC cm who at_ sw lf s (.slice A l.length c)) 44)).alloc (.cells (stC cm who at_ sw lf s (.slice A' l.length c')) 44)).cell? ⟨w.heap.size, j, none⟩ = some v := fun j v h => by simpa using z1.cell j v h
  have b1 : ∀ j v, (stC cm who at_ sw lf s (.slice A' l.length c')).toList[j]? = some v → ((w.alloc (.cells (stC cm who at_ sw lf s (.slice A l.length c)) 44)).alloc (.cells (stC cm who at_ sw lf s (.slice A' l.length c')) 44)).cell? ⟨w.heap.size + 1, j, none⟩ = some v := fun j v h => by simpa using z2.cell j v h
  have x0 := b0 0 (.int .u64 (cm : Nat)) rfl
  have x1 := b0 1 (.int .i64 who) rfl
  have x2 := b0 2 (.int .i64 at_) rfl
  have y0 := b1 0 (.int .u64 (cm : Nat)) rfl
  have y1 := b1 1 (.int .i64 who) rfl
  have y2 := b1 2 (.int .i64 at_) rfl
  have m1 := st_sig z1.cell
  have m2 := st_sig z2.cell
  have M1 := Lib.hid m1
  have M2 := Lib.hid m2
  have CS := Lib.hid (fun W h1 h2 => ksame_ok sw lf s A A' c c' l hl W h1 h2)
  have e0 : ((cm : Int) == (cm : Int)) = true := by simp
  have e1 : (who == who) = true := by simp
  have e2 : (at_ == at_) = true := by simp
  clear b0 b1 z1 z2 m1 m2
  go_enter Tryz.func32, Tryz.ntmps32
  go_wp2_with (first
    | (refine wpList_load_mid_want (by rfl) 42 (.tmp 25) rfl w.heap.size 3 rfl (sgC sw lf s (.slice A l.length c)).toList _ M1.out hus rfl HSL1.out ?_; simp only [Array.toArray_toList])
    | (refine wpList_load_mid_want (by rfl) 42 (.tmp 27) rfl (w.heap.size + 1) 3 rfl (sgC sw lf s (.slice A' l.length c')).toList _ M2.out hus rfl HSL2.out ?_; simp only [Array.toArray_toList]))
  refine (CS.out _ r1 r2).mono ?_
  rintro e w2 ⟨rfl, gg⟩
  go_wp2_with fail
  go_ret
  exact ⟨rfl, grew_trans G0 gg⟩
set_option maxRecDepth 100000 in
set_option maxHeartbeats 600000 in
theorem stsame_at (cm : Nat) (who at_ at2 sw lf : Int) (s : Nat → Nat) (A A' : Option Addr) (c c' : Nat) (l : List Nat) (hl : l.length ≤ 1048576) (hne : at_ ≠ at2) (w : World) (hr : Rd w w.heap.size A (u64L l)) (hr' : Rd w w.heap.size A' (u64L l)) :
    Calls Tryz.prog 32 #[.agg (stC cm who at_ sw lf s (.slice A l.length c)), .agg (stC cm who at2 sw lf s (.slice A' l.length c'))] w fun e w' => e = .returned (.bool false) ∧ Grew w w' := by
  have z1 := (Ag.new w 44 (stC cm who at_ sw lf s (.slice A l.length c))).grew (grew_alloc (grew_refl _) (.cells (stC cm who at2 sw lf s (.slice A' l.length c')) 44))
  have z2 := Ag.new (w.alloc (.cells (stC cm who at_ sw lf s (.slice A l.length c)) 44)) 44 (stC cm who at2 sw lf s (.slice A' l.length c'))
  rw [alloc_size] at z2
  have G0 := grew_alloc (grew_alloc (grew_refl w) (.cells (stC cm who at_ sw lf s (.slice A l.length c)) 44)) (.cells (stC cm who at2 sw lf s (.slice A' l.length c')) 44)
  have r1 := hr.gr G0
  have r2 := hr'.gr G0
  have hus := Tryz.underlying42
  have HSL1 : Hid ((Tryz.prog.info? 42).map (·.size) = some (sgC sw lf s (.slice A l.length c)).toList.length) := Lib.hid sg_info
  have HSL2 : Hid ((Tryz.prog.info? 42).map (·.size) = some (sgC sw lf s (.slice A' l.length c')).toList.length) := Lib.hid sg_info
  have b0 : ∀ j v, (stC cm who at_ sw lf s (.slice A l.length c)).toList[j]? = some v → ((w.alloc (.cells (stC cm who at_ sw lf s (.slice A l.length c)) 44)).alloc (.cells (stC cm who at2 sw lf s (.slice A' l.length c')) 44)).cell? ⟨w.heap.size, j, none⟩ = some v := fun j v h => by simpa using z1.cell j v h
  have b1 : ∀ j v, (stC cm who at2 sw lf s (.slice A' l.length c')).toList[j]? = some v → ((w.alloc (.cells (stC cm who at_ sw lf s (.slice A l.length c)) 44)).alloc (.cells (stC cm who at2 sw lf s (.slice A' l.length c')) 44)).cell? ⟨w.heap.size + 1, j, none⟩ = some v := fun j v h => by simpa using z2.cell j v h
  have x0 := b0 0 (.int .u64 (cm : Nat)) rfl
  have x1 := b0 1 (.int .i64 who) rfl
  have x2 := b0 2 (.int .i64 at_) rfl
  have y0 := b1 0 (.int .u64 (cm : Nat)) rfl
  have y1 := b1 1 (.int .i64 who) rfl
  have y2 := b1 2 (.int .i64 at2) rfl
  have m1 := st_sig z1.cell
  have m2 := st_sig z2.cell
  have M1 := Lib.hid m1
  have M2 := Lib.hid m2
  have CS := Lib.hid (fun W h1 h2 => ksame_ok sw lf s A A' c c' l hl W h1 h2)
  have e0 : ((cm : Int) == (cm : Int)) = true := by simp
  have e1 : (who == who) = true := by simp
  have e2 : (at_ == at2) = false := by simpa using hne
  clear b0 b1 z1 z2 m1 m2
  go_enter Tryz.func32, Tryz.ntmps32
  go_wp2_with (first
    | (refine wpList_load_mid_want (by rfl) 42 (.tmp 25) rfl w.heap.size 3 rfl (sgC sw lf s (.slice A l.length c)).toList _ M1.out hus rfl HSL1.out ?_; simp only [Array.toArray_toList])
    | (refine wpList_load_mid_want (by rfl) 42 (.tmp 27) rfl (w.heap.size + 1) 3 rfl (sgC sw lf s (.slice A' l.length c')).toList _ M2.out hus rfl HSL2.out ?_; simp only [Array.toArray_toList]))
  go_ret
  exact ⟨rfl, G0⟩
end Go.Proofs.YtaeopobofmpioaaGreatDoor

namespace Go.Proofs.YtaeopobofmpioaaGreatDoor
set_option linter.unusedSimpArgs false
set_option linter.unusedVariables false
open Go.RowKit
set_option linter.unusedVariables false
set_option linter.unusedSimpArgs false
/-- the seed of the i-th -/
def sdI (seed : Int) (i : Nat) : Int := (seed + (i : Int)) % 18446744073709551616
theorem sdI_u64 (seed : Int) (i : Nat) : U64 (sdI seed i) := by unfold sdI; exact ⟨by omega, by omega⟩
noncomputable def ksL (seed : Int) (h i : Nat) : List Nat := pubsL (sdI seed i) (2 ^ h)
noncomputable def rtL (seed : Int) (h n : Nat) : List Nat := (List.range n).map fun i => rootN (ksL seed h i)
def ptrL (p : Nat → Nat) (n : Nat) : List Value := (List.range n).map fun i => .pointer (some ⟨p i + 1, 0, none⟩)
theorem rtL_snoc (seed : Int) (h n : Nat) : rtL seed h (n + 1) = rtL seed h n ++ [rootN (ksL seed h n)] := by simp [rtL, List.range_succ]
theorem ptrL_snoc (p : Nat → Nat) (n : Nat) : ptrL p (n + 1) = ptrL p n ++ [.pointer (some ⟨p n + 1, 0, none⟩)] := by simp [ptrL, List.range_succ]
theorem ptrL_congr {p q : Nat → Nat} {n : Nat} (h : ∀ i, i < n → p i = q i) : ptrL p n = ptrL q n := by
  unfold ptrL
  apply List.map_congr_left
  intro i hi
  rw [h i (List.mem_range.1 hi)]
/-- the keys of n replicas, all leaves promised, the i-th behind block p i -/
structure KsAt (w : World) (B n : Nat) (p : Nat → Nat) (seed : Int) (h : Nat) : Prop where
  key : ∀ i, i < n → KyAt w (p i + 1) (p i) (i : Int) (sdI seed i) (ksL seed h i) 0 (2 ^ h)
  low : ∀ i, i < n → B ≤ p i
  apart : ∀ i j, i < n → j < n → i ≠ j → p i ≠ p j ∧ p i + 1 ≠ p j ∧ p i ≠ p j + 1
theorem KsAt.kp {S : Nat → Prop} {w w' : World} {B n : Nat} {p : Nat → Nat} {seed : Int} {h : Nat} (k : KsAt w B n p seed h) (t : Kp S w w') (hs : ∀ i, i < n → ¬ S (p i) ∧ ¬ S (p i + 1)) : KsAt w' B n p seed h :=
  ⟨fun i hi => (k.key i hi).kp t (hs i hi).2 (hs i hi).1, k.low, k.apart⟩
theorem KsAt.grew {w w' : World} {B n : Nat} {p : Nat → Nat} {seed : Int} {h : Nat} (k : KsAt w B n p seed h) (t : Grew w w') : KsAt w' B n p seed h := k.kp (S := fun _ => False) (kp_grew t) (fun i _ => ⟨fun h => h, fun h => h⟩)
/-- one more, made behind all -/
theorem KsAt.snoc {w : World} {B n : Nat} {p : Nat → Nat} {seed : Int} {h q : Nat} (k : KsAt w B n p seed h) (hq : KyAt w (q + 1) q (n : Int) (sdI seed n) (ksL seed h n) 0 (2 ^ h)) (hB : B ≤ q) (hlt : ∀ i, i < n → p i + 1 < q) :
    KsAt w B (n + 1) (fun i => if i = n then q else p i) seed h := by
  refine ⟨fun i hi => ?_, fun i hi => ?_, fun i j hi hj hij => ?_⟩
  · by_cases e : i = n
    · subst e; simpa using hq
    · simpa [e] using k.key i (by omega)
  · by_cases e : i = n
    · simpa [e] using hB
    · simpa [e] using k.low i (by omega)
  · by_cases e : i = n
    · have e2 : j ≠ n := fun h => hij (e.trans h.symm)
      have := hlt j (by omega)
      simp only [if_pos e, if_neg e2]
      omega
    · by_cases e2 : j = n
      · have := hlt i (by omega)
        simp only [if_pos e2, if_neg e]
        omega
      · simpa [e, e2] using k.apart i j (by omega) (by omega) hij
/-- an owned row lies apart from the keys and from another row -/
def Sep (v u : Value) (n : Nat) (p : Nat → Nat) : Prop := ∀ g, v.ownBlock = some g → u.ownBlock ≠ some g ∧ ∀ i, i < n → g ≠ p i ∧ g ≠ p i + 1
theorem results_ta {P : Program} {fn : Func} {p u : Tmp} {ty : TypeId} (h : fn.results = #[.tmp u, .cell p ty]) (tmps : Array Value) (w : World) (b : Nat) (cs : List Value) (d : TypeDesc) (v : Value)
    (hp : tmps.getD p undef = .pointer (some ⟨b, 0, none⟩)) (hv : tmps.getD u undef = v) (hz : Ag w b cs) (hu : P.underlying ty = some d) (hd : d.isRow = true) (hi : (P.info? ty).map (·.size) = some cs.length) :
    (results fn tmps).run P w = .ok (.tuple #[v, .agg cs.toArray]) w := by
  have hp' : tmps[p]?.getD undef = .pointer (some ⟨b, 0, none⟩) := by simpa using hp
  have hv' : tmps[u]?.getD undef = v := by simpa using hv
  simp [results, h, hp', hv', asAddr, run_loadVar_mid w b 0 ty cs d hz.cell hu hd hi]
structure OwnS (w : World) (B : Nat) (t : TypeId) (xs : List Value) (u : Value) (lo : Nat) (v : Value) : Prop where
  own : w.ownsRow B t 1 v xs.length xs
  blk : v.ownBlock = u.ownBlock ∨ ∃ s, v.ownBlock = some s ∧ lo ≤ s
theorem OwnS.gr {w w' : World} {B lo : Nat} {t : TypeId} {xs : List Value} {u v : Value} (h : OwnS w B t xs u lo v) (g : Grew w w') : OwnS w' B t xs u lo v := ⟨ownsRow_gr h.own g, h.blk⟩
theorem wrap_sd (seed : Int) (k : Nat) : IntKind.u64.wrap (seed + (k : Int)) = sdI seed k := by simp [IntKind.wrap, IntKind.bits, IntKind.signed, sdI]
set_option maxRecDepth 100000 in
set_option maxHeartbeats 600000 in
theorem keys_ok (seed : Int) (hsd : U64 seed) (h : Nat) (hh : h ≤ 4) (w : World) :
    Calls Tryz.prog 33 #[.int .i64 1, .int .u64 seed, .int .i64 (h : Int)] w fun e w' => ∃ LA Lc RA Rc p, e = .returned (.tuple #[.slice LA 4 Lc, .agg (kyS 1 RA 4 Rc (h : Int))]) ∧ KsAt w' w.heap.size 4 p seed h ∧ Rd w' w'.heap.size LA (ptrL p 4) ∧ Rd w' w'.heap.size RA (u64L (rtL seed h 4)) ∧
      (∀ ad, LA = some ad → ∀ i, i < 4 → ad.block ≠ p i ∧ ad.block ≠ p i + 1) ∧ (∀ ad, RA = some ad → ∀ i, i < 4 → ad.block ≠ p i ∧ ad.block ≠ p i + 1) ∧ Grew w w' := by
  have hkt := Tryz.underlying36
  have HSK : ∀ pv : Value, Hid ((Tryz.prog.info? 36).map (·.size) = some (#[Value.int .i64 1, pv, Value.int .i64 (h : Int)] : Array Value).size) := fun pv => Lib.hid (by kernel_rfl)
  have zr := (Ag.new w 36 #[.int .i64 0, .slice none 0 0, .int .i64 0]).grew (grew_alloc (grew_refl _) (.cells #[.int .i64 0, .slice none 0 0, .int .i64 0] 36))
  have zk : Ag ((w.alloc (.cells #[.int .i64 0, .slice none 0 0, .int .i64 0] 36)).alloc (.cells #[.int .i64 0, .slice none 0 0, .int .i64 0] 36)) (w.heap.size + 1) (#[.int .i64 0, .slice none 0 0, .int .i64 0] : Array Value).toList := by
    have := Ag.new (w.alloc (.cells #[.int .i64 0, .slice none 0 0, .int .i64 0] 36)) 36 #[.int .i64 0, .slice none 0 0, .int .i64 0]
    simpa using this
  have G0 := grew_alloc (grew_alloc (grew_refl w) (.cells #[.int .i64 0, .slice none 0 0, .int .i64 0] 36)) (.cells #[.int .i64 0, .slice none 0 0, .int .i64 0] 36)
  have hn : 2 ^ h ≤ 16 := by
    have : 2 ^ h ≤ 2 ^ 4 := Nat.pow_le_pow_right (by decide) hh
    simpa using this
  have hn1 : 1 ≤ 2 ^ h := Nat.one_le_two_pow
  have hlv0 : leavesOk (2 ^ h) = true := leaves_pow ⟨h, by omega⟩
  have e2 : wrap64 ((2 : Int) ^ h) = ((2 ^ h : Nat) : Int) := by
    have : ((2 : Int) ^ h) = ((2 ^ h : Nat) : Int) := by simp
    rw [this]
    generalize 2 ^ h = n at *
    unfold wrap64; omega
  have h0 : (0 : Int) ≤ (h : Int) := by omega
  have h5 : (h : Int) ≤ 8 := by omega
  have HKL : Hid (∀ i, (ksL seed h i).length = 2 ^ h) := Lib.hid (fun i => pubsL_length _ _)
  have HKB : Hid (∀ i, ∀ x ∈ ksL seed h i, x < 18446744073709551616) := Lib.hid (fun i => pubsL_lt _ _)
  have HLV := Lib.hid hlv0
  have CN := Lib.hid (fun (k : Nat) (hk : k < 4) W => knew_ok (k : Int) (sdI seed k) h (by omega) (by omega) (sdI_u64 seed k) W)
  clear hlv0
  have z1 := Ag.set (vs := (#[.int .i64 1, .slice none 0 0, .int .i64 (h : Int)] : Array Value).toList) zk rfl
  have HTH : Hid (((w.alloc (.cells #[.int .i64 0, .slice none 0 0, .int .i64 0] 36)).alloc (.cells #[.int .i64 0, .slice none 0 0, .int .i64 0] 36)).there (w.heap.size + 1) 0 (#[.int .i64 1, .slice none 0 0, .int .i64 (h : Int)] : Array Value).size) := Lib.hid (zk.thereN 3 rfl)
  have HON : Hid ((#[.int .i64 1, .slice none 0 0, .int .i64 (h : Int)] : Array Value).all (·.oneCell') = true) := Lib.hid (by simp [Value.oneCell'])
  have zr1 := zr.other (b' := w.heap.size + 1) (o := 0) (vs := (#[.int .i64 1, .slice none 0 0, .int .i64 (h : Int)] : Array Value).toList) (by omega)
  have G1 := setCells_grew (o := 0) (b := w.heap.size + 1) (#[.int .i64 1, .slice none 0 0, .int .i64 (h : Int)] : Array Value).toList G0 (by omega)
  have hs1 : w.heap.size + 2 ≤ (((w.alloc (.cells #[.int .i64 0, .slice none 0 0, .int .i64 0] 36)).alloc (.cells #[.int .i64 0, .slice none 0 0, .int .i64 0] 36)).setCells (w.heap.size + 1) 0 (#[.int .i64 1, .slice none 0 0, .int .i64 (h : Int)] : Array Value).toList).heap.size := by
    have := setCells_size ((w.alloc (.cells #[.int .i64 0, .slice none 0 0, .int .i64 0] 36)).alloc (.cells #[.int .i64 0, .slice none 0 0, .int .i64 0] 36)) (w.heap.size + 1) 0 (#[.int .i64 1, .slice none 0 0, .int .i64 (h : Int)] : Array Value).toList
    simp at this ⊢
    omega
  clear zr zk G0
  obtain ⟨w1, hw1⟩ : ∃ v, ((w.alloc (.cells #[.int .i64 0, .slice none 0 0, .int .i64 0] 36)).alloc (.cells #[.int .i64 0, .slice none 0 0, .int .i64 0] 36)).setCells (w.heap.size + 1) 0 (#[.int .i64 1, .slice none 0 0, .int .i64 (h : Int)] : Array Value).toList = v := ⟨_, rfl⟩
  rw [hw1] at z1 zr1 G1 hs1
  have HW1 := Lib.hid hw1
  clear hw1
  go_enter Tryz.func33, Tryz.ntmps33
  go_wp2_with (with_reducible refine wpList_store_mid rfl 36 (.tmp 8) (.tmp 16) rfl (w.heap.size + 1) 0 (#[.int .i64 1, .slice none 0 0, .int .i64 (h : Int)]) rfl rfl HTH.out (HSK _).out HON.out ?_; rw [HW1.out]; clear HW1 HTH)
  clear hsd
  obtain ⟨w0, hw0⟩ : ∃ n, w.heap.size = n := ⟨_, rfl⟩
  rw [hw0] at z1 zr1 hs1 ⊢
  have HW0 := Lib.hid hw0
  clear hw0
  go_loopw [9, 10] (fun lv iv wr => ∃ (k : Nat) (p : Nat → Nat) (pv lw : Value), lw = lv ∧ k ≤ 4 ∧ iv = .int .i64 k ∧ Ag wr (w0 + 1) [.int .i64 1, pv, .int .i64 (h : Int)] ∧ Ag wr w0 (#[.int .i64 0, .slice none 0 0, .int .i64 0] : Array Value).toList ∧ KsAt wr (w0 + 2) k p seed h ∧ wr.ownsRow (w0 + 2) 70 1 lv k (ptrL p k) ∧ wr.ownsRow (w0 + 2) 38 1 pv k (u64L (rtL seed h k)) ∧ Sep lv pv k p ∧ Sep pv lv k p ∧ Grew w wr ∧ w0 + 2 ≤ wr.heap.size) (fun _ iv _ => 4 - (intOf iv).toNat)
  case atStart => exact ⟨0, fun _ => 0, .slice none 0 0, _, rfl, Nat.zero_le _, rfl, z1, zr1, ⟨fun i hi => absurd hi (by omega), fun i hi => absurd hi (by omega), fun i j hi => absurd hi (by omega)⟩, World.ownsRow_nil _ _ _ _, World.ownsRow_nil _ _ _ _, fun g e => (by cases e), fun g e => (by cases e), G1, hs1⟩
  case round =>
    clear z1 zr1 G1 hs1
    obtain ⟨k, p, pv, lv, hlv, hk, rfl, zk, zr, KS, OL, OP, SL, SP, G, hs⟩ := hrel
    subst hlv
    by_cases hlt : k < 4
    · have hk0 : (0 : Int) ≤ (k : Int) := by omega
      have hk1 : (k : Int) < 4 := by omega
      have cn := CN.out k hlt wr
      have HK := Lib.hid hlt
      clear hlt
      obtain ⟨i0, hi, hz0, hz1, hz2⟩ := info_parts (show (Tryz.prog.info? 70).map (fun i => (i.zero, i.size, i.bytes)) = some (some (.pointer none), 1, 8) by kernel_rfl)
      obtain ⟨i1, hj, hy0, hy1, hy2⟩ := info_parts infoD
      obtain ⟨q, hq⟩ : ∃ q, wr.heap.size = q := ⟨_, rfl⟩
      rw [hq] at cn hs
      have OLT := Lib.hid (fun g e => hq ▸ (ownsRow_lt OL g e).2)
      have OPT := Lib.hid (fun g e => hq ▸ (ownsRow_lt OP g e).2)
      have OLB := Lib.hid (own_base OL)
      have OPB := Lib.hid (own_base OP)
      have KLT : Hid (∀ i, i < k → p i + 1 < q) := Lib.hid (fun i hi => hq ▸ (KS.key i hi).key.lt)
      clear hq
      go_wp2_with fail
      rw [wrap_sd]
      refine cn.mono ?_
      rintro e v2 ⟨rfl, gg, K2⟩
      clear cn
      have zk2 := zk.grew gg
      have zr2 := zr.grew gg
      have KS2 := KS.grew gg
      have OL2 := ownsRow_gr OL gg
      have OP2 := ownsRow_gr OP gg
      have G2 := grew_trans G gg
      have hs2 : q + 2 ≤ v2.heap.size := by have := K2.key.lt; omega
      clear zk zr KS OL OP G gg
      go_wp2_with fail
      rw [e2]
      refine (reserve_ok (q + 1) q (k : Int) (sdI seed k) (ksL seed h k) 0 0 (by rw [HKL.out]; omega) (by omega) (by omega) (2 ^ h) hn1 (by rw [HKL.out]; omega) v2 K2).mono ?_
      rw [Nat.zero_add]
      rintro e v3 ⟨rfl, tt, K3⟩
      have T3 := kp_tn tt
      have zk3 := zk2.kp T3 (show ¬ w0 + 1 = q + 1 by omega)
      have zr3 := zr2.kp T3 (show ¬ w0 = q + 1 by omega)
      have KS3 := KS2.kp T3 (fun i hi => ⟨by have := KLT.out i hi; show ¬ p i = q + 1; omega, by have := KLT.out i hi; show ¬ p i + 1 = q + 1; omega⟩)
      have OL3 := ownsRow_kp OL2 T3 (fun g e h => by have := OLT.out g e; have h : g = q + 1 := h; omega)
      have OP3 := ownsRow_kp OP2 T3 (fun g e h => by have := OPT.out g e; have h : g = q + 1 := h; omega)
      have G3 := grew_tn G2 tt (by have := HW0.out; omega)
      have hs3 : q + 2 ≤ v3.heap.size := Nat.le_trans hs2 T3.size
      have KS4 := KS3.snoc K3 (by omega) (fun i hi => KLT.out i hi)
      clear zk2 zr2 KS2 OL2 OP2 G2 hs2 K2 tt T3 KS3 K3
      have HPL : Hid (ptrL (fun i => if i = k then q else p i) (k + 1) = ptrL p k ++ [Value.pointer (some ⟨q + 1, 0, none⟩)]) := Lib.hid (by
        rw [ptrL_snoc, ptrL_congr (q := p) (fun i hi => by simp [Nat.ne_of_lt hi])]
        simp)
      go_wp2_with (at_builtin; refine wpList_append_rd rfl (.tmp 46) (.tmp 48) 66 rfl (w0 + 2) 70 i0 (.pointer none) 8 Tryz.underlying66 hi hz0 hz1 hz2 rfl lv k _ rfl (OL3.alloc _) (v3.heap.size + 1) (some ⟨v3.heap.size, 0, none⟩) 1 1 [Value.pointer (some ⟨q + 1, 0, none⟩)] rfl rfl (rd_new v3 70 #[Value.pointer (some ⟨q + 1, 0, none⟩)] (0, 0)) (one_cell rfl) (by unfold maxLen; omega) (by omega) (by simp; omega) ?_; intro lv6 w6 hown6 hgrow6 hor6)
      have T6 : Kp (fun i => some i = lv.ownBlock) v3 w6 := kp_grown (kp_alloc (kp_refl _ v3) _) hgrow6 (fun g h => .inl h.symm)
      obtain ⟨n6, hn6⟩ : ∃ n, v3.heap.size + 1 = n := ⟨_, rfl⟩
      rw [alloc_size, hn6] at hor6
      have hp6 : ∀ i, i < k + 1 → (if i = k then q else p i) + 1 < v3.heap.size := fun i hi => by
        by_cases e : i = k
        · rw [if_pos e]; omega
        · rw [if_neg e]; have := KLT.out i (by omega); omega
      have hL6 : ∀ g, some g = lv.ownBlock → w0 + 2 ≤ g ∧ g < q ∧ pv.ownBlock ≠ some g ∧ ∀ i, i < k → g ≠ p i ∧ g ≠ p i + 1 := fun g e => ⟨OLB.out g e.symm, OLT.out g e.symm, (SL g e.symm).1, (SL g e.symm).2⟩
      have hP6 : ∀ g, some g = pv.ownBlock → w0 + 2 ≤ g ∧ g < q ∧ lv.ownBlock ≠ some g ∧ ∀ i, i < k → g ≠ p i ∧ g ≠ p i + 1 := fun g e => ⟨OPB.out g e.symm, OPT.out g e.symm, (SP g e.symm).1, (SP g e.symm).2⟩
      have zk6 := zk3.kp T6 (fun e => by have := hL6 _ e; omega)
      have zr6 := zr3.kp T6 (fun e => by have := hL6 _ e; omega)
      have KS6 := KS4.kp T6 (fun i hi => by
        refine ⟨fun e => ?_, fun e => ?_⟩ <;> (have h1 := hL6 _ e; by_cases hik : i = k)
        · simp only [if_pos hik] at h1; omega
        · simp only [if_neg hik] at h1; exact (h1.2.2.2 i (by omega)).1 rfl
        · simp only [if_pos hik] at h1; omega
        · simp only [if_neg hik] at h1; exact (h1.2.2.2 i (by omega)).2 rfl)
      have OP6 := ownsRow_kp OP3 T6 (fun g e h => (hL6 g h).2.2.1 e)
      have G6 : Grew w w6 := below_kp G3 T6 G3.size (fun i e => by have := (hL6 i e).1; have := HW0.out; omega)
      have hs6 : v3.heap.size + 1 ≤ w6.heap.size := by have := hgrow6.size; rw [alloc_size] at this; exact this
      have hlv6 : ∀ g, lv6.ownBlock = some g → g < w6.heap.size := fun g e => (ownsRow_lt hown6 g e).2
      obtain ⟨rt, hrt⟩ : ∃ r, rootN (ksL seed h k) = r := ⟨_, rfl⟩
      have HT : Hid ((u64L (rtL seed h (k + 1))).length = k + 1 ∧ u64L (rtL seed h (k + 1)) = u64L (rtL seed h k) ++ [Value.int .u64 (rt : Nat)]) := Lib.hid ⟨by simp [u64L, rtL], by rw [rtL_snoc, hrt]; simp [u64L]⟩
      have HRT := Lib.hid hrt
      have HSW : Hid (∀ i, some i = pv.ownBlock → i < w6.heap.size) := Lib.hid (fun i e => by have := (hP6 i e).2.1; omega)
      have HW6 : Hid (w0 + 2 ≤ w6.heap.size) := Lib.hid (by omega)
      have HZK : Hid (∀ y, Kp (fun i => some i = pv.ownBlock) w6 y → Ag y (w0 + 1) [.int .i64 1, pv, .int .i64 (h : Int)]) := Lib.hid (fun y g => zk6.kp g (fun e => by have := hP6 _ e; omega))
      have HC : Hid (∀ y, Kp (fun i => some i = pv.ownBlock) w6 y → y.cell? ⟨w0 + 1, 1, none⟩ = some pv) := Lib.hid (fun y g => by simpa using (HZK.out y g).cell 1 _ rfl)
      have HKA : Hid (∀ y, Kp (fun i => some i = pv.ownBlock) w6 y → KsAt y (w0 + 2) (k + 1) (fun i => if i = k then q else p i) seed h) := Lib.hid (fun y g => KS6.kp g (fun i hi => by
        refine ⟨fun e => ?_, fun e => ?_⟩ <;> (have h1 := hP6 _ e; by_cases hik : i = k)
        · simp only [if_pos hik] at h1; omega
        · simp only [if_neg hik] at h1; exact (h1.2.2.2 i (by omega)).1 rfl
        · simp only [if_pos hik] at h1; omega
        · simp only [if_neg hik] at h1; exact (h1.2.2.2 i (by omega)).2 rfl))
      have HKK : Hid (∀ y, Kp (fun i => some i = pv.ownBlock) w6 y → KyAt y (q + 1) q (k : Int) (sdI seed k) (ksL seed h k) 0 (2 ^ h)) := Lib.hid (fun y g => by
        have := (HKA.out y g).key k (by omega)
        simpa using this)
      have HZR : Hid (∀ y, Kp (fun i => some i = pv.ownBlock) w6 y → Ag y w0 (#[.int .i64 0, .slice none 0 0, .int .i64 0] : Array Value).toList) := Lib.hid (fun y g => zr6.kp g (fun e => by have := hP6 _ e; omega))
      have HOL : Hid (∀ y, Kp (fun i => some i = pv.ownBlock) w6 y → y.ownsRow (w0 + 2) 70 1 lv6 (k + 1) (ptrL (fun i => if i = k then q else p i) (k + 1))) := Lib.hid (fun y g => by
        rw [HPL.out]
        refine ownsRow_kp hown6 g (fun j e e2 => ?_)
        have h1 := hP6 j e2
        rcases hor6 with h2 | h2
        · exact h1.2.2.1 (h2.symm.trans e)
        · rw [h2] at e; cases e; omega)
      have HGG : Hid (∀ y, Kp (fun i => some i = pv.ownBlock) w6 y → Grew w y) := Lib.hid (fun y g => below_kp G6 g G6.size (fun i e => by have := (hP6 i e).1; have := HW0.out; omega))
      have HOP := Lib.hid OP6
      have HSEP : Hid (∀ (pv7 : Value), (pv7.ownBlock = pv.ownBlock ∨ ∃ s, pv7.ownBlock = some s ∧ w6.heap.size ≤ s) → Sep lv6 pv7 (k + 1) (fun i => if i = k then q else p i) ∧ Sep pv7 lv6 (k + 1) (fun i => if i = k then q else p i)) := Lib.hid (fun pv7 hb => by
        have hlo : ∀ g, g < q → ∀ i, (i < k → g ≠ p i ∧ g ≠ p i + 1) → i < k + 1 → g ≠ (if i = k then q else p i) ∧ g ≠ (if i = k then q else p i) + 1 := fun g hg i hh hi => by
          by_cases e : i = k
          · simp only [if_pos e]; omega
          · simp only [if_neg e]; exact hh (by omega)
        have hhi : ∀ g, v3.heap.size ≤ g → ∀ i, i < k + 1 → g ≠ (if i = k then q else p i) ∧ g ≠ (if i = k then q else p i) + 1 := fun g hg i hi => by have := hp6 i hi; omega
        refine ⟨fun g e => ?_, fun g e => ?_⟩
        · rcases hor6 with h2 | h2
          · have h1 := hL6 g (by rw [← h2, e])
            refine ⟨fun e2 => ?_, fun i hi => hlo g h1.2.1 i (h1.2.2.2 i) hi⟩
            rcases hb with hb | ⟨s, hb, hs7⟩
            · exact h1.2.2.1 (hb.symm.trans e2)
            · rw [hb] at e2; cases e2; omega
          · have hg6 : g = n6 := by rw [h2] at e; cases e; rfl
            refine ⟨fun e2 => ?_, fun i hi => hhi g (by omega) i hi⟩
            rcases hb with hb | ⟨s, hb, hs7⟩
            · have := hP6 g (by rw [← hb, e2]); omega
            · have := hlv6 g e; rw [hb] at e2; cases e2; omega
        · rcases hb with hb | ⟨s, hb, hs7⟩
          · have h1 := hP6 g (by rw [← hb, e])
            refine ⟨fun e2 => ?_, fun i hi => hlo g h1.2.1 i (h1.2.2.2 i) hi⟩
            rcases hor6 with h2 | h2
            · exact h1.2.2.1 (h2.symm.trans e2)
            · rw [h2] at e2; cases e2; omega
          · have hgs : g = s := by rw [hb] at e; cases e; rfl
            refine ⟨fun e2 => ?_, fun i hi => hhi g (by omega) i hi⟩
            have := hlv6 g e2; omega)
      clear zk3 zr3 KS4 OL3 OP3 G3 T6 hor6 hp6 hL6 hP6 zk6 zr6 KS6 OP6 G6 hs6 hlv6 hown6 hgrow6 SL SP hrt hs3 hs hn6
      refine wp_region_app 6 5 (fun i => some i = pv.ownBlock) (fun i => match i with
          | 0 => fun v _ => v = .pointer (some ⟨w0 + 1, 1, none⟩)
          | 1 => fun v _ => v = pv
          | 2 => fun v _ => v = .pointer (some ⟨q + 1, 0, none⟩)
          | 3 => fun v _ => v = .int .u64 (rt : Nat)
          | 4 => fun v w => PV w w6.heap.size [rt] v
          | 5 => fun v2 w => OwnS w (w0 + 2) 38 (u64L (rtL seed h (k + 1))) pv w6.heap.size v2
          | _ => fun _ _ => True) (by kernel_rfl) (by kernel_rfl) ?_ ?_ ?_ ?_
      · intro i v x y h hg
        match i, h with
        | 0, h | 1, h | 2, h | 3, h => exact h
        | 4, h => exact PV.gr h hg
        | 5, h => exact OwnS.gr h hg
        | m + 6, _ => trivial
      · intro i v x y hne hx h hg
        match i, h with
        | 0, h | 1, h | 2, h | 3, h => exact h
        | 4, h => exact PV.kp h hg HSW.out
        | 5, h => exact absurd rfl hne
        | m + 6, _ => trivial
      · refine ⟨?_, ?_, ?_, ?_, ?_, ?_, trivial⟩
        · intro vs y hg hd
          replace hg : Kp (fun i => some i = pv.ownBlock) w6 y := hg
          simp only [actOf, List.take_succ_cons, List.take_zero, List.drop_succ_cons, List.drop_zero, Act.put, List.setIfInBounds_toArray, List.set_cons_succ, List.set_cons_zero, Nat.reduceAdd]
          go_wp2_with fail
          exact ⟨rfl, _, rfl, grew_refl _, rfl⟩
        · intro vs y hg hd
          replace hg : Kp (fun i => some i = pv.ownBlock) w6 y := hg
          obtain ⟨h0, _⟩ := hd
          replace h0 := h0 rfl
          simp only [actOf, List.take_succ_cons, List.take_zero, List.drop_succ_cons, List.drop_zero, Act.put, List.setIfInBounds_toArray, List.set_cons_succ, List.set_cons_zero, Nat.reduceAdd]
          rw [show vs 0 = _ from h0]
          have hc := HC.out y hg
          go_wp2_with fail
          exact ⟨rfl, _, rfl, grew_refl _, rfl⟩
        · intro vs y hg hd
          replace hg : Kp (fun i => some i = pv.ownBlock) w6 y := hg
          simp only [actOf, List.take_succ_cons, List.take_zero, List.drop_succ_cons, List.drop_zero, Act.put, List.setIfInBounds_toArray, List.set_cons_succ, List.set_cons_zero, Nat.reduceAdd]
          go_wp2_with fail
          exact ⟨rfl, _, rfl, grew_refl _, rfl⟩
        · intro vs y hg hd
          replace hg : Kp (fun i => some i = pv.ownBlock) w6 y := hg
          obtain ⟨h2, _⟩ := hd
          replace h2 := h2 rfl
          simp only [actOf, List.take_succ_cons, List.take_zero, List.drop_succ_cons, List.drop_zero, Act.put, List.setIfInBounds_toArray, List.set_cons_succ, List.set_cons_zero, Nat.reduceAdd]
          rw [show vs 2 = _ from h2]
          have kk := HKK.out y hg
          go_wp2_with (go_at_call 98; refine (keyroot_ok (q + 1) q (k : Int) (sdI seed k) (ksL seed h k) 0 (2 ^ h) (by rw [HKL.out]; omega) (by rw [HKL.out]; exact HLV.out) (HKB.out k) y kk).mono ?_; rintro e z ⟨rfl, gz⟩; rw [HRT.out])
          exact ⟨rfl, _, rfl, gz, rfl⟩
        · intro vs y hg hd
          replace hg : Kp (fun i => some i = pv.ownBlock) w6 y := hg
          obtain ⟨h3, _⟩ := hd
          replace h3 := h3 rfl
          simp only [actOf, List.take_succ_cons, List.take_zero, List.drop_succ_cons, List.drop_zero, Act.put, List.setIfInBounds_toArray, List.set_cons_succ, List.set_cons_zero, Nat.reduceAdd]
          rw [show vs 3 = _ from h3]
          go_wp2_with fail
          exact ⟨rfl, _, rfl, grew_alloc (grew_refl _) _, pv_one y _ rt hg.size⟩
        · intro vs y hg hd
          replace hg : Grew w6 y := hg
          obtain ⟨h1, h4, _⟩ := hd
          replace h1 := h1 rfl
          replace h4 := h4 rfl
          simp only [actOf, List.take_succ_cons, List.take_zero, List.drop_succ_cons, List.drop_zero, Act.put, List.setIfInBounds_toArray, List.set_cons_succ, List.set_cons_zero, Nat.reduceAdd]
          rw [show vs 1 = _ from h1]
          obtain ⟨A2, c2, hv2, hr2, _⟩ := PV.out h4
          rw [hv2]
          have hb2 := hg.size
          have hw6 := HW6.out
          go_wp2_with (refine wpList_append_rd rfl (.tmp 51) (.tmp 54) 34 rfl (w0 + 2) 38 i1 (.int .u64 0) 8 Tryz.underlying34 hj hy0 hy1 hy2 rfl pv k _ rfl (ownsRow_gr HOP.out hg) y.heap.size A2 1 c2 [Value.int .u64 (rt : Nat)] rfl rfl hr2 (one_cell rfl) (by unfold maxLen; omega) (by omega) (by omega) ?_; intro v7 w7 hown7 hgrow7 hor7)
          exact ⟨rfl, _, rfl, kp_grown (kp_refl _ _) hgrow7 (fun g h => .inl h.symm), ⟨by rw [HT.out.1, HT.out.2]; exact hown7, by rcases hor7 with h | h; exact .inl h; exact .inr ⟨_, h, hb2⟩⟩⟩
      · intro vs y hg hJ
        have j0 : vs 0 = .pointer (some ⟨w0 + 1, 1, none⟩) := hJ 0 (by decide)
        have j1 : vs 1 = pv := hJ 1 (by decide)
        have j2 : vs 2 = .pointer (some ⟨q + 1, 0, none⟩) := hJ 2 (by decide)
        have j3 : vs 3 = .int .u64 (rt : Nat) := hJ 3 (by decide)
        have s54 := hJ 4 (by decide)
        have s55 := hJ 5 (by decide)
        clear hJ
        simp only [actOf, List.take_succ_cons, List.take_zero, List.drop_succ_cons, List.drop_zero, Act.put, List.setIfInBounds_toArray, List.set_cons_succ, List.set_cons_zero, Nat.reduceAdd]
        obtain ⟨hown7, hblk7⟩ := (show OwnS y (w0 + 2) 38 (u64L (rtL seed h (k + 1))) pv w6.heap.size (vs 5) from s55)
        rw [HT.out.1] at hown7
        obtain ⟨A7, c7, e7, -, -, -⟩ := own_rd hown7
        rw [e7] at hown7 hblk7 ⊢
        have z7 := HZK.out y hg
        have f1 : y.frozen? ⟨w0 + 1, 1, none⟩ = false := by simpa using (z7.there 1 (by simp)).2
        have c1 : y.cell? ⟨w0 + 1, 1, none⟩ = some pv := by simpa using z7.cell 1 _ rfl
        have tt := tn_set (g := w0 + 1) (tn_refl _ y) (p := ⟨w0 + 1, 1, none⟩) (.inl rfl) (.slice A7 (k + 1) c7)
        have T8 := kp_tn tt
        have z8 := Ag.set1 z7 1 (.slice A7 (k + 1) c7) (by simp)
        have zr8 := (HZR.out y hg).kp T8 (show ¬ w0 = w0 + 1 by omega)
        have KS7 := HKA.out y hg
        have KS8 := KS7.kp T8 (fun i hi => ⟨by have := KS7.low i hi; show ¬ (if i = k then q else p i) = w0 + 1; omega, by have := KS7.low i hi; show ¬ (if i = k then q else p i) + 1 = w0 + 1; omega⟩)
        have OL7 := HOL.out y hg
        have OL8 := ownsRow_kp OL7 T8 (fun g e (h : g = w0 + 1) => by have := own_base OL7 g e; omega)
        have OP8 := ownsRow_kp hown7 T8 (fun g e (h : g = w0 + 1) => by have := own_base hown7 g e; omega)
        have G8 := grew_tn (HGG.out y hg) tt (by have := HW0.out; omega)
        have hs8 : w0 + 2 ≤ (y.setCell ⟨w0 + 1, 1, none⟩ (.slice A7 (k + 1) c7)).heap.size := by have := HW6.out; have := hg.size; have := T8.size; omega
        have SS := Lib.hid (HSEP.out _ hblk7)
        clear s54 s55 e7 hown7 hblk7 z7 tt T8 KS7 OL7 hg j0 j1 j2 j3
        go_wp2_with fail
        go_roundw
        case rel => exact ⟨k + 1, fun i => if i = k then q else p i, .slice A7 (k + 1) c7, _, rfl, by have := HK.out; omega, by go_num, z8, zr8, KS8, OL8, OP8, SS.out.1, SS.out.2, G8, hs8⟩
        case measure => have := HK.out; simp [intOf]; omega
    · obtain rfl : k = 4 := by omega
      obtain ⟨LA, Lc, rfl, -, -, hrL⟩ := own_rd OL
      obtain ⟨RA, Rc, rfl, -, -, hrR⟩ := own_rd OP
      have HTR : Hid (wr.there w0 0 (#[Value.int .i64 1, .slice RA 4 Rc, .int .i64 (h : Int)] : Array Value).size) := Lib.hid (zr.thereN 3 rfl)
      have HOR : Hid ((#[Value.int .i64 1, .slice RA 4 Rc, .int .i64 (h : Int)] : Array Value).all (·.oneCell') = true) := Lib.hid (by simp [Value.oneCell'])
      have HSL : Hid ((Tryz.prog.info? 36).map (·.size) = some [Value.int .i64 1, .slice RA 4 Rc, .int .i64 (h : Int)].length) := Lib.hid (by kernel_rfl)
      have HSR : Hid ((Tryz.prog.info? 36).map (·.size) = some (#[Value.int .i64 1, .slice RA 4 Rc, .int .i64 (h : Int)] : Array Value).size) := HSK _
      have HMK : Hid (∀ y, Grew wr y → y.rangeAt (w0 + 1) 0 [.int .i64 1, .slice RA 4 Rc, .int .i64 (h : Int)]) := Lib.hid (fun y g => (zk.grew g).cell)
      have farL : ∀ ad, LA = some ad → ∀ i, i < 4 → ad.block ≠ p i ∧ ad.block ≠ p i + 1 := fun ad e i hi => by subst e; exact (SL ad.block (by rcases OL.2 with ⟨h1, _⟩ | ⟨g, cap, cur, h1, _⟩; cases h1; cases h1; rfl)).2 i hi
      have farR : ∀ ad, RA = some ad → ∀ i, i < 4 → ad.block ≠ p i ∧ ad.block ≠ p i + 1 := fun ad e i hi => by subst e; exact (SP ad.block (by rcases OP.2 with ⟨h1, _⟩ | ⟨g, cap, cur, h1, _⟩; cases h1; cases h1; rfl)).2 i hi
      have bL : ∀ ad, LA = some ad → w0 + 2 ≤ ad.block := fun ad e => by subst e; exact own_base OL ad.block (by rcases OL.2 with ⟨h1, _⟩ | ⟨g, cap, cur, h1, _⟩; cases h1; cases h1; rfl)
      have bR : ∀ ad, RA = some ad → w0 + 2 ≤ ad.block := fun ad e => by subst e; exact own_base OP ad.block (by rcases OP.2 with ⟨h1, _⟩ | ⟨g, cap, cur, h1, _⟩; cases h1; cases h1; rfl)
      have FL := Lib.hid farL
      have FR := Lib.hid farR
      have BL := Lib.hid bL
      have BR := Lib.hid bR
      clear farL farR bL bR SL SP OL OP
      go_wp2_with fail
      refine wp_region_rel 3 (fun i => match i with
          | 0 => fun v _ => v = .slice LA 4 Lc
          | 1 => fun v _ => v = .agg #[.int .i64 1, .slice RA 4 Rc, .int .i64 (h : Int)]
          | 2 => fun v _ => v = .slice LA 4 Lc
          | _ => fun _ _ => True) (by kernel_rfl) (by kernel_rfl) ?_ ?_ ?_
      · intro i v x y h hg
        match i, h with
        | 0, h | 1, h | 2, h => exact h
        | m + 3, _ => trivial
      · refine ⟨?_, ?_, ?_, trivial⟩
        · intro vs y hg hd
          simp only [actOf, List.take_succ_cons, List.take_zero, List.drop_succ_cons, List.drop_zero, Act.put, List.setIfInBounds_toArray, List.set_cons_succ, List.set_cons_zero, Nat.reduceAdd]
          go_wp2_with fail
          exact ⟨rfl, _, rfl, grew_refl _, rfl⟩
        · intro vs y hg hd
          simp only [actOf, List.take_succ_cons, List.take_zero, List.drop_succ_cons, List.drop_zero, Act.put, List.setIfInBounds_toArray, List.set_cons_succ, List.set_cons_zero, Nat.reduceAdd]
          have hm := HMK.out y hg
          go_wp2_with (with_reducible refine wpList_load_mid rfl 36 (.tmp 8) rfl (w0 + 1) 0 rfl [.int .i64 1, .slice RA 4 Rc, .int .i64 (h : Int)] _ hm hkt rfl HSL.out ?_)
          exact ⟨rfl, _, rfl, grew_refl _, rfl⟩
        · intro vs y hg hd
          obtain ⟨h0, _⟩ := hd
          replace h0 := h0 rfl
          simp only [actOf, List.take_succ_cons, List.take_zero, List.drop_succ_cons, List.drop_zero, Act.put, List.setIfInBounds_toArray, List.set_cons_succ, List.set_cons_zero, Nat.reduceAdd]
          rw [show vs 0 = _ from h0]
          go_wp2_with fail
          exact ⟨rfl, _, rfl, grew_refl _, rfl⟩
      · intro vs y hg hJ
        have j0 : vs 0 = .slice LA 4 Lc := hJ 0 (by decide)
        have j1 : vs 1 = .agg #[.int .i64 1, .slice RA 4 Rc, .int .i64 (h : Int)] := hJ 1 (by decide)
        have j2 : vs 2 = .slice LA 4 Lc := hJ 2 (by decide)
        clear hJ
        simp only [actOf, List.take_succ_cons, List.take_zero, List.drop_succ_cons, List.drop_zero, Act.put, List.setIfInBounds_toArray, List.set_cons_succ, List.set_cons_zero, Nat.reduceAdd]
        have T8 := setCells_kp [Value.int .i64 1, .slice RA 4 Rc, .int .i64 (h : Int)] w0 0 y
        have zr8 := Ag.set (vs := [Value.int .i64 1, .slice RA 4 Rc, .int .i64 (h : Int)]) (zr.grew hg) rfl
        have KS8 := (KS.grew hg).kp T8 (fun i hi => ⟨by have := KS.low i hi; show ¬ p i = w0; omega, by show ¬ p i + 1 = w0; have := KS.low i hi; omega⟩)
        have rL := ((hrL.gr hg).kp T8 (Nat.le_refl _) (fun ad e _ (h : ad.block = w0) => by have := BL.out ad e; omega)).more T8.size
        have rR := ((hrR.gr hg).kp T8 (Nat.le_refl _) (fun ad e _ (h : ad.block = w0) => by have := BR.out ad e; omega)).more T8.size
        have G8 := setCells_grew (o := 0) (b := w0) [Value.int .i64 1, .slice RA 4 Rc, .int .i64 (h : Int)] (grew_trans G hg) (by have := HW0.out; omega)
        have HTY : Hid (y.there w0 0 (#[Value.int .i64 1, .slice RA 4 Rc, .int .i64 (h : Int)] : Array Value).size) := Lib.hid ((zr.grew hg).thereN 3 rfl)
        rw [j1, j2]
        clear j0 j1 j2 hrL hrR KS zk zr hg
        go_wp2_with (with_reducible refine wpList_store_mid rfl 36 (.tmp 7) (.tmp 58) rfl w0 0 (#[Value.int .i64 1, .slice RA 4 Rc, .int .i64 (h : Int)]) rfl rfl HTY.out HSR.out HOR.out ?_)
        refine bodyPost_ret (results_ta Tryz.results33 _ _ w0 _ _ (.slice LA 4 Lc) rfl rfl zr8 hkt rfl HSL.out) rfl ⟨LA, Lc, RA, Rc, p, rfl, ?_, rL, rR, FL.out, FR.out, G8⟩
        exact ⟨KS8.key, fun i hi => by have := KS8.low i hi; have := HW0.out; omega, KS8.apart⟩
end Go.Proofs.YtaeopobofmpioaaGreatDoor

namespace Go.Proofs.YtaeopobofmpioaaGreatDoor
set_option linter.unusedSimpArgs false
set_option linter.unusedVariables false
open Go.RowKit
set_option linter.unusedVariables false
set_option linter.unusedSimpArgs false
set_option maxRecDepth 100000 in
set_option maxHeartbeats 900000 in
theorem stparse_ok (cm : Nat) (who at_ sw lf : Int) (s : Nat → Nat) (l : List Nat) (hc : cm < 18446744073709551616) (hw : -2147483648 ≤ who ∧ who ≤ 2147483647) (ha : in64 at_) (hsw : 0 ≤ sw ∧ sw ≤ 15) (hlf : 0 ≤ lf ∧ lf ≤ 9223372036854775807) (hl : l.length ≤ 8) (hs : ∀ k, k < 18 → s k < 18446744073709551616) (hb : ∀ n ∈ l, n < 18446744073709551616) (w : World) (hS : Std w) :
    Calls Tryz.prog 28 #[.string ⟨(stT cm who at_ sw lf s l).toArray⟩] w fun e w' => (∃ A c, e = .returned (.tuple #[.agg (stC cm who at_ sw lf s (.slice A l.length c)), .int .i64 0]) ∧ Rd w' w'.heap.size A (u64L l)) ∧ Grew w w' := by
  have HS := Lib.hid hS
  have iw : in64 who := ⟨by omega, by omega⟩
  have isw : in64 sw := ⟨by omega, by omega⟩
  have ilf : in64 lf := ⟨by omega, by omega⟩
  have l0 := hexL_length cm
  have l1 := itoa_len iw.1 iw.2
  have l2 := itoa_len ha.1 ha.2
  have l3 := sgT_len sw lf s l isw ilf (by omega)
  have lT := stT_len cm who at_ sw lf s l iw ha isw ilf (by omega)
  have CS := Lib.hid (fun W => split_some (s := ⟨(stT cm who at_ sw lf s l).toArray⟩) (l := [hexL cm, Lib.itoa who, Lib.itoa at_, sgT sw lf s l]) (split_join _) (by simp) (by show (stT cm who at_ sw lf s l).toArray.size ≤ _; simp; omega) W)
  rw [show txt [hexL cm, Lib.itoa who, Lib.itoa at_, sgT sw lf s l] = [⟨(hexL cm).toArray⟩, ⟨(Lib.itoa who).toArray⟩, ⟨(Lib.itoa at_).toArray⟩, ⟨(sgT sw lf s l).toArray⟩] from rfl] at CS
  have N1 := Lib.hid (fun W hW => parseNum_ok ⟨(Lib.itoa who).toArray⟩ (by show (Lib.itoa who).toArray.size ≤ _; simp; omega) W hW)
  have N2 := Lib.hid (fun W hW => parseNum_ok ⟨(Lib.itoa at_).toArray⟩ (by show (Lib.itoa at_).toArray.size ≤ _; simp; omega) W hW)
  have HP := Lib.hid (fun W => parse_any ⟨(hexL cm).toArray⟩ W)
  have KP := Lib.hid (fun W hW => kparse_fr sw lf s l hsw hlf hl hs hb W hW)
  have p1 := pnum_itoa iw.1 iw.2
  have p2 := pnum_itoa ha.1 ha.2
  have p0 := parseO_hexL cm hc
  simp only [p1] at N1
  simp only [p2] at N2
  have HP2 : Hid (∀ W : World, Calls Tryz.prog 86 #[.string ⟨(hexL cm).toArray⟩] W fun e w' => e = .returned (.tuple #[.int .u64 (cm : Nat), .int .i64 0]) ∧ W = w') := Lib.hid (fun W => by
    have := HP.out W
    simp only [p0] at this
    exact this)
  clear p0 p1 p2 l0 l1 l2 l3 lT iw isw ilf hsw hlf hl hs hb hc ha hS HP
  generalize (⟨(stT cm who at_ sw lf s l).toArray⟩ : ByteArray) = tj at *
  generalize (⟨(hexL cm).toArray⟩ : ByteArray) = t0 at *
  generalize (⟨(Lib.itoa who).toArray⟩ : ByteArray) = t1 at *
  generalize (⟨(Lib.itoa at_).toArray⟩ : ByteArray) = t2 at *
  generalize (⟨(sgT sw lf s l).toArray⟩ : ByteArray) = t3 at *
  have z0 := Ag.new w 44 (#[.int .u64 0, .int .i64 0, .int .i64 0, .int .i64 0, .int .i64 0, .int .u64 0, .int .u64 0, .int .u64 0, .int .u64 0, .int .u64 0, .int .u64 0, .int .u64 0, .int .u64 0, .int .u64 0, .int .u64 0, .int .u64 0, .int .u64 0, .int .u64 0, .int .u64 0, .int .u64 0, .int .u64 0, .int .u64 0, .int .u64 0, .slice none 0 0])
  have g0 := grew_alloc (grew_refl w) (.cells (#[.int .u64 0, .int .i64 0, .int .i64 0, .int .i64 0, .int .i64 0, .int .u64 0, .int .u64 0, .int .u64 0, .int .u64 0, .int .u64 0, .int .u64 0, .int .u64 0, .int .u64 0, .int .u64 0, .int .u64 0, .int .u64 0, .int .u64 0, .int .u64 0, .int .u64 0, .int .u64 0, .int .u64 0, .int .u64 0, .int .u64 0, .slice none 0 0]) 44)
  have hus := Tryz.underlying42
  have hut := Tryz.underlying44
  have hw1 : ¬ who < -2147483648 := by omega
  have hw2 : ¬ 2147483647 < who := by omega
  go_enter Tryz.func28, Tryz.ntmps28
  go_wp2_with fail
  refine (CS.out _).mono ?_
  rintro e w1 ⟨⟨v1, rfl, o1⟩, gg⟩
  have z1 := z0.grew gg
  have g1 := grew_trans g0 gg
  obtain ⟨g, k1, rfl, hk1, hgl, hcs⟩ := own_cells o1 (by simp)
  have x0 : w1.cell? ⟨g, 0, none⟩ = some (.string t0) := by simpa using hcs 0 (.string t0) rfl
  have x1 : w1.cell? ⟨g, 1, none⟩ = some (.string t1) := by simpa using hcs 1 (.string t1) rfl
  have x2 : w1.cell? ⟨g, 2, none⟩ = some (.string t2) := by simpa using hcs 2 (.string t2) rfl
  have x3 : w1.cell? ⟨g, 3, none⟩ = some (.string t3) := by simpa using hcs 3 (.string t3) rfl
  clear CS z0 g0 gg o1 hcs
  have hk1' : (4 : Int) ≤ (k1 : Int) := by
    have : 4 ≤ k1 := hk1
    omega
  go_wp2_with fail
  refine (N1.out _ (HS.out.grew g1)).mono ?_
  rintro e w2 ⟨rfl, gg⟩
  have y0 := (gg.cell (p := ⟨g, 0, none⟩) hgl).trans x0
  have y2 := (gg.cell (p := ⟨g, 2, none⟩) hgl).trans x2
  have y3 := (gg.cell (p := ⟨g, 3, none⟩) hgl).trans x3
  have hgl2 := Nat.lt_of_lt_of_le hgl gg.size
  have z2 := z1.grew gg
  have g2 := grew_trans g1 gg
  clear N1 x0 x1 x2 x3 z1 g1 gg hgl
  go_wp2_with fail
  refine (N2.out _ (HS.out.grew g2)).mono ?_
  rintro e w3 ⟨rfl, gg⟩
  have x0 := (gg.cell (p := ⟨g, 0, none⟩) hgl2).trans y0
  have x3 := (gg.cell (p := ⟨g, 3, none⟩) hgl2).trans y3
  have hgl3 := Nat.lt_of_lt_of_le hgl2 gg.size
  have z3 := z2.grew gg
  have g3 := grew_trans g2 gg
  clear N2 y0 y2 y3 z2 g2 gg hgl2
  go_wp2_with fail
  refine (HP2.out _).mono ?_
  rintro e v3 ⟨rfl, rfl⟩
  go_wp2_with fail
  refine (KP.out _ (HS.out.grew g3)).mono ?_
  rintro e w4 ⟨⟨A, c, rfl, r4, hA4⟩, gg⟩
  have z4 := z3.grew gg
  have g4 := grew_trans g3 gg
  have HSI1 : Hid ((Tryz.prog.info? 42).map (·.size) = some (sgC sw lf s (.slice A l.length c)).size) := Lib.hid sg_info
  have HSL1 : Hid ((Tryz.prog.info? 42).map (·.size) = some (sgC sw lf s (.slice A l.length c)).toList.length) := Lib.hid sg_info
  have HON1 := Lib.hid (sgC_one sw lf s A l.length c)
  have HBU := Lib.hid (st_built cm who at_ sw lf s A l.length c)
  have zt := Ag.new w4 42 (#[.int .i64 0, .int .i64 0, .int .u64 0, .int .u64 0, .int .u64 0, .int .u64 0, .int .u64 0, .int .u64 0, .int .u64 0, .int .u64 0, .int .u64 0, .int .u64 0, .int .u64 0, .int .u64 0, .int .u64 0, .int .u64 0, .int .u64 0, .int .u64 0, .int .u64 0, .int .u64 0, .slice none 0 0])
  have HTH : Hid ((w4.alloc (.cells (#[.int .i64 0, .int .i64 0, .int .u64 0, .int .u64 0, .int .u64 0, .int .u64 0, .int .u64 0, .int .u64 0, .int .u64 0, .int .u64 0, .int .u64 0, .int .u64 0, .int .u64 0, .int .u64 0, .int .u64 0, .int .u64 0, .int .u64 0, .int .u64 0, .int .u64 0, .int .u64 0, .slice none 0 0]) 42)).there w4.heap.size 0 (sgC sw lf s (.slice A l.length c)).size) := Lib.hid (zt.thereN 21 rfl)
  have z5 := Ag.set (vs := (sgC sw lf s (.slice A l.length c)).toList) zt rfl
  have g5 : Grew w4 ((w4.alloc (.cells (#[.int .i64 0, .int .i64 0, .int .u64 0, .int .u64 0, .int .u64 0, .int .u64 0, .int .u64 0, .int .u64 0, .int .u64 0, .int .u64 0, .int .u64 0, .int .u64 0, .int .u64 0, .int .u64 0, .int .u64 0, .int .u64 0, .int .u64 0, .int .u64 0, .int .u64 0, .int .u64 0, .slice none 0 0]) 42)).setCells w4.heap.size 0 (sgC sw lf s (.slice A l.length c)).toList) := setCells_grew (o := 0) (b := w4.heap.size) (sgC sw lf s (.slice A l.length c)).toList (grew_alloc (grew_refl w4) _) (Nat.le_refl _)
  have z6 := z4.grew g5
  have r6 := r4.gr g5
  have g6 := grew_trans g4 g5
  obtain ⟨g1, hg1⟩ : ∃ g, sgC sw lf s (.slice A l.length c) = g := ⟨_, rfl⟩
  rw [hg1] at HSI1 HSL1 HON1 HTH HBU z5 z6 r6 g6 ⊢
  obtain ⟨w6, hw6⟩ : ∃ v, (w4.alloc (.cells (#[.int .i64 0, .int .i64 0, .int .u64 0, .int .u64 0, .int .u64 0, .int .u64 0, .int .u64 0, .int .u64 0, .int .u64 0, .int .u64 0, .int .u64 0, .int .u64 0, .int .u64 0, .int .u64 0, .int .u64 0, .int .u64 0, .int .u64 0, .int .u64 0, .int .u64 0, .int .u64 0, .slice none 0 0]) 42)).setCells w4.heap.size 0 g1.toList = v := ⟨_, rfl⟩
  rw [hw6] at z5 z6 r6 g6
  have HW6 := Lib.hid hw6
  have hm5 := z5.cell
  have hz3 := z3.lt
  have HFR : Hid (l.length = 0 ∨ ∀ ad, A = some ad → ad.block ≠ w.heap.size) := Lib.hid (.inr (fun ad e => by have := hA4 ad e; omega))
  clear hz3 hA4 hw6 hg1 zt g5 x0 x3 z3 g3 z4 g4 gg r4 hgl3
  have HTZ : Hid (w6.there w.heap.size 0 (stC cm who at_ sw lf s (.slice A l.length c)).size) := Lib.hid (z6.thereN 24 rfl)
  have HOZ := Lib.hid (stC_one cm who at_ sw lf s A l.length c)
  have HSZ : Hid ((Tryz.prog.info? 44).map (·.size) = some (stC cm who at_ sw lf s (.slice A l.length c)).size) := Lib.hid st_info
  have HSZL : Hid ((Tryz.prog.info? 44).map (·.size) = some (stC cm who at_ sw lf s (.slice A l.length c)).toList.length) := Lib.hid st_info
  have z7 := Ag.set (vs := (stC cm who at_ sw lf s (.slice A l.length c)).toList) z6 rfl
  have K7 := setCells_kp (stC cm who at_ sw lf s (.slice A l.length c)).toList w.heap.size 0 w6
  have G7 := setCells_grew (o := 0) (b := w.heap.size) (stC cm who at_ sw lf s (.slice A l.length c)).toList g6 (Nat.le_refl _)
  have R7 : Rd (w6.setCells w.heap.size 0 (stC cm who at_ sw lf s (.slice A l.length c)).toList) (w6.setCells w.heap.size 0 (stC cm who at_ sw lf s (.slice A l.length c)).toList).heap.size A (u64L l) := by
    rcases HFR.out with h0 | hf
    · exact fun j hj => absurd hj (by simp [u64L]; omega)
    · exact (r6.kp K7 (Nat.le_refl _) (fun ad e1 _ (e3 : ad.block = w.heap.size) => hf ad e1 e3)).more K7.size
  obtain ⟨g2, hg2⟩ : ∃ g, stC cm who at_ sw lf s (.slice A l.length c) = g := ⟨_, rfl⟩
  have HG2' := Lib.hid hg2
  rw [hg2] at HTZ HOZ HSZ HSZL HBU z7 G7 R7
  clear z6 K7 r6 g6 hg2
  go_wp2_with (first
    | (with_reducible refine wpList_store_mid rfl 42 (.tmp 11) (.tmp 70) rfl w4.heap.size 0 g1 rfl rfl HTH.out HSI1.out HON1.out ?_; rw [HW6.out]; clear HW6 HTH)
    | (with_reducible refine wpList_load_mid rfl 42 (.tmp 11) rfl w4.heap.size 0 rfl g1.toList _ hm5 hus rfl HSL1.out ?_; simp only [Array.toArray_toList])
    | (with_reducible refine wpList_build_is rfl 44 #[(0, .tmp 76), (1, .tmp 77), (2, .tmp 78), (3, .tmp 79)] rfl g2 ?_ ?_; · simpa [Act.eval, Act.put] using HBU.out)
    | (with_reducible refine wpList_store_mid rfl 44 (.tmp 2) (.tmp 80) rfl w.heap.size 0 g2 rfl rfl HTZ.out HSZ.out HOZ.out ?_))
  exact bodyPost_ret (results_ag2 Tryz.results28 _ _ w.heap.size _ _ _ rfl rfl z7 hut rfl HSZL.out) rfl ⟨⟨A, c, by show Ending.returned (.tuple #[.agg g2.toList.toArray, .int .i64 0]) = _; rw [Array.toArray_toList, ← HG2'.out], R7⟩, G7⟩
end Go.Proofs.YtaeopobofmpioaaGreatDoor

namespace Go.Proofs.YtaeopobofmpioaaGreatDoor
set_option linter.unusedSimpArgs false
set_option linter.unusedVariables false
open Go.RowKit
set_option linter.unusedVariables false
theorem stW_9 : stW 77 2 9 = [124, 115, 116, 97, 109, 112, 124, 48, 48, 48, 48, 48, 48, 48, 48, 48, 48, 48, 48, 48, 48, 52, 100, 124, 50, 124, 57] := by decide +kernel
theorem stD_9 : stD 77 2 9 = 10245224531534997766 := by unfold stD; rw [sumL_C]; decide +kernel
theorem stD_10 : stD 77 2 10 = 16565649433065096176 := by unfold stD; rw [sumL_C]; decide +kernel
theorem sd_7 : sdI 5 2 = 7 := by decide
theorem ky7_root : rootN (pubsL 7 2) = twoN tagMt (pubN (secN 7 0)) (pubN (secN 7 1)) := by
  have h := (halves 0 (by decide) (pubsL 7 2) (by rw [pubsL_length])).1
  rw [h]
  have e1 : (pubsL 7 2).take (2 ^ 0) = [pubN (secN 7 0)] := by simp [pubsL, List.range_succ]
  have e2 : (pubsL 7 2).drop (2 ^ 0) = [pubN (secN 7 1)] := by simp [pubsL, List.range_succ]
  rw [e1, e2]
  simp [rootN, rootF]
theorem ky7_path : pathN (pubsL 7 2) 0 = [pubN (secN 7 1)] := by
  obtain ⟨_, h1, _, h3⟩ := halves 0 (by decide) (pubsL 7 2) (by rw [pubsL_length])
  match hp : pathN (pubsL 7 2) 0, h1 with
  | [x], _ =>
    rw [hp] at h3
    have e : (pubsL 7 2).getD 1 0 = pubN (secN 7 1) := by simp [pubsL, List.range_succ]
    rw [e] at h3
    simpa using h3
theorem sec7_C (i k : Nat) (hi : i < 2) (h : k < 18) : secN 7 i k = twoC tagSk 7 (32 * i + k) := by
  unfold secN
  rw [twoN_C]
  congr 1
  show (((32 * (i : Int) + (k : Int)) % 18446744073709551616)).toNat = 32 * i + k
  omega
def pub7C (i : Nat) : Nat := foldC (fun k => chainC (sumC tagOt []) (twoC tagSk 7 (32 * i + k)) 15) 18
def rec7C : Nat := foldC (fun k => chainC (sumC tagOt []) (chainC (sumC tagOt []) (twoC tagSk 7 (32 * 0 + k)) (digK 10245224531534997766 k)) (15 - digK 16565649433065096176 k)) 18
theorem pub7_C (i : Nat) (hi : i < 2) : pubN (secN 7 i) = pub7C i := by
  unfold pubN
  rw [foldN_C]
  refine foldC_congr _ _ _ fun k hk => ?_
  show chainI tagOt (secN 7 i k) ((15 : Nat) : Int) = _
  rw [chainI_C _ _ _ (by omega), sec7_C i k hi hk]
theorem rec7_C : recN (signF (secN 7 (0 : Nat)) 10245224531534997766) 16565649433065096176 = rec7C := by
  unfold recN
  rw [foldN_C]
  refine foldC_congr _ _ _ fun k hk => ?_
  show chainI tagOt (chainI tagOt (secN 7 (0 : Nat) k) (digK 10245224531534997766 k : Nat)) ((15 - digK 16565649433065096176 k : Nat) : Int) = _
  have := digK_le 10245224531534997766 k
  rw [chainI_C _ _ _ (by omega), chainI_C _ _ _ (by omega), sec7_C 0 k (by omega) hk]
set_option maxRecDepth 20000 in
theorem ky7_ne : twoC tagMt rec7C (pub7C 1) ≠ twoC tagMt (pub7C 0) (pub7C 1) := by decide +kernel
theorem ver7_10 : vrS (rootN (pubsL 7 2)) 0 (signF (secN 7 (0 : Nat)) 10245224531534997766) (pathN (pubsL 7 2) 0) (16565649433065096176 : Int) 1 = false := by
  unfold vrS
  rw [ky7_path, ky7_root, show (16565649433065096176 : Int).toNat = 16565649433065096176 from rfl, verN_yes (by simp)]
  have h1 := pub7_C 0 (by decide)
  have h2 := pub7_C 1 (by decide)
  have h3 := rec7_C
  have h4 := ky7_ne
  simp only [climbN, List.length_cons, List.length_nil, Bool.and_eq_false_iff, beq_eq_false_iff_ne]
  right
  intro he
  apply h4
  rw [← twoN_C, ← twoN_C, ← h1, ← h2, ← h3]
  simpa using he
theorem rt_len (seed : Int) (h n : Nat) : (rtL seed h n).length = n := by simp [rtL]
theorem rt_get (seed : Int) (h n i : Nat) (hi : i < n) : (rtL seed h n).getD i 0 = rootN (ksL seed h i) := by simp [rtL, List.getD, hi]
theorem rt_lt (seed : Int) (h n : Nat) (hh : h ≤ 8) : ∀ x ∈ rtL seed h n, x < 18446744073709551616 := by
  intro x hx
  obtain ⟨i, _, rfl⟩ := List.mem_map.1 hx
  exact rootN_lt _ (pubsL_lt _ _)
/-- a stamp that its own key made holds -/
theorem va_yes (seed : Int) (h : Nat) (hh : h ≤ 8) (i m : Nat) (hi : i < 4) (hm : m < 2 ^ h) (cm : Nat) (at_ : Int) (ht : tmB at_ = true) :
    vaE 1 (rtL seed h 4) (h : Int) cm (i : Int) at_ (i : Int) (m : Int) (signF (secN (sdI seed i) (m : Int)) (stD cm (i : Int) at_)) (pathN (ksL seed h i) m) = 0 := by
  unfold vaE
  rw [if_neg (by omega), if_neg (by omega), if_pos ht, Int.toNat_natCast]
  unfold ckE
  rw [if_neg (by rw [rt_len]; omega), if_pos rfl, rt_get _ _ _ _ hi]
  have := ver_pow (sdI seed i) h hh m (stD cm (i : Int) at_ : Nat) (by omega) hm
  rw [Int.toNat_natCast] at this
  rw [if_pos]
  exact this
theorem va_1 : vaE 1 (rtL 5 1 4) (1 : Nat) 77 2 9 2 0 (signF (secN 7 (0 : Nat)) 10245224531534997766) (pathN (pubsL 7 2) 0) = 0 := by
  have := va_yes 5 1 (by omega) 2 0 (by omega) (by decide) 77 9 (by decide)
  rw [sd_7, show ksL 5 1 2 = pubsL 7 2 from by unfold ksL; rw [sd_7]] at this
  rw [show ((2 : Nat) : Int) = 2 from rfl, stD_9] at this
  exact this
theorem va_2 : vaE 1 (rtL 5 1 4) (1 : Nat) 77 2 10 2 0 (signF (secN 7 (0 : Nat)) 10245224531534997766) (pathN (pubsL 7 2) 0) = 7 := by
  unfold vaE
  rw [if_neg (by omega), if_neg (by omega), if_pos (by decide), show (2 : Int).toNat = 2 from rfl]
  unfold ckE
  rw [if_neg (by rw [rt_len]; omega), if_pos (by decide), rt_get _ _ _ _ (by omega), stD_10, show ksL 5 1 2 = pubsL 7 2 from by unfold ksL; rw [sd_7]]
  have := ver7_10
  rw [if_neg]
  rw [show ((16565649433065096176 : Nat) : Int) = 16565649433065096176 from rfl, show ((1 : Nat) : Int) = 1 from rfl, this]
  simp
theorem va_3 : vaE 1 (rtL 5 1 4) (1 : Nat) 77 1 9 2 0 (signF (secN 7 (0 : Nat)) 10245224531534997766) (pathN (pubsL 7 2) 0) = 7 := by
  unfold vaE
  rw [if_neg (by omega), if_neg (by omega), if_pos (by decide), show (1 : Int).toNat = 1 from rfl]
  unfold ckE
  rw [if_neg (by rw [rt_len]; omega), if_neg (by decide)]
theorem cy_1 : cyE 1 4 (1 : Nat) = 0 := by decide
end Go.Proofs.YtaeopobofmpioaaGreatDoor

namespace Go.Proofs.YtaeopobofmpioaaGreatDoor
set_option linter.unusedSimpArgs false
set_option linter.unusedVariables false
open Go.RowKit
set_option linter.unusedVariables false
set_option linter.unusedSimpArgs false
set_option maxRecDepth 100000 in
theorem kparse_fr2 (tj : ByteArray) (hz : tj.size ≤ 1000000) (w : World) (hS : Std w) :
    Calls Tryz.prog 87 #[.string tj] w fun e w' => (∃ A c, e = .returned (.tuple #[.agg (sgC (sgO (sigP tj.data.toList)).1.1 (sgO (sigP tj.data.toList)).1.2 (sgO (sigP tj.data.toList)).2.1 (.slice A (sgO (sigP tj.data.toList)).2.2.length c)), .int .i64 (sgE (sigP tj.data.toList))]) ∧ Rd w' w'.heap.size A (u64L (sgO (sigP tj.data.toList)).2.2) ∧ (∀ ad, A = some ad → w.heap.size < ad.block)) ∧ Grew w w' := by
  have hlen : tj.data.toList.length ≤ 1000000 := by rw [ba_len]; exact hz
  cases hp : sigP tj.data.toList with
  | none =>
    by_cases h4 : ∃ x0 x1 x2 x3, splitF tj.data.toList = some [x0, x1, x2, x3]
    · obtain ⟨x0, x1, x2, x3, hsp⟩ := h4
      have g := fun x hx => Nat.le_trans (split_ge hsp x hx) hlen
      have hno : sig4 x0 x1 x2 x3 = false := by
        unfold sigP at hp
        rw [hsp] at hp
        by_cases h : sig4 x0 x1 x2 x3 = true
        · simp only [h, if_true] at hp; cases hp
        · simpa using h
      exact (kparse_four tj x0 x1 x2 x3 hsp hz (g x0 (by simp)) (g x1 (by simp)) (g x2 (by simp)) (g x3 (by simp)) hno w hS).mono fun e w' ⟨h1, h2⟩ => ⟨⟨none, 0, h1, fun k hk => absurd hk (by simp [sgO, u64L]), fun ad h => by cases h⟩, h2⟩
    · exact (kparse_split tj hz (fun a b c d h => h4 ⟨a, b, c, d, h⟩) w).mono fun e w' ⟨h1, h2⟩ => ⟨⟨none, 0, h1, fun k hk => absurd hk (by simp [sgO, u64L]), fun ad h => by cases h⟩, h2⟩
  | some v =>
    obtain ⟨⟨who, leaf⟩, q, l⟩ := v
    obtain ⟨x0, x1, x2, x3, hsp, p0, b0, p1, b1, d2, d3, hq, hl, -⟩ := sigP_back hp
    have g := fun x hx => Nat.le_trans (split_ge hsp x hx) hlen
    rw [← oneL_of hq] at d2
    exact (kparse_core tj x0 x1 x2 x3 who leaf (fun k => q.getD k 0) l hsp hz (g x0 (by simp)) (g x1 (by simp)) (g x2 (by simp)) (g x3 (by simp)) p0 b0 p1 b1 d2 d3 hl w hS).mono fun e w' ⟨⟨A, c, h1, h2, h4⟩, h3⟩ => ⟨⟨A, c, h1, h2, h4⟩, h3⟩
set_option maxRecDepth 100000 in
theorem rps_fr2 (tj : ByteArray) (hz : tj.size ≤ 1000000) (w : World) :
    Calls Tryz.prog 92 #[.string tj] w fun e w' => (∃ A c, e = .returned (.tuple #[.agg (sgC (sgO (sigP tj.data.toList)).1.1 (sgO (sigP tj.data.toList)).1.2 (sgO (sigP tj.data.toList)).2.1 (.slice A (sgO (sigP tj.data.toList)).2.2.length c)), .int .i64 (sgE (sigP tj.data.toList))]) ∧ Rd w' w'.heap.size A (u64L (sgO (sigP tj.data.toList)).2.2) ∧ (∀ ad, A = some ad → w.heap.size < ad.block)) ∧ Grew w w' := by
  have hlen : tj.data.toList.length ≤ 1000000 := by rw [ba_len]; exact hz
  cases hp : sigP tj.data.toList with
  | none =>
    by_cases h4 : ∃ x0 x1 x2 x3, splitF tj.data.toList = some [x0, x1, x2, x3]
    · obtain ⟨x0, x1, x2, x3, hsp⟩ := h4
      have g := fun x hx => Nat.le_trans (split_ge hsp x hx) hlen
      have hno : sig4 x0 x1 x2 x3 = false := by
        unfold sigP at hp
        rw [hsp] at hp
        by_cases h : sig4 x0 x1 x2 x3 = true
        · simp only [h, if_true] at hp; cases hp
        · simpa using h
      exact (rps_four tj x0 x1 x2 x3 hsp hz (g x0 (by simp)) (g x1 (by simp)) (g x2 (by simp)) (g x3 (by simp)) hno w).mono fun e w' ⟨h1, h2⟩ => ⟨⟨none, 0, h1, fun k hk => absurd hk (by simp [sgO, u64L]), fun ad h => by cases h⟩, h2⟩
    · exact (rps_split tj hz (fun a b c d h => h4 ⟨a, b, c, d, h⟩) w).mono fun e w' ⟨h1, h2⟩ => ⟨⟨none, 0, h1, fun k hk => absurd hk (by simp [sgO, u64L]), fun ad h => by cases h⟩, h2⟩
  | some v =>
    obtain ⟨⟨who, leaf⟩, q, l⟩ := v
    obtain ⟨x0, x1, x2, x3, hsp, p0, b0, p1, b1, d2, d3, hq, hl, -⟩ := sigP_back hp
    have g := fun x hx => Nat.le_trans (split_ge hsp x hx) hlen
    rw [← oneL_of hq] at d2
    exact (rps_core tj x0 x1 x2 x3 who leaf (fun k => q.getD k 0) l hsp hz (g x0 (by simp)) (g x1 (by simp)) (g x2 (by simp)) (g x3 (by simp)) p0 b0 p1 b1 d2 d3 hl w).mono fun e w' ⟨⟨A, c, h1, h2, h4⟩, h3⟩ => ⟨⟨A, c, h1, h2, h4⟩, h3⟩
/-- what a text reads as: the digest, who, when, the signature -/
structure StR where
  cm : Nat
  who : Int
  at_ : Int
  g : (Int × Int) × (Nat → Nat) × List Nat
def StR.zero : StR := ⟨0, 0, 0, ((0, 0), fun _ => 0, [])⟩
def StR.v (r : StR) (pv : Value) : Array Value := stC r.cm r.who r.at_ r.g.1.1 r.g.1.2 r.g.2.1 pv
def smallB (n : Int) : Bool := decide (-2147483648 ≤ n ∧ n ≤ 2147483647)
def st4 (x0 x1 x2 x3 : List UInt8) : Bool := decide ((pnum x1).2 = 0) && decide ((pnum x2).2 = 0) && smallB (pnum x1).1 && (parseO x0).isSome && (sigP x3).isSome
def stF (x0 x1 x2 x3 : List UInt8) : StR := ⟨(parseO x0).getD 0, (pnum x1).1, (pnum x2).1, sgO (sigP x3)⟩
def stO (S : List UInt8) : StR := match splitF S with
  | some [x0, x1, x2, x3] => if st4 x0 x1 x2 x3 = true then stF x0 x1 x2 x3 else .zero
  | _ => .zero
def stE (S : List UInt8) : Int := match splitF S with
  | none => 2
  | some l => if 4096 < l.length then 4 else match l with
    | [x0, x1, x2, x3] => if st4 x0 x1 x2 x3 = true then 0 else 2
    | _ => 2
theorem stE_none {S : List UInt8} (h : splitF S = none) : stE S = 2 ∧ stO S = .zero := by unfold stE stO; rw [h]; exact ⟨rfl, rfl⟩
theorem stE_long {S : List UInt8} {l : List (List UInt8)} (h : splitF S = some l) (hl : 4096 < l.length) : stE S = 4 ∧ stO S = .zero := by
  unfold stE stO
  rw [h]
  refine ⟨by simp [hl], ?_⟩
  match l, hl with
  | [], hl => rfl
  | [_], hl => rfl
  | [_, _], hl => rfl
  | [_, _, _], hl => rfl
  | [_, _, _, _], hl => simp at hl
  | _ :: _ :: _ :: _ :: _ :: _, hl => rfl
theorem stE_len {S : List UInt8} {l : List (List UInt8)} (h : splitF S = some l) (hl : l.length ≤ 4096) (h4 : l.length ≠ 4) : stE S = 2 ∧ stO S = .zero := by
  unfold stE stO
  rw [h]
  match l, hl, h4 with
  | [], hl, h4 => exact ⟨rfl, rfl⟩
  | [_], hl, h4 => exact ⟨rfl, rfl⟩
  | [_, _], hl, h4 => exact ⟨rfl, rfl⟩
  | [_, _, _], hl, h4 => exact ⟨rfl, rfl⟩
  | [_, _, _, _], hl, h4 => exact absurd rfl h4
  | _ :: _ :: _ :: _ :: _ :: _, hl, h4 => exact ⟨by simp only [if_neg (Nat.not_lt.2 hl)], rfl⟩
theorem stE_four {S : List UInt8} {x0 x1 x2 x3 : List UInt8} (h : splitF S = some [x0, x1, x2, x3]) : stE S = (if st4 x0 x1 x2 x3 = true then 0 else 2) ∧ stO S = if st4 x0 x1 x2 x3 = true then stF x0 x1 x2 x3 else .zero := by
  unfold stE stO
  rw [h]
  exact ⟨by simp, rfl⟩
end Go.Proofs.YtaeopobofmpioaaGreatDoor
