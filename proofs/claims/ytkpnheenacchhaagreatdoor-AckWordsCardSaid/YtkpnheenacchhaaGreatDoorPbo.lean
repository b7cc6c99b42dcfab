/- ack.Valid; the reference's ValidAck (mkakd.py). -/
import Derived.Test.YtkpnheenacchhaaGreatDoorPbn
import Derived.Test.YtkpnheenacchhaaGreatDoorPbm
import Derived.Test.YtkpnheenacchhaaGreatDoorPbk
namespace Go.Proofs.YtkpnheenacchhaaGreatDoor
set_option linter.unusedSimpArgs false
set_option linter.unusedVariables false
open Go.RowKit
set_option linter.unusedVariables false
set_option linter.unusedSimpArgs false
set_option maxRecDepth 100000 in
theorem ak_fold (cm : Nat) (who sw lf : Int) (s : Nat → Nat) (A : Option Addr) (n c : Nat) : Array.foldl (fun (cs : Array Value) (x : Value × Nat) => cs.setIfInBounds x.snd x.fst) (#[.int .u64 0, .int .i64 0, .int .i64 0, .int .i64 0, .int .u64 0, .int .u64 0, .int .u64 0, .int .u64 0, .int .u64 0, .int .u64 0, .int .u64 0, .int .u64 0, .int .u64 0, .int .u64 0, .int .u64 0, .int .u64 0, .int .u64 0, .int .u64 0, .int .u64 0, .int .u64 0, .int .u64 0, .int .u64 0, .slice none 0 0]) (akC cm who sw lf s (.slice A n c)).zipIdx 0 23 = akC cm who sw lf s (.slice A n c) := by kernel_rfl
/-- what a look at an ack comes to -/
noncomputable def kvE (f : Int) (R : List Nat) (h : Int) (cm : Nat) (who sw lf : Int) (s : Nat → Nat) (l : List Nat) : Int :=
 if who < 0 then 1 else if 3 * f + 1 ≤ who then 1 else ckE R h who.toNat (akD cm who) sw lf s l
set_option maxRecDepth 100000 in
set_option maxHeartbeats 2000000 in
theorem akvalid_ok (f : Int) (hf : 1 ≤ f ∧ f ≤ 3) (R : List Nat) (RA : Option Addr) (Rc : Nat) (h : Int) (cm : Nat) (who sw lf : Int) (s : Nat → Nat) (A : Option Addr) (c : Nat) (l : List Nat) (hc : cm < 18446744073709551616) (hw : in64 who) (hsw : in64 sw) (hlf : in64 lf) (hl : l.length ≤ 1000) (hs : ∀ k, k < 18 → s k < 18446744073709551616) (hb : ∀ x ∈ l, x < 18446744073709551616)
 (hRl : R.length ≤ 1000) (hRb : ∀ x ∈ R, x < 18446744073709551616) (w : World) (hS : Std w) (hrR : Rd w w.heap.size RA (u64L R)) (hrl : Rd w w.heap.size A (u64L l)) :
 Calls Tryz.prog 35 #[.agg (kyS f RA R.length Rc h), .agg (akC cm who sw lf s (.slice A l.length c))] w fun e w' => e = .returned (.int .i64 (kvE f R h cm who sw lf s l)) ∧ Grew w w' := by
 have hut := Tryz.underlying79
 have huf := Tryz.underlying89
 have HST : Hid ((Tryz.prog.info? 79).map (·.size) = some (akC cm who sw lf s (.slice A l.length c)).toList.length) := Lib.hid ak_info
 have HCF : Hid ((Tryz.prog.info? 89).map (·.size) = some [Value.int .i64 f].length) := Lib.hid (by kernel_rfl)
 have CN := Lib.hid (fun W => qn_ok f hf W)
 have zk := (Ag.new w 91 (kyS f RA R.length Rc h)).grew (grew_alloc (grew_refl _) (.cells (akC cm who sw lf s (.slice A l.length c)) 79))
 have zs : Ag ((w.alloc (.cells (kyS f RA R.length Rc h) 91)).alloc (.cells (akC cm who sw lf s (.slice A l.length c)) 79)) (w.heap.size + 1) (akC cm who sw lf s (.slice A l.length c)).toList := by
  have := Ag.new (w.alloc (.cells (kyS f RA R.length Rc h) 91)) 79 (akC cm who sw lf s (.slice A l.length c))
  simpa using this
 have G1 := grew_alloc (grew_alloc (grew_refl w) (.cells (kyS f RA R.length Rc h) 91)) (.cells (akC cm who sw lf s (.slice A l.length c)) 79)
 have HS := Lib.hid hS
 have HR := Lib.hid hrR
 have HL := Lib.hid hrl
 have HRb := Lib.hid hRb
 have HB := Lib.hid hb
 have HSS := Lib.hid hs
 have h3f : (4 : Int) ≤ 3 * f + 1 ∧ 3 * f + 1 ≤ 10 := by omega
 have HF := Lib.hid hf
 clear hS hrR hrl hRb hb hs hf
 go_enter Tryz.func35, Tryz.ntmps35
 go_wp2_with fail
 generalize (w.alloc (.cells (kyS f RA R.length Rc h) 91)).alloc (.cells (akC cm who sw lf s (.slice A l.length c)) 79) = w1 at *
 have m1 : ∀ y : Gr w1, y.val.cell? ⟨w.heap.size + 1, 1, none⟩ = some (.int .i64 who) := fun y => by simpa using (zs.gr y).cell 1 _ rfl
 have qf : Hid (∀ y : Gr w1, y.val.rangeAt w.heap.size 0 [.int .i64 f]) := Lib.hid (fun y j v hj => by
  have hj0 : j = 0 := by have := (List.getElem?_eq_some_iff.1 hj).1; simpa using this
  subst hj0
  have h0 : v = .int .i64 f := by simpa using hj.symm
  rw [h0]
  exact (zk.gr y).cell 0 _ rfl)
 obtain ⟨nn, hnn⟩ : ∃ nn, 3 * f + 1 = nn := ⟨_, rfl⟩
 rw [hnn] at CN h3f
 have HNN := Lib.hid hnn
 clear hnn
 by_cases hA : who < 0
 ·have HE : Hid (kvE f R h cm who sw lf s l = 1) := Lib.hid (by unfold kvE; rw [if_pos hA])
  refine wp_region_grew (grew_refl w1) (by kernel_rfl) (by kernel_rfl) ?_
  repeat (first
   | (go_big_quiet_want; refine quiet_load_mid 89 (.tmp 11) rfl w.heap.size 0 rfl [.int .i64 f] _ qf.out huf rfl HCF.out ?_; simp only [Act.put, List.setIfInBounds_toArray, List.set_cons_succ, List.set_cons_zero, Array.toArray_toList]; go_big_quiet_on)
   | (go_big_quiet_step ((go_at_call 97; exact callG (CN.out _)))))
  refine wpQuiet_nil ?_
  rintro w8 ⟨⟨w8', g8⟩, rfl⟩
  have G8 := grew_trans G1 g8
  go_wp2_with fail
  go_ret
  exact ⟨by rw [HE.out]; rfl, G8⟩
 by_cases hB : nn ≤ who
 ·have HE : Hid (kvE f R h cm who sw lf s l = 1) := Lib.hid (by unfold kvE; rw [if_neg hA, HNN.out, if_pos hB])
  refine wp_region_grew (grew_refl w1) (by kernel_rfl) (by kernel_rfl) ?_
  repeat (first
   | (go_big_quiet_want; refine quiet_load_mid 89 (.tmp 11) rfl w.heap.size 0 rfl [.int .i64 f] _ qf.out huf rfl HCF.out ?_; simp only [Act.put, List.setIfInBounds_toArray, List.set_cons_succ, List.set_cons_zero, Array.toArray_toList]; go_big_quiet_on)
   | (go_big_quiet_step ((go_at_call 97; exact callG (CN.out _)))))
  refine wpQuiet_nil ?_
  rintro w8 ⟨⟨w8', g8⟩, rfl⟩
  have G8 := grew_trans G1 g8
  go_wp2_with fail
  go_ret
  exact ⟨by rw [HE.out]; rfl, G8⟩
 have HE : Hid (kvE f R h cm who sw lf s l = ckE R h who.toNat (akD cm who) sw lf s l) := Lib.hid (by unfold kvE; rw [if_neg hA, HNN.out, if_neg hB])
 obtain ⟨n, rfl⟩ := Int.eq_ofNat_of_zero_le (show 0 ≤ who by omega)
 rw [Int.toNat_natCast] at HE
 refine wp_region_grew (grew_refl w1) (by kernel_rfl) (by kernel_rfl) ?_
 repeat (first
  | (go_big_quiet_want; refine quiet_load_mid 89 (.tmp 11) rfl w.heap.size 0 rfl [.int .i64 f] _ qf.out huf rfl HCF.out ?_; simp only [Act.put, List.setIfInBounds_toArray, List.set_cons_succ, List.set_cons_zero, Array.toArray_toList]; go_big_quiet_on)
  | (go_big_quiet_step ((go_at_call 97; exact callG (CN.out _)))))
 refine wpQuiet_nil ?_
 rintro w8 ⟨⟨w8', g8⟩, rfl⟩
 have G8 := grew_trans G1 g8
 have zk8 := zk.grew g8
 have zs8 := zs.grew g8
 have hk1 : w8.cell? ⟨w.heap.size, 1, none⟩ = some (.slice RA R.length Rc) := by simpa using zk8.cell 1 _ rfl
 have hk2 : w8.cell? ⟨w.heap.size, 2, none⟩ = some (.int .i64 h) := by simpa using zk8.cell 2 _ rfl
 have hm := zs8.cell
 have hsz : (akC cm (n : Int) sw lf s (.slice A l.length c)).size = 23 := rfl
 clear m1 qf
 go_wp2_with (with_reducible refine wpList_load_mid rfl 79 (.tmp 3) rfl (w.heap.size + 1) 0 rfl (akC cm (n : Int) sw lf s (.slice A l.length c)).toList _ hm hut rfl HST.out ?_; simp only [Array.toArray_toList])
 rw [ak_fold]
 have GA := grew_alloc (grew_refl w8) (.cells (akC cm (n : Int) sw lf s (.slice A l.length c)) 79)
 have zq := Ag.new w8 79 (akC cm (n : Int) sw lf s (.slice A l.length c))
 have G9 := grew_trans G8 GA
 refine (akcheck_ok R RA Rc h cm n sw lf s A c l hc hw hsw hlf hl HSS.out HB.out hRl HRb.out w8.heap.size _ (HS.out.grew G9) (HR.out.gr G9) (HL.out.gr G9) zq.cell zq.lt).mono ?_
 rintro e w9 ⟨rfl, gg⟩
 go_wp2_with fail
 go_ret
 exact ⟨by rw [HE.out]; rfl, grew_trans G9 gg⟩
end Go.Proofs.YtkpnheenacchhaaGreatDoor

namespace Go.Proofs.YtkpnheenacchhaaGreatDoor
set_option linter.unusedSimpArgs false
set_option linter.unusedVariables false
open Go.RowKit
set_option linter.unusedVariables false
set_option linter.unusedSimpArgs false
/-- what a text reads as: the digest, who, the signature -/
structure AkR where
 cm : Nat
 who : Int
 g : (Int × Int) × (Nat → Nat) × List Nat
def AkR.zero : AkR := ⟨0, 0, ((0, 0), fun _ => 0, [])⟩
def AkR.v (r : AkR) (pv : Value) : Array Value := akC r.cm r.who r.g.1.1 r.g.1.2 r.g.2.1 pv
def ak3 (x0 x1 x2 : List UInt8) : Bool := decide ((pnum x1).2 = 0) && smallB (pnum x1).1 && (parseO x0).isSome && (sigP x2).isSome
def akF (x0 x1 x2 : List UInt8) : AkR := ⟨(parseO x0).getD 0, (pnum x1).1, sgO (sigP x2)⟩
def akO (S : List UInt8) : AkR := match splitF S with
 | some [x0, x1, x2] => if ak3 x0 x1 x2 = true then akF x0 x1 x2 else .zero
 | _ => .zero
def akE (S : List UInt8) : Int := match splitF S with
 | none => 2
 | some l => if 4096 < l.length then 4 else match l with
  | [x0, x1, x2] => if ak3 x0 x1 x2 = true then 0 else 2
  | _ => 2
theorem akE_none {S : List UInt8} (h : splitF S = none) : akE S = 2 ∧ akO S = .zero := by unfold akE akO; rw [h]; exact ⟨rfl, rfl⟩
theorem akE_long {S : List UInt8} {l : List (List UInt8)} (h : splitF S = some l) (hl : 4096 < l.length) : akE S = 4 ∧ akO S = .zero := by
 unfold akE akO
 rw [h]
 refine ⟨by simp [hl], ?_⟩
 match l, hl with
 | [], hl => rfl
 | [_], hl => rfl
 | [_, _], hl => rfl
 | [_, _, _], hl => simp at hl
 | _ :: _ :: _ :: _ :: _, hl => rfl
theorem akE_len {S : List UInt8} {l : List (List UInt8)} (h : splitF S = some l) (hl : l.length ≤ 4096) (h4 : l.length ≠ 3) : akE S = 2 ∧ akO S = .zero := by
 unfold akE akO
 rw [h]
 match l, hl, h4 with
 | [], hl, h4 => exact ⟨rfl, rfl⟩
 | [_], hl, h4 => exact ⟨rfl, rfl⟩
 | [_, _], hl, h4 => exact ⟨rfl, rfl⟩
 | [_, _, _], hl, h4 => exact absurd rfl h4
 | _ :: _ :: _ :: _ :: _, hl, h4 => exact ⟨by simp only [if_neg (Nat.not_lt.2 hl)], rfl⟩
theorem akE_three {S : List UInt8} {x0 x1 x2 : List UInt8} (h : splitF S = some [x0, x1, x2]) : akE S = (if ak3 x0 x1 x2 = true then 0 else 2) ∧ akO S = if ak3 x0 x1 x2 = true then akF x0 x1 x2 else .zero := by
 unfold akE akO
 rw [h]
 exact ⟨by simp, rfl⟩
theorem ak3_parts {x0 x1 x2 : List UInt8} (h : ak3 x0 x1 x2 = true) : (pnum x1).2 = 0 ∧ (-2147483648 ≤ (pnum x1).1 ∧ (pnum x1).1 ≤ 2147483647) ∧ (parseO x0).isSome = true ∧ (sigP x2).isSome = true := by
 unfold ak3 smallB at h
 simp only [Bool.and_eq_true, decide_eq_true_eq] at h
 exact ⟨h.1.1.1, h.1.1.2, h.1.2, h.2⟩
structure AkIn (r : AkR) : Prop where
 cm : r.cm < 18446744073709551616
 who : in64 r.who
 sw : in64 r.g.1.1
 lf : in64 r.g.1.2
 s : ∀ k, k < 18 → r.g.2.1 k < 18446744073709551616
 l : ∀ n ∈ r.g.2.2, n < 18446744073709551616
 len : r.g.2.2.length ≤ 8
theorem akF_in {x0 x1 x2 : List UInt8} (h : ak3 x0 x1 x2 = true) : AkIn (akF x0 x1 x2) := by
 obtain ⟨h1, h3, h4, h5⟩ := ak3_parts h
 obtain ⟨d, hd⟩ := Option.isSome_iff_exists.1 h4
 have hb := (parseO_back hd).2
 have a1 := pnum_zero h1
 have g := sgO_in x2
 exact ⟨by show (parseO x0).getD 0 < _; rw [hd]; exact hb, ⟨a1.2.2.1, a1.2.2.2⟩, g.1, g.2.1, g.2.2.1, g.2.2.2.1, g.2.2.2.2⟩
theorem akzero_in : AkIn .zero := ⟨by decide, ⟨by decide, by decide⟩, ⟨by decide, by decide⟩, ⟨by decide, by decide⟩, (fun k _ => by show 0 < _; decide), (fun n h => by cases h), by decide⟩
theorem akO_in (S : List UInt8) : AkIn (akO S) := by
 unfold akO
 split
 ·split
  ·rename_i h; exact akF_in h
  ·exact akzero_in
 ·exact akzero_in
def AkR.t (r : AkR) : List UInt8 := akT r.cm r.who r.g.1.1 r.g.1.2 r.g.2.1 r.g.2.2
theorem akO_back {S : List UInt8} (h : akE S = 0) : (akO S).t = S := by
 cases hs : splitF S with
 | none => rw [(akE_none hs).1] at h; exact absurd h (by decide)
 | some l =>
  by_cases hl : 4096 < l.length
  ·rw [(akE_long hs hl).1] at h; exact absurd h (by decide)
  by_cases h4 : l.length = 3
  ·match l, h4, hs with
   | [x0, x1, x2], _, hs =>
    obtain ⟨e1, e2⟩ := akE_three hs
    by_cases hb : ak3 x0 x1 x2 = true
    ·rw [if_pos hb] at e2
     rw [e2]
     obtain ⟨h1, h3, h4, h5⟩ := ak3_parts hb
     obtain ⟨d, hd⟩ := Option.isSome_iff_exists.1 h4
     have b0 := (parseO_back hd).1
     have b1 := (pnum_zero h1).1
     have b3 := sgO_back h5
     unfold AkR.t akT akF
     dsimp only
     rw [hd, Option.getD_some, b0, b1, b3]
     exact join_split S _ hs
    ·rw [if_neg hb] at e1
     rw [e1] at h; exact absurd h (by decide)
  ·rw [(akE_len hs (by omega) h4).1] at h; exact absurd h (by decide)
end Go.Proofs.YtkpnheenacchhaaGreatDoor

namespace Go.Proofs.YtkpnheenacchhaaGreatDoor
set_option linter.unusedSimpArgs false
set_option linter.unusedVariables false
open Go.RowKit
set_option linter.unusedVariables false
set_option linter.unusedSimpArgs false
set_option maxRecDepth 100000 in
theorem ak_zero : Tryz.prog.built 79 [] = some (#[.int .u64 0, .int .i64 0, .int .i64 0, .int .i64 0, .int .u64 0, .int .u64 0, .int .u64 0, .int .u64 0, .int .u64 0, .int .u64 0, .int .u64 0, .int .u64 0, .int .u64 0, .int .u64 0, .int .u64 0, .int .u64 0, .int .u64 0, .int .u64 0, .int .u64 0, .int .u64 0, .int .u64 0, .int .u64 0, .slice none 0 0]) := by kernel_rfl
set_option maxRecDepth 100000 in
set_option maxHeartbeats 1000000 in
theorem akparse_split (tj : ByteArray) (hz : tj.size ≤ 1000000) (hno : ∀ x0 x1 x2, splitF tj.data.toList ≠ some [x0, x1, x2]) (w : World) :
 Calls Tryz.prog 31 #[.string tj] w fun e w' => (∃ A c, e = .returned (.tuple #[.agg ((akO tj.data.toList).v (.slice A (akO tj.data.toList).g.2.2.length c)), .int .i64 (akE tj.data.toList)]) ∧ Rd w' w'.heap.size A (u64L (akO tj.data.toList).g.2.2) ∧ (∀ ad, A = some ad → w.heap.size < ad.block)) ∧ Grew w w' := by
 have hut := Tryz.underlying79
 have hus := Tryz.underlying77
 have bz : ∀ W, (Instr.build 79 #[]).run Tryz.prog W = .ok (.agg (#[.int .u64 0, .int .i64 0, .int .i64 0, .int .i64 0, .int .u64 0, .int .u64 0, .int .u64 0, .int .u64 0, .int .u64 0, .int .u64 0, .int .u64 0, .int .u64 0, .int .u64 0, .int .u64 0, .int .u64 0, .int .u64 0, .int .u64 0, .int .u64 0, .int .u64 0, .int .u64 0, .int .u64 0, .int .u64 0, .slice none 0 0])) W := fun W => run_build W 79 #[] _ ak_zero
 have HSI : Hid ((Tryz.prog.info? 79).map (·.size) = some (#[.int .u64 0, .int .i64 0, .int .i64 0, .int .i64 0, .int .u64 0, .int .u64 0, .int .u64 0, .int .u64 0, .int .u64 0, .int .u64 0, .int .u64 0, .int .u64 0, .int .u64 0, .int .u64 0, .int .u64 0, .int .u64 0, .int .u64 0, .int .u64 0, .int .u64 0, .int .u64 0, .int .u64 0, .int .u64 0, .slice none 0 0] : Array Value).size) := Lib.hid ak_info
 have HSIL : Hid ((Tryz.prog.info? 79).map (·.size) = some (#[.int .u64 0, .int .i64 0, .int .i64 0, .int .i64 0, .int .u64 0, .int .u64 0, .int .u64 0, .int .u64 0, .int .u64 0, .int .u64 0, .int .u64 0, .int .u64 0, .int .u64 0, .int .u64 0, .int .u64 0, .int .u64 0, .int .u64 0, .int .u64 0, .int .u64 0, .int .u64 0, .int .u64 0, .int .u64 0, .slice none 0 0] : Array Value).toList.length) := Lib.hid ak_info
 have HON : Hid ((#[.int .u64 0, .int .i64 0, .int .i64 0, .int .i64 0, .int .u64 0, .int .u64 0, .int .u64 0, .int .u64 0, .int .u64 0, .int .u64 0, .int .u64 0, .int .u64 0, .int .u64 0, .int .u64 0, .int .u64 0, .int .u64 0, .int .u64 0, .int .u64 0, .int .u64 0, .int .u64 0, .int .u64 0, .int .u64 0, .slice none 0 0] : Array Value).all (·.oneCell') = true) := Lib.hid (by simp [Value.oneCell'])
 have z0 := Ag.new w 79 (#[.int .u64 0, .int .i64 0, .int .i64 0, .int .i64 0, .int .u64 0, .int .u64 0, .int .u64 0, .int .u64 0, .int .u64 0, .int .u64 0, .int .u64 0, .int .u64 0, .int .u64 0, .int .u64 0, .int .u64 0, .int .u64 0, .int .u64 0, .int .u64 0, .int .u64 0, .int .u64 0, .int .u64 0, .int .u64 0, .slice none 0 0])
 have g0 := grew_alloc (grew_refl w) (.cells (#[.int .u64 0, .int .i64 0, .int .i64 0, .int .i64 0, .int .u64 0, .int .u64 0, .int .u64 0, .int .u64 0, .int .u64 0, .int .u64 0, .int .u64 0, .int .u64 0, .int .u64 0, .int .u64 0, .int .u64 0, .int .u64 0, .int .u64 0, .int .u64 0, .int .u64 0, .int .u64 0, .int .u64 0, .int .u64 0, .slice none 0 0]) 79)
 have CS := Lib.hid (fun W => split_ok tj (by omega) W)
 go_enter Tryz.func31, Tryz.ntmps31
 go_wp2_with fail
 refine (CS.out _).mono ?_
 rintro e w1 ⟨hs, gg⟩
 have z1 := z0.grew gg
 have g1 := grew_trans g0 gg
 have HTH : Hid (w1.there w.heap.size 0 (#[.int .u64 0, .int .i64 0, .int .i64 0, .int .i64 0, .int .u64 0, .int .u64 0, .int .u64 0, .int .u64 0, .int .u64 0, .int .u64 0, .int .u64 0, .int .u64 0, .int .u64 0, .int .u64 0, .int .u64 0, .int .u64 0, .int .u64 0, .int .u64 0, .int .u64 0, .int .u64 0, .int .u64 0, .int .u64 0, .slice none 0 0] : Array Value).size) := Lib.hid (z1.thereN 23 rfl)
 have zZ := Ag.set (vs := (#[.int .u64 0, .int .i64 0, .int .i64 0, .int .i64 0, .int .u64 0, .int .u64 0, .int .u64 0, .int .u64 0, .int .u64 0, .int .u64 0, .int .u64 0, .int .u64 0, .int .u64 0, .int .u64 0, .int .u64 0, .int .u64 0, .int .u64 0, .int .u64 0, .int .u64 0, .int .u64 0, .int .u64 0, .int .u64 0, .slice none 0 0] : Array Value).toList) z1 rfl
 have gZ := setCells_grew (o := 0) (b := w.heap.size) (#[.int .u64 0, .int .i64 0, .int .i64 0, .int .i64 0, .int .u64 0, .int .u64 0, .int .u64 0, .int .u64 0, .int .u64 0, .int .u64 0, .int .u64 0, .int .u64 0, .int .u64 0, .int .u64 0, .int .u64 0, .int .u64 0, .int .u64 0, .int .u64 0, .int .u64 0, .int .u64 0, .int .u64 0, .int .u64 0, .slice none 0 0] : Array Value).toList g1 (Nat.le_refl _)
 clear CS z0 g0 gg z1 g1
 rcases hs with ⟨h1, rfl⟩ | ⟨l, h1, ⟨h2, rfl⟩ | ⟨h2, v, rfl, o1⟩⟩
 ·have HE := Lib.hid (akE_none h1)
  clear h1
  go_wp2_with (first
   | (with_reducible refine wpList_store_mid rfl 79 (.tmp 2) (.tmp 16) rfl w.heap.size 0 (#[.int .u64 0, .int .i64 0, .int .i64 0, .int .i64 0, .int .u64 0, .int .u64 0, .int .u64 0, .int .u64 0, .int .u64 0, .int .u64 0, .int .u64 0, .int .u64 0, .int .u64 0, .int .u64 0, .int .u64 0, .int .u64 0, .int .u64 0, .int .u64 0, .int .u64 0, .int .u64 0, .int .u64 0, .int .u64 0, .slice none 0 0]) rfl rfl HTH.out HSI.out HON.out ?_))
  exact bodyPost_ret (results_ag2 Tryz.results31 _ _ w.heap.size _ _ _ rfl rfl zZ hut rfl HSIL.out) rfl ⟨⟨none, 0, by rw [HE.out.1, HE.out.2]; rfl, by rw [HE.out.2]; exact fun k hk => absurd hk (by simp [AkR.zero, u64L]), fun ad h => by cases h⟩, gZ⟩
 ·have HE := Lib.hid (akE_long h1 h2)
  clear h1 h2
  go_wp2_with (first
   | (with_reducible refine wpList_store_mid rfl 79 (.tmp 2) (.tmp 16) rfl w.heap.size 0 (#[.int .u64 0, .int .i64 0, .int .i64 0, .int .i64 0, .int .u64 0, .int .u64 0, .int .u64 0, .int .u64 0, .int .u64 0, .int .u64 0, .int .u64 0, .int .u64 0, .int .u64 0, .int .u64 0, .int .u64 0, .int .u64 0, .int .u64 0, .int .u64 0, .int .u64 0, .int .u64 0, .int .u64 0, .int .u64 0, .slice none 0 0]) rfl rfl HTH.out HSI.out HON.out ?_))
  exact bodyPost_ret (results_ag2 Tryz.results31 _ _ w.heap.size _ _ _ rfl rfl zZ hut rfl HSIL.out) rfl ⟨⟨none, 0, by rw [HE.out.1, HE.out.2]; rfl, by rw [HE.out.2]; exact fun k hk => absurd hk (by simp [AkR.zero, u64L]), fun ad h => by cases h⟩, gZ⟩
 ·have hl4 : l.length ≠ 3 := fun h4 => by
   match l, h4 with
   | [a, b, c], _ => exact hno a b c h1
  have HE := Lib.hid (akE_len h1 h2 hl4)
  obtain ⟨A4, c4, rfl, -, -, -⟩ := own_rd o1
  have e4 : ((l.length : Int) != 3) = true := by simp; omega
  clear o1 h1 h2 hl4
  go_wp2_with (first
   | (with_reducible refine wpList_store_mid rfl 79 (.tmp 2) (.tmp 21) rfl w.heap.size 0 (#[.int .u64 0, .int .i64 0, .int .i64 0, .int .i64 0, .int .u64 0, .int .u64 0, .int .u64 0, .int .u64 0, .int .u64 0, .int .u64 0, .int .u64 0, .int .u64 0, .int .u64 0, .int .u64 0, .int .u64 0, .int .u64 0, .int .u64 0, .int .u64 0, .int .u64 0, .int .u64 0, .int .u64 0, .int .u64 0, .slice none 0 0]) rfl rfl HTH.out HSI.out HON.out ?_))
  exact bodyPost_ret (results_ag2 Tryz.results31 _ _ w.heap.size _ _ _ rfl rfl zZ hut rfl HSIL.out) rfl ⟨⟨none, 0, by rw [HE.out.1, HE.out.2]; rfl, by rw [HE.out.2]; exact fun k hk => absurd hk (by simp [AkR.zero, u64L]), fun ad h => by cases h⟩, gZ⟩
set_option maxRecDepth 100000 in
set_option maxHeartbeats 4000000 in
theorem akparse_three (tj : ByteArray) (x0 x1 x2 : List UInt8) (hsp : splitF tj.data.toList = some [x0, x1, x2]) (hz : tj.size ≤ 1000000) (l0 : x0.length ≤ 1000000) (l1 : x1.length ≤ 1000000) (l2 : x2.length ≤ 1000000) (w : World) (hS : Std w) :
 Calls Tryz.prog 31 #[.string tj] w fun e w' => (∃ A c, e = .returned (.tuple #[.agg ((akO tj.data.toList).v (.slice A (akO tj.data.toList).g.2.2.length c)), .int .i64 (akE tj.data.toList)]) ∧ Rd w' w'.heap.size A (u64L (akO tj.data.toList).g.2.2) ∧ (∀ ad, A = some ad → w.heap.size < ad.block)) ∧ Grew w w' := by
 have HS := Lib.hid hS
 have HE0 := akE_three hsp
 have CS := Lib.hid (fun W => split_some (s := tj) (l := [x0, x1, x2]) hsp (by simp) (by omega) W)
 rw [show txt [x0, x1, x2] = [⟨x0.toArray⟩, ⟨x1.toArray⟩, ⟨x2.toArray⟩] from rfl] at CS
 have N1 := (fun W hW => parseNum_ok ⟨x1.toArray⟩ (by show x1.toArray.size ≤ _; simp; omega) W hW)
 have HP := (fun W => parse_any ⟨x0.toArray⟩ W)
 have KP := (fun W hW => kparse_fr2 ⟨x2.toArray⟩ (by show x2.toArray.size ≤ _; simp; omega) W hW)
 unfold ak3 akF at HE0
 simp only [show (⟨x0.toArray⟩ : ByteArray).data.toList = x0 from rfl, show (⟨x1.toArray⟩ : ByteArray).data.toList = x1 from rfl, show (⟨x2.toArray⟩ : ByteArray).data.toList = x2 from rfl, pnumRes] at N1 HP KP
 clear hsp
 generalize (⟨x0.toArray⟩ : ByteArray) = t0 at *
 generalize (⟨x1.toArray⟩ : ByteArray) = t1 at *
 generalize (⟨x2.toArray⟩ : ByteArray) = t2 at *
 generalize (pnum x1).1 = n1 at *
 generalize (pnum x1).2 = a1 at *
 generalize parseO x0 = o0 at *
 have HO3 : Hid (sgE (sigP x2) = if (sigP x2).isSome = true then 0 else 2) := Lib.hid rfl
 generalize sgE (sigP x2) = e3 at *
 generalize (sigP x2).isSome = b3 at *
 generalize sgO (sigP x2) = X at *
 obtain ⟨⟨sw, lf⟩, s, l⟩ := X
 dsimp only at KP HE0
 replace N1 := Lib.hid N1
 replace HP := Lib.hid HP
 replace KP := Lib.hid KP
 replace HE0 := Lib.hid HE0
 have HEZ : ∀ b : Bool, b = false → akE tj.data.toList = (if b = true then 0 else 2) ∧ akO tj.data.toList = (if b = true then (⟨o0.getD 0, n1, ((sw, lf), s, l)⟩ : AkR) else .zero) → Hid (akE tj.data.toList = 2 ∧ akO tj.data.toList = .zero) := fun b hb h => Lib.hid (by rw [hb] at h; exact h)
 generalize akE tj.data.toList = eS at *
 generalize akO tj.data.toList = oS at *
 clear hS l0 l1 l2 hz
 have hut := Tryz.underlying79
 have hus := Tryz.underlying77
 have bz : ∀ W, (Instr.build 79 #[]).run Tryz.prog W = .ok (.agg (#[.int .u64 0, .int .i64 0, .int .i64 0, .int .i64 0, .int .u64 0, .int .u64 0, .int .u64 0, .int .u64 0, .int .u64 0, .int .u64 0, .int .u64 0, .int .u64 0, .int .u64 0, .int .u64 0, .int .u64 0, .int .u64 0, .int .u64 0, .int .u64 0, .int .u64 0, .int .u64 0, .int .u64 0, .int .u64 0, .slice none 0 0])) W := fun W => run_build W 79 #[] _ ak_zero
 have HSI : Hid ((Tryz.prog.info? 79).map (·.size) = some (#[.int .u64 0, .int .i64 0, .int .i64 0, .int .i64 0, .int .u64 0, .int .u64 0, .int .u64 0, .int .u64 0, .int .u64 0, .int .u64 0, .int .u64 0, .int .u64 0, .int .u64 0, .int .u64 0, .int .u64 0, .int .u64 0, .int .u64 0, .int .u64 0, .int .u64 0, .int .u64 0, .int .u64 0, .int .u64 0, .slice none 0 0] : Array Value).size) := Lib.hid ak_info
 have HSIL : Hid ((Tryz.prog.info? 79).map (·.size) = some (#[.int .u64 0, .int .i64 0, .int .i64 0, .int .i64 0, .int .u64 0, .int .u64 0, .int .u64 0, .int .u64 0, .int .u64 0, .int .u64 0, .int .u64 0, .int .u64 0, .int .u64 0, .int .u64 0, .int .u64 0, .int .u64 0, .int .u64 0, .int .u64 0, .int .u64 0, .int .u64 0, .int .u64 0, .int .u64 0, .slice none 0 0] : Array Value).toList.length) := Lib.hid ak_info
 have HON : Hid ((#[.int .u64 0, .int .i64 0, .int .i64 0, .int .i64 0, .int .u64 0, .int .u64 0, .int .u64 0, .int .u64 0, .int .u64 0, .int .u64 0, .int .u64 0, .int .u64 0, .int .u64 0, .int .u64 0, .int .u64 0, .int .u64 0, .int .u64 0, .int .u64 0, .int .u64 0, .int .u64 0, .int .u64 0, .int .u64 0, .slice none 0 0] : Array Value).all (·.oneCell') = true) := Lib.hid (by simp [Value.oneCell'])
 have z0 := Ag.new w 79 (#[.int .u64 0, .int .i64 0, .int .i64 0, .int .i64 0, .int .u64 0, .int .u64 0, .int .u64 0, .int .u64 0, .int .u64 0, .int .u64 0, .int .u64 0, .int .u64 0, .int .u64 0, .int .u64 0, .int .u64 0, .int .u64 0, .int .u64 0, .int .u64 0, .int .u64 0, .int .u64 0, .int .u64 0, .int .u64 0, .slice none 0 0])
 have g0 := grew_alloc (grew_refl w) (.cells (#[.int .u64 0, .int .i64 0, .int .i64 0, .int .i64 0, .int .u64 0, .int .u64 0, .int .u64 0, .int .u64 0, .int .u64 0, .int .u64 0, .int .u64 0, .int .u64 0, .int .u64 0, .int .u64 0, .int .u64 0, .int .u64 0, .int .u64 0, .int .u64 0, .int .u64 0, .int .u64 0, .int .u64 0, .int .u64 0, .slice none 0 0]) 79)
 go_enter Tryz.func31, Tryz.ntmps31
 go_wp2_with fail
 refine (CS.out _).mono ?_
 rintro e w1 ⟨⟨v1, rfl, o1⟩, gg⟩
 have z1 := z0.grew gg
 have g1 := grew_trans g0 gg
 obtain ⟨g, k1, rfl, hk1, hgl, hcs⟩ := own_cells o1 (by simp)
 have x0 : w1.cell? ⟨g, 0, none⟩ = some (.string t0) := by simpa using hcs 0 (.string t0) rfl
 have x1 : w1.cell? ⟨g, 1, none⟩ = some (.string t1) := by simpa using hcs 1 (.string t1) rfl
 have x2 : w1.cell? ⟨g, 2, none⟩ = some (.string t2) := by simpa using hcs 2 (.string t2) rfl
 clear CS z0 g0 gg o1 hcs
 have hk1' : (3 : Int) ≤ (k1 : Int) := by
  have : 3 ≤ k1 := hk1
  omega
 go_wp2_with fail
 refine (N1.out _ (HS.out.grew g1)).mono ?_
 rintro e w3 ⟨rfl, gg⟩
 have x0 := (gg.cell (p := ⟨g, 0, none⟩) hgl).trans x0
 have x2 := (gg.cell (p := ⟨g, 2, none⟩) hgl).trans x2
 have hgl3 := Nat.lt_of_lt_of_le hgl gg.size
 have z3 := z1.grew gg
 have g3 := grew_trans g1 gg
 clear N1 x1 z1 g1 gg hgl
 by_cases h1 : a1 = 0
 case neg =>
  have HE := HEZ _ (by simp [h1]) HE0.out
  have e1 : (a1 != 0) = true := by simpa using h1
  clear h1 HE0
  have HTH : Hid (w3.there w.heap.size 0 (#[.int .u64 0, .int .i64 0, .int .i64 0, .int .i64 0, .int .u64 0, .int .u64 0, .int .u64 0, .int .u64 0, .int .u64 0, .int .u64 0, .int .u64 0, .int .u64 0, .int .u64 0, .int .u64 0, .int .u64 0, .int .u64 0, .int .u64 0, .int .u64 0, .int .u64 0, .int .u64 0, .int .u64 0, .int .u64 0, .slice none 0 0] : Array Value).size) := Lib.hid (z3.thereN 23 rfl)
  have zZ := Ag.set (vs := (#[.int .u64 0, .int .i64 0, .int .i64 0, .int .i64 0, .int .u64 0, .int .u64 0, .int .u64 0, .int .u64 0, .int .u64 0, .int .u64 0, .int .u64 0, .int .u64 0, .int .u64 0, .int .u64 0, .int .u64 0, .int .u64 0, .int .u64 0, .int .u64 0, .int .u64 0, .int .u64 0, .int .u64 0, .int .u64 0, .slice none 0 0] : Array Value).toList) z3 rfl
  have gZ := setCells_grew (o := 0) (b := w.heap.size) (#[.int .u64 0, .int .i64 0, .int .i64 0, .int .i64 0, .int .u64 0, .int .u64 0, .int .u64 0, .int .u64 0, .int .u64 0, .int .u64 0, .int .u64 0, .int .u64 0, .int .u64 0, .int .u64 0, .int .u64 0, .int .u64 0, .int .u64 0, .int .u64 0, .int .u64 0, .int .u64 0, .int .u64 0, .int .u64 0, .slice none 0 0] : Array Value).toList g3 (Nat.le_refl _)
  go_wp2_with (first
   | (with_reducible refine wpList_store_mid rfl 79 (.tmp 2) (.tmp 39) rfl w.heap.size 0 (#[.int .u64 0, .int .i64 0, .int .i64 0, .int .i64 0, .int .u64 0, .int .u64 0, .int .u64 0, .int .u64 0, .int .u64 0, .int .u64 0, .int .u64 0, .int .u64 0, .int .u64 0, .int .u64 0, .int .u64 0, .int .u64 0, .int .u64 0, .int .u64 0, .int .u64 0, .int .u64 0, .int .u64 0, .int .u64 0, .slice none 0 0]) rfl rfl HTH.out HSI.out HON.out ?_))
  exact bodyPost_ret (results_ag2 Tryz.results31 _ _ w.heap.size _ _ _ rfl rfl zZ hut rfl HSIL.out) rfl ⟨⟨none, 0, by rw [HE.out.1, HE.out.2]; rfl, by rw [HE.out.2]; exact fun k hk => absurd hk (by simp [AkR.zero, u64L]), fun ad h => by cases h⟩, gZ⟩
 subst h1
 by_cases h3 : -2147483648 ≤ n1 ∧ n1 ≤ 2147483647
 case neg =>
  have HE := HEZ _ (by simp [smallB, h3]) HE0.out
  clear HE0
  have HTH : Hid (w3.there w.heap.size 0 (#[.int .u64 0, .int .i64 0, .int .i64 0, .int .i64 0, .int .u64 0, .int .u64 0, .int .u64 0, .int .u64 0, .int .u64 0, .int .u64 0, .int .u64 0, .int .u64 0, .int .u64 0, .int .u64 0, .int .u64 0, .int .u64 0, .int .u64 0, .int .u64 0, .int .u64 0, .int .u64 0, .int .u64 0, .int .u64 0, .slice none 0 0] : Array Value).size) := Lib.hid (z3.thereN 23 rfl)
  have zZ := Ag.set (vs := (#[.int .u64 0, .int .i64 0, .int .i64 0, .int .i64 0, .int .u64 0, .int .u64 0, .int .u64 0, .int .u64 0, .int .u64 0, .int .u64 0, .int .u64 0, .int .u64 0, .int .u64 0, .int .u64 0, .int .u64 0, .int .u64 0, .int .u64 0, .int .u64 0, .int .u64 0, .int .u64 0, .int .u64 0, .int .u64 0, .slice none 0 0] : Array Value).toList) z3 rfl
  have gZ := setCells_grew (o := 0) (b := w.heap.size) (#[.int .u64 0, .int .i64 0, .int .i64 0, .int .i64 0, .int .u64 0, .int .u64 0, .int .u64 0, .int .u64 0, .int .u64 0, .int .u64 0, .int .u64 0, .int .u64 0, .int .u64 0, .int .u64 0, .int .u64 0, .int .u64 0, .int .u64 0, .int .u64 0, .int .u64 0, .int .u64 0, .int .u64 0, .int .u64 0, .slice none 0 0] : Array Value).toList g3 (Nat.le_refl _)
  rcases (show n1 < -2147483648 ∨ (¬ n1 < -2147483648 ∧ 2147483647 < n1) by omega) with h | ⟨h, h'⟩
  ·have e1 : decide (n1 < -2147483648) = true := decide_eq_true h
   clear h3 h
   go_wp2_with (first
    | (with_reducible refine wpList_store_mid rfl 79 (.tmp 2) (.tmp 39) rfl w.heap.size 0 (#[.int .u64 0, .int .i64 0, .int .i64 0, .int .i64 0, .int .u64 0, .int .u64 0, .int .u64 0, .int .u64 0, .int .u64 0, .int .u64 0, .int .u64 0, .int .u64 0, .int .u64 0, .int .u64 0, .int .u64 0, .int .u64 0, .int .u64 0, .int .u64 0, .int .u64 0, .int .u64 0, .int .u64 0, .int .u64 0, .slice none 0 0]) rfl rfl HTH.out HSI.out HON.out ?_))
   exact bodyPost_ret (results_ag2 Tryz.results31 _ _ w.heap.size _ _ _ rfl rfl zZ hut rfl HSIL.out) rfl ⟨⟨none, 0, by rw [HE.out.1, HE.out.2]; rfl, by rw [HE.out.2]; exact fun k hk => absurd hk (by simp [AkR.zero, u64L]), fun ad h => by cases h⟩, gZ⟩
  ·have e1 : decide (n1 < -2147483648) = false := decide_eq_false h
   have e2 : decide (2147483647 < n1) = true := decide_eq_true h'
   clear h3 h h'
   go_wp2_with (first
    | (with_reducible refine wpList_store_mid rfl 79 (.tmp 2) (.tmp 39) rfl w.heap.size 0 (#[.int .u64 0, .int .i64 0, .int .i64 0, .int .i64 0, .int .u64 0, .int .u64 0, .int .u64 0, .int .u64 0, .int .u64 0, .int .u64 0, .int .u64 0, .int .u64 0, .int .u64 0, .int .u64 0, .int .u64 0, .int .u64 0, .int .u64 0, .int .u64 0, .int .u64 0, .int .u64 0, .int .u64 0, .int .u64 0, .slice none 0 0]) rfl rfl HTH.out HSI.out HON.out ?_))
   exact bodyPost_ret (results_ag2 Tryz.results31 _ _ w.heap.size _ _ _ rfl rfl zZ hut rfl HSIL.out) rfl ⟨⟨none, 0, by rw [HE.out.1, HE.out.2]; rfl, by rw [HE.out.2]; exact fun k hk => absurd hk (by simp [AkR.zero, u64L]), fun ad h => by cases h⟩, gZ⟩
 have hw1 : ¬ n1 < -2147483648 := by omega
 have hw2 : ¬ 2147483647 < n1 := by omega
 have HB3 : Hid (smallB n1 = true) := Lib.hid (decide_eq_true h3)
 clear h3
 go_wp2_with (fail)
 refine (HP.out _).mono ?_
 rintro e v3 ⟨rfl, rfl⟩
 cases o0 with
 | none =>
  have HE := HEZ _ (by simp) HE0.out
  clear HE0
  have HTH : Hid (w3.there w.heap.size 0 (#[.int .u64 0, .int .i64 0, .int .i64 0, .int .i64 0, .int .u64 0, .int .u64 0, .int .u64 0, .int .u64 0, .int .u64 0, .int .u64 0, .int .u64 0, .int .u64 0, .int .u64 0, .int .u64 0, .int .u64 0, .int .u64 0, .int .u64 0, .int .u64 0, .int .u64 0, .int .u64 0, .int .u64 0, .int .u64 0, .slice none 0 0] : Array Value).size) := Lib.hid (z3.thereN 23 rfl)
  have zZ := Ag.set (vs := (#[.int .u64 0, .int .i64 0, .int .i64 0, .int .i64 0, .int .u64 0, .int .u64 0, .int .u64 0, .int .u64 0, .int .u64 0, .int .u64 0, .int .u64 0, .int .u64 0, .int .u64 0, .int .u64 0, .int .u64 0, .int .u64 0, .int .u64 0, .int .u64 0, .int .u64 0, .int .u64 0, .int .u64 0, .int .u64 0, .slice none 0 0] : Array Value).toList) z3 rfl
  have gZ := setCells_grew (o := 0) (b := w.heap.size) (#[.int .u64 0, .int .i64 0, .int .i64 0, .int .i64 0, .int .u64 0, .int .u64 0, .int .u64 0, .int .u64 0, .int .u64 0, .int .u64 0, .int .u64 0, .int .u64 0, .int .u64 0, .int .u64 0, .int .u64 0, .int .u64 0, .int .u64 0, .int .u64 0, .int .u64 0, .int .u64 0, .int .u64 0, .int .u64 0, .slice none 0 0] : Array Value).toList g3 (Nat.le_refl _)
  rw [parseRes_none]
  go_wp2_with (first
   | (with_reducible refine wpList_store_mid rfl 79 (.tmp 2) (.tmp 49) rfl w.heap.size 0 (#[.int .u64 0, .int .i64 0, .int .i64 0, .int .i64 0, .int .u64 0, .int .u64 0, .int .u64 0, .int .u64 0, .int .u64 0, .int .u64 0, .int .u64 0, .int .u64 0, .int .u64 0, .int .u64 0, .int .u64 0, .int .u64 0, .int .u64 0, .int .u64 0, .int .u64 0, .int .u64 0, .int .u64 0, .int .u64 0, .slice none 0 0]) rfl rfl HTH.out HSI.out HON.out ?_))
  exact bodyPost_ret (results_ag2 Tryz.results31 _ _ w.heap.size _ _ _ rfl rfl zZ hut rfl HSIL.out) rfl ⟨⟨none, 0, by rw [HE.out.1, HE.out.2]; rfl, by rw [HE.out.2]; exact fun k hk => absurd hk (by simp [AkR.zero, u64L]), fun ad h => by cases h⟩, gZ⟩
 | some cm =>
  rw [parseRes_some]
  go_wp2_with fail
  refine (KP.out _ (HS.out.grew g3)).mono ?_
  rintro e w4 ⟨⟨A, c, rfl, r4, hA4⟩, gg⟩
  have z4 := z3.grew gg
  have g4 := grew_trans g3 gg
  have HSI1 : Hid ((Tryz.prog.info? 77).map (·.size) = some (sgC sw lf s (.slice A l.length c)).size) := Lib.hid sg_info
  have HSL1 : Hid ((Tryz.prog.info? 77).map (·.size) = some (sgC sw lf s (.slice A l.length c)).toList.length) := Lib.hid sg_info
  have HON1 := Lib.hid (sgC_one sw lf s A l.length c)
  have HBU := Lib.hid (ak_built cm n1 sw lf s A l.length c)
  have zt := Ag.new w4 77 (#[.int .i64 0, .int .i64 0, .int .u64 0, .int .u64 0, .int .u64 0, .int .u64 0, .int .u64 0, .int .u64 0, .int .u64 0, .int .u64 0, .int .u64 0, .int .u64 0, .int .u64 0, .int .u64 0, .int .u64 0, .int .u64 0, .int .u64 0, .int .u64 0, .int .u64 0, .int .u64 0, .slice none 0 0])
  have HTH1 : Hid ((w4.alloc (.cells (#[.int .i64 0, .int .i64 0, .int .u64 0, .int .u64 0, .int .u64 0, .int .u64 0, .int .u64 0, .int .u64 0, .int .u64 0, .int .u64 0, .int .u64 0, .int .u64 0, .int .u64 0, .int .u64 0, .int .u64 0, .int .u64 0, .int .u64 0, .int .u64 0, .int .u64 0, .int .u64 0, .slice none 0 0]) 77)).there w4.heap.size 0 (sgC sw lf s (.slice A l.length c)).size) := Lib.hid (zt.thereN 21 rfl)
  have z5 := Ag.set (vs := (sgC sw lf s (.slice A l.length c)).toList) zt rfl
  have g5 : Grew w4 ((w4.alloc (.cells (#[.int .i64 0, .int .i64 0, .int .u64 0, .int .u64 0, .int .u64 0, .int .u64 0, .int .u64 0, .int .u64 0, .int .u64 0, .int .u64 0, .int .u64 0, .int .u64 0, .int .u64 0, .int .u64 0, .int .u64 0, .int .u64 0, .int .u64 0, .int .u64 0, .int .u64 0, .int .u64 0, .slice none 0 0]) 77)).setCells w4.heap.size 0 (sgC sw lf s (.slice A l.length c)).toList) := setCells_grew (o := 0) (b := w4.heap.size) (sgC sw lf s (.slice A l.length c)).toList (grew_alloc (grew_refl w4) _) (Nat.le_refl _)
  have z6 := z4.grew g5
  have r6 := r4.gr g5
  have g6 := grew_trans g4 g5
  obtain ⟨g1, hg1⟩ : ∃ g, sgC sw lf s (.slice A l.length c) = g := ⟨_, rfl⟩
  rw [hg1] at HSI1 HSL1 HON1 HTH1 HBU z5 z6 r6 g6 ⊢
  obtain ⟨w6, hw6⟩ : ∃ v, (w4.alloc (.cells (#[.int .i64 0, .int .i64 0, .int .u64 0, .int .u64 0, .int .u64 0, .int .u64 0, .int .u64 0, .int .u64 0, .int .u64 0, .int .u64 0, .int .u64 0, .int .u64 0, .int .u64 0, .int .u64 0, .int .u64 0, .int .u64 0, .int .u64 0, .int .u64 0, .int .u64 0, .int .u64 0, .slice none 0 0]) 77)).setCells w4.heap.size 0 g1.toList = v := ⟨_, rfl⟩
  rw [hw6] at z5 z6 r6 g6
  have HW6 := Lib.hid hw6
  have hm5 := z5.cell
  have hz3 := z3.lt
  have HFR : Hid (∀ ad, A = some ad → w.heap.size < ad.block) := Lib.hid (fun ad e => by have := hA4 ad e; omega)
  clear hz3 hA4 hw6 hg1 zt g5 x0 x2 z3 g3 z4 g4 gg r4 hgl3 KP HP
  cases b3 with
  | false =>
   have HE := HEZ _ (by simp) HE0.out
   have he3 : e3 = 2 := HO3.out
   subst he3
   clear HE0 HO3
   have HTH : Hid (w6.there w.heap.size 0 (#[.int .u64 0, .int .i64 0, .int .i64 0, .int .i64 0, .int .u64 0, .int .u64 0, .int .u64 0, .int .u64 0, .int .u64 0, .int .u64 0, .int .u64 0, .int .u64 0, .int .u64 0, .int .u64 0, .int .u64 0, .int .u64 0, .int .u64 0, .int .u64 0, .int .u64 0, .int .u64 0, .int .u64 0, .int .u64 0, .slice none 0 0] : Array Value).size) := Lib.hid (z6.thereN 23 rfl)
   have zZ := Ag.set (vs := (#[.int .u64 0, .int .i64 0, .int .i64 0, .int .i64 0, .int .u64 0, .int .u64 0, .int .u64 0, .int .u64 0, .int .u64 0, .int .u64 0, .int .u64 0, .int .u64 0, .int .u64 0, .int .u64 0, .int .u64 0, .int .u64 0, .int .u64 0, .int .u64 0, .int .u64 0, .int .u64 0, .int .u64 0, .int .u64 0, .slice none 0 0] : Array Value).toList) z6 rfl
   have gZ := setCells_grew (o := 0) (b := w.heap.size) (#[.int .u64 0, .int .i64 0, .int .i64 0, .int .i64 0, .int .u64 0, .int .u64 0, .int .u64 0, .int .u64 0, .int .u64 0, .int .u64 0, .int .u64 0, .int .u64 0, .int .u64 0, .int .u64 0, .int .u64 0, .int .u64 0, .int .u64 0, .int .u64 0, .int .u64 0, .int .u64 0, .int .u64 0, .int .u64 0, .slice none 0 0] : Array Value).toList g6 (Nat.le_refl _)
   go_wp2_with (first
    | (with_reducible refine wpList_store_mid rfl 77 (.tmp 8) (.tmp 56) rfl w4.heap.size 0 g1 rfl rfl HTH1.out HSI1.out HON1.out ?_; rw [HW6.out]; clear HW6 HTH1)
    | (with_reducible refine wpList_store_mid rfl 79 (.tmp 2) (.tmp 60) rfl w.heap.size 0 (#[.int .u64 0, .int .i64 0, .int .i64 0, .int .i64 0, .int .u64 0, .int .u64 0, .int .u64 0, .int .u64 0, .int .u64 0, .int .u64 0, .int .u64 0, .int .u64 0, .int .u64 0, .int .u64 0, .int .u64 0, .int .u64 0, .int .u64 0, .int .u64 0, .int .u64 0, .int .u64 0, .int .u64 0, .int .u64 0, .slice none 0 0]) rfl rfl HTH.out HSI.out HON.out ?_))
   exact bodyPost_ret (results_ag2 Tryz.results31 _ _ w.heap.size _ _ _ rfl rfl zZ hut rfl HSIL.out) rfl ⟨⟨none, 0, by rw [HE.out.1, HE.out.2]; rfl, by rw [HE.out.2]; exact fun k hk => absurd hk (by simp [AkR.zero, u64L]), fun ad h => by cases h⟩, gZ⟩
  | true =>
   have he3 : e3 = 0 := HO3.out
   subst he3
   have HE : Hid (eS = 0 ∧ oS = ⟨cm, n1, ((sw, lf), s, l)⟩) := Lib.hid (by have := HE0.out; simpa [HB3.out] using this)
   clear HE0 HO3
   have HTZ : Hid (w6.there w.heap.size 0 (akC cm n1 sw lf s (.slice A l.length c)).size) := Lib.hid (z6.thereN 23 rfl)
   have HOZ := Lib.hid (akC_one cm n1 sw lf s A l.length c)
   have HSZ : Hid ((Tryz.prog.info? 79).map (·.size) = some (akC cm n1 sw lf s (.slice A l.length c)).size) := Lib.hid ak_info
   have HSZL : Hid ((Tryz.prog.info? 79).map (·.size) = some (akC cm n1 sw lf s (.slice A l.length c)).toList.length) := Lib.hid ak_info
   have z7 := Ag.set (vs := (akC cm n1 sw lf s (.slice A l.length c)).toList) z6 rfl
   have K7 := setCells_kp (akC cm n1 sw lf s (.slice A l.length c)).toList w.heap.size 0 w6
   have G7 := setCells_grew (o := 0) (b := w.heap.size) (akC cm n1 sw lf s (.slice A l.length c)).toList g6 (Nat.le_refl _)
   have R7 : Rd (w6.setCells w.heap.size 0 (akC cm n1 sw lf s (.slice A l.length c)).toList) (w6.setCells w.heap.size 0 (akC cm n1 sw lf s (.slice A l.length c)).toList).heap.size A (u64L l) :=
    (r6.kp K7 (Nat.le_refl _) (fun ad e1 _ (e3 : ad.block = w.heap.size) => by have := HFR.out ad e1; omega)).more K7.size
   obtain ⟨g2, hg2⟩ : ∃ g, akC cm n1 sw lf s (.slice A l.length c) = g := ⟨_, rfl⟩
   have HG2' := Lib.hid hg2
   rw [hg2] at HTZ HOZ HSZ HSZL HBU z7 G7 R7
   clear z6 K7 r6 g6 hg2
   go_wp2_with (first
    | (with_reducible refine wpList_store_mid rfl 77 (.tmp 8) (.tmp 56) rfl w4.heap.size 0 g1 rfl rfl HTH1.out HSI1.out HON1.out ?_; rw [HW6.out]; clear HW6 HTH1)
    | (with_reducible refine wpList_load_mid rfl 77 (.tmp 8) rfl w4.heap.size 0 rfl g1.toList _ hm5 hus rfl HSL1.out ?_; simp only [Array.toArray_toList])
    | (with_reducible refine wpList_build_is rfl 79 #[(0, .tmp 62), (1, .tmp 63), (2, .tmp 64)] rfl g2 ?_ ?_; · simpa [Act.eval, Act.put] using HBU.out)
    | (with_reducible refine wpList_store_mid rfl 79 (.tmp 2) (.tmp 65) rfl w.heap.size 0 g2 rfl rfl HTZ.out HSZ.out HOZ.out ?_))
   exact bodyPost_ret (results_ag2 Tryz.results31 _ _ w.heap.size _ _ _ rfl rfl z7 hut rfl HSZL.out) rfl ⟨⟨A, c, by rw [HE.out.1, HE.out.2]; show Ending.returned (.tuple #[.agg g2.toList.toArray, .int .i64 0]) = _; rw [Array.toArray_toList, ← HG2'.out]; rfl, by rw [HE.out.2]; exact R7, HFR.out⟩, G7⟩
theorem akparse_any (tj : ByteArray) (hz : tj.size ≤ 1000000) (w : World) (hS : Std w) :
 Calls Tryz.prog 31 #[.string tj] w fun e w' => (∃ A c, e = .returned (.tuple #[.agg ((akO tj.data.toList).v (.slice A (akO tj.data.toList).g.2.2.length c)), .int .i64 (akE tj.data.toList)]) ∧ Rd w' w'.heap.size A (u64L (akO tj.data.toList).g.2.2) ∧ (∀ ad, A = some ad → w.heap.size < ad.block)) ∧ Grew w w' := by
 have hlen : tj.data.toList.length ≤ 1000000 := by rw [ba_len]; exact hz
 by_cases h4 : ∃ x0 x1 x2, splitF tj.data.toList = some [x0, x1, x2]
 ·obtain ⟨x0, x1, x2, hsp⟩ := h4
  have g := fun x hx => Nat.le_trans (split_ge hsp x hx) hlen
  exact akparse_three tj x0 x1 x2 hsp hz (g x0 (by simp)) (g x1 (by simp)) (g x2 (by simp)) w hS
 ·exact akparse_split tj hz (fun a b c h => h4 ⟨a, b, c, h⟩) w
end Go.Proofs.YtkpnheenacchhaaGreatDoor

namespace Go.Proofs.YtkpnheenacchhaaGreatDoor
set_option linter.unusedSimpArgs false
set_option linter.unusedVariables false
open Go.RowKit
set_option linter.unusedVariables false
set_option linter.unusedSimpArgs false
set_option maxRecDepth 100000 in
theorem rak_built (cm : Nat) (who sw lf : Int) (s : Nat → Nat) (A : Option Addr) (n c : Nat) : Tryz.prog.built 70 [(0, .int .u64 (cm : Nat)), (1, .int .i64 who), (2, .agg (sgC sw lf s (.slice A n c)))] = some (akC cm who sw lf s (.slice A n c)) := by kernel_rfl
set_option maxRecDepth 100000 in
theorem rak_zero : Tryz.prog.built 70 [] = some (#[.int .u64 0, .int .i64 0, .int .i64 0, .int .i64 0, .int .u64 0, .int .u64 0, .int .u64 0, .int .u64 0, .int .u64 0, .int .u64 0, .int .u64 0, .int .u64 0, .int .u64 0, .int .u64 0, .int .u64 0, .int .u64 0, .int .u64 0, .int .u64 0, .int .u64 0, .int .u64 0, .int .u64 0, .int .u64 0, .slice none 0 0]) := by kernel_rfl
set_option maxRecDepth 100000 in
theorem rak_info : (Tryz.prog.info? 70).map (·.size) = some 23 := by kernel_rfl
set_option maxRecDepth 100000 in
set_option maxHeartbeats 1000000 in
theorem rakparse_split (tj : ByteArray) (hz : tj.size ≤ 1000000) (hno : ∀ x0 x1 x2, splitF tj.data.toList ≠ some [x0, x1, x2]) (w : World) :
 Calls Tryz.prog 33 #[.string tj] w fun e w' => (∃ A c, e = .returned (.tuple #[.agg ((akO tj.data.toList).v (.slice A (akO tj.data.toList).g.2.2.length c)), .int .i64 (akE tj.data.toList)]) ∧ Rd w' w'.heap.size A (u64L (akO tj.data.toList).g.2.2) ∧ (∀ ad, A = some ad → w.heap.size < ad.block)) ∧ Grew w w' := by
 have hut := Tryz.underlying70
 have hus := Tryz.underlying68
 have bz : ∀ W, (Instr.build 70 #[]).run Tryz.prog W = .ok (.agg (#[.int .u64 0, .int .i64 0, .int .i64 0, .int .i64 0, .int .u64 0, .int .u64 0, .int .u64 0, .int .u64 0, .int .u64 0, .int .u64 0, .int .u64 0, .int .u64 0, .int .u64 0, .int .u64 0, .int .u64 0, .int .u64 0, .int .u64 0, .int .u64 0, .int .u64 0, .int .u64 0, .int .u64 0, .int .u64 0, .slice none 0 0])) W := fun W => run_build W 70 #[] _ rak_zero
 have HSI : Hid ((Tryz.prog.info? 70).map (·.size) = some (#[.int .u64 0, .int .i64 0, .int .i64 0, .int .i64 0, .int .u64 0, .int .u64 0, .int .u64 0, .int .u64 0, .int .u64 0, .int .u64 0, .int .u64 0, .int .u64 0, .int .u64 0, .int .u64 0, .int .u64 0, .int .u64 0, .int .u64 0, .int .u64 0, .int .u64 0, .int .u64 0, .int .u64 0, .int .u64 0, .slice none 0 0] : Array Value).size) := Lib.hid rak_info
 have HSIL : Hid ((Tryz.prog.info? 70).map (·.size) = some (#[.int .u64 0, .int .i64 0, .int .i64 0, .int .i64 0, .int .u64 0, .int .u64 0, .int .u64 0, .int .u64 0, .int .u64 0, .int .u64 0, .int .u64 0, .int .u64 0, .int .u64 0, .int .u64 0, .int .u64 0, .int .u64 0, .int .u64 0, .int .u64 0, .int .u64 0, .int .u64 0, .int .u64 0, .int .u64 0, .slice none 0 0] : Array Value).toList.length) := Lib.hid rak_info
 have HON : Hid ((#[.int .u64 0, .int .i64 0, .int .i64 0, .int .i64 0, .int .u64 0, .int .u64 0, .int .u64 0, .int .u64 0, .int .u64 0, .int .u64 0, .int .u64 0, .int .u64 0, .int .u64 0, .int .u64 0, .int .u64 0, .int .u64 0, .int .u64 0, .int .u64 0, .int .u64 0, .int .u64 0, .int .u64 0, .int .u64 0, .slice none 0 0] : Array Value).all (·.oneCell') = true) := Lib.hid (by simp [Value.oneCell'])
 have z0 := Ag.new w 70 (#[.int .u64 0, .int .i64 0, .int .i64 0, .int .i64 0, .int .u64 0, .int .u64 0, .int .u64 0, .int .u64 0, .int .u64 0, .int .u64 0, .int .u64 0, .int .u64 0, .int .u64 0, .int .u64 0, .int .u64 0, .int .u64 0, .int .u64 0, .int .u64 0, .int .u64 0, .int .u64 0, .int .u64 0, .int .u64 0, .slice none 0 0])
 have g0 := grew_alloc (grew_refl w) (.cells (#[.int .u64 0, .int .i64 0, .int .i64 0, .int .i64 0, .int .u64 0, .int .u64 0, .int .u64 0, .int .u64 0, .int .u64 0, .int .u64 0, .int .u64 0, .int .u64 0, .int .u64 0, .int .u64 0, .int .u64 0, .int .u64 0, .int .u64 0, .int .u64 0, .int .u64 0, .int .u64 0, .int .u64 0, .int .u64 0, .slice none 0 0]) 70)
 have CS := Lib.hid (fun W => rsplit_ok tj (by omega) W)
 go_enter Tryz.func33, Tryz.ntmps33
 go_wp2_with fail
 refine (CS.out _).mono ?_
 rintro e w1 ⟨hs, gg⟩
 have z1 := z0.grew gg
 have g1 := grew_trans g0 gg
 have HTH : Hid (w1.there w.heap.size 0 (#[.int .u64 0, .int .i64 0, .int .i64 0, .int .i64 0, .int .u64 0, .int .u64 0, .int .u64 0, .int .u64 0, .int .u64 0, .int .u64 0, .int .u64 0, .int .u64 0, .int .u64 0, .int .u64 0, .int .u64 0, .int .u64 0, .int .u64 0, .int .u64 0, .int .u64 0, .int .u64 0, .int .u64 0, .int .u64 0, .slice none 0 0] : Array Value).size) := Lib.hid (z1.thereN 23 rfl)
 have zZ := Ag.set (vs := (#[.int .u64 0, .int .i64 0, .int .i64 0, .int .i64 0, .int .u64 0, .int .u64 0, .int .u64 0, .int .u64 0, .int .u64 0, .int .u64 0, .int .u64 0, .int .u64 0, .int .u64 0, .int .u64 0, .int .u64 0, .int .u64 0, .int .u64 0, .int .u64 0, .int .u64 0, .int .u64 0, .int .u64 0, .int .u64 0, .slice none 0 0] : Array Value).toList) z1 rfl
 have gZ := setCells_grew (o := 0) (b := w.heap.size) (#[.int .u64 0, .int .i64 0, .int .i64 0, .int .i64 0, .int .u64 0, .int .u64 0, .int .u64 0, .int .u64 0, .int .u64 0, .int .u64 0, .int .u64 0, .int .u64 0, .int .u64 0, .int .u64 0, .int .u64 0, .int .u64 0, .int .u64 0, .int .u64 0, .int .u64 0, .int .u64 0, .int .u64 0, .int .u64 0, .slice none 0 0] : Array Value).toList g1 (Nat.le_refl _)
 clear CS z0 g0 gg z1 g1
 rcases hs with ⟨h1, rfl⟩ | ⟨l, h1, ⟨h2, rfl⟩ | ⟨h2, v, rfl, o1⟩⟩
 ·have HE := Lib.hid (akE_none h1)
  clear h1
  go_wp2_with (first
   | (with_reducible refine wpList_store_mid rfl 70 (.tmp 2) (.tmp 17) rfl w.heap.size 0 (#[.int .u64 0, .int .i64 0, .int .i64 0, .int .i64 0, .int .u64 0, .int .u64 0, .int .u64 0, .int .u64 0, .int .u64 0, .int .u64 0, .int .u64 0, .int .u64 0, .int .u64 0, .int .u64 0, .int .u64 0, .int .u64 0, .int .u64 0, .int .u64 0, .int .u64 0, .int .u64 0, .int .u64 0, .int .u64 0, .slice none 0 0]) rfl rfl HTH.out HSI.out HON.out ?_)
   | (go_at_call 90; refine (small_is n1 _ SM.out _).mono ?_; rintro e z ⟨rfl, hz⟩; rw [hz]; clear hz))
  exact bodyPost_ret (results_ag2 Tryz.results33 _ _ w.heap.size _ _ _ rfl rfl zZ hut rfl HSIL.out) rfl ⟨⟨none, 0, by rw [HE.out.1, HE.out.2]; rfl, by rw [HE.out.2]; exact fun k hk => absurd hk (by simp [AkR.zero, u64L]), fun ad h => by cases h⟩, gZ⟩
 ·have HE := Lib.hid (akE_long h1 h2)
  clear h1 h2
  go_wp2_with (first
   | (with_reducible refine wpList_store_mid rfl 70 (.tmp 2) (.tmp 17) rfl w.heap.size 0 (#[.int .u64 0, .int .i64 0, .int .i64 0, .int .i64 0, .int .u64 0, .int .u64 0, .int .u64 0, .int .u64 0, .int .u64 0, .int .u64 0, .int .u64 0, .int .u64 0, .int .u64 0, .int .u64 0, .int .u64 0, .int .u64 0, .int .u64 0, .int .u64 0, .int .u64 0, .int .u64 0, .int .u64 0, .int .u64 0, .slice none 0 0]) rfl rfl HTH.out HSI.out HON.out ?_)
   | (go_at_call 90; refine (small_is n1 _ SM.out _).mono ?_; rintro e z ⟨rfl, hz⟩; rw [hz]; clear hz))
  exact bodyPost_ret (results_ag2 Tryz.results33 _ _ w.heap.size _ _ _ rfl rfl zZ hut rfl HSIL.out) rfl ⟨⟨none, 0, by rw [HE.out.1, HE.out.2]; rfl, by rw [HE.out.2]; exact fun k hk => absurd hk (by simp [AkR.zero, u64L]), fun ad h => by cases h⟩, gZ⟩
 ·have hl4 : l.length ≠ 3 := fun h4 => by
   match l, h4 with
   | [a, b, c], _ => exact hno a b c h1
  have HE := Lib.hid (akE_len h1 h2 hl4)
  obtain ⟨A4, c4, rfl, -, -, -⟩ := own_rd o1
  have e4 : ((l.length : Int) != 3) = true := by simp; omega
  clear o1 h1 h2 hl4
  go_wp2_with (first
   | (with_reducible refine wpList_store_mid rfl 70 (.tmp 2) (.tmp 22) rfl w.heap.size 0 (#[.int .u64 0, .int .i64 0, .int .i64 0, .int .i64 0, .int .u64 0, .int .u64 0, .int .u64 0, .int .u64 0, .int .u64 0, .int .u64 0, .int .u64 0, .int .u64 0, .int .u64 0, .int .u64 0, .int .u64 0, .int .u64 0, .int .u64 0, .int .u64 0, .int .u64 0, .int .u64 0, .int .u64 0, .int .u64 0, .slice none 0 0]) rfl rfl HTH.out HSI.out HON.out ?_)
   | (go_at_call 90; refine (small_is n1 _ SM.out _).mono ?_; rintro e z ⟨rfl, hz⟩; rw [hz]; clear hz))
  exact bodyPost_ret (results_ag2 Tryz.results33 _ _ w.heap.size _ _ _ rfl rfl zZ hut rfl HSIL.out) rfl ⟨⟨none, 0, by rw [HE.out.1, HE.out.2]; rfl, by rw [HE.out.2]; exact fun k hk => absurd hk (by simp [AkR.zero, u64L]), fun ad h => by cases h⟩, gZ⟩
set_option maxRecDepth 100000 in
set_option maxHeartbeats 4000000 in
theorem rakparse_three (tj : ByteArray) (x0 x1 x2 : List UInt8) (hsp : splitF tj.data.toList = some [x0, x1, x2]) (hz : tj.size ≤ 1000000) (l0 : x0.length ≤ 1000000) (l1 : x1.length ≤ 1000000) (l2 : x2.length ≤ 1000000) (w : World)  :
 Calls Tryz.prog 33 #[.string tj] w fun e w' => (∃ A c, e = .returned (.tuple #[.agg ((akO tj.data.toList).v (.slice A (akO tj.data.toList).g.2.2.length c)), .int .i64 (akE tj.data.toList)]) ∧ Rd w' w'.heap.size A (u64L (akO tj.data.toList).g.2.2) ∧ (∀ ad, A = some ad → w.heap.size < ad.block)) ∧ Grew w w' := by
 have HE0 := akE_three hsp
 have CS := Lib.hid (fun W => rsplit_some (s := tj) (l := [x0, x1, x2]) hsp (by simp) (by omega) W)
 rw [show txt [x0, x1, x2] = [⟨x0.toArray⟩, ⟨x1.toArray⟩, ⟨x2.toArray⟩] from rfl] at CS
 have N1 := (fun W => rparse_ok ⟨x1.toArray⟩ (by show x1.toArray.size ≤ _; simp; omega) W)
 have HP := (fun W => rparse_any ⟨x0.toArray⟩ W)
 have KP := (fun W => rps_fr2 ⟨x2.toArray⟩ (by show x2.toArray.size ≤ _; simp; omega) W)
 unfold ak3 akF at HE0
 simp only [show (⟨x0.toArray⟩ : ByteArray).data.toList = x0 from rfl, show (⟨x1.toArray⟩ : ByteArray).data.toList = x1 from rfl, show (⟨x2.toArray⟩ : ByteArray).data.toList = x2 from rfl, pnumRes] at N1 HP KP
 clear hsp
 generalize (⟨x0.toArray⟩ : ByteArray) = t0 at *
 generalize (⟨x1.toArray⟩ : ByteArray) = t1 at *
 generalize (⟨x2.toArray⟩ : ByteArray) = t2 at *
 generalize (pnum x1).1 = n1 at *
 generalize (pnum x1).2 = a1 at *
 generalize parseO x0 = o0 at *
 have HO3 : Hid (sgE (sigP x2) = if (sigP x2).isSome = true then 0 else 2) := Lib.hid rfl
 generalize sgE (sigP x2) = e3 at *
 generalize (sigP x2).isSome = b3 at *
 generalize sgO (sigP x2) = X at *
 obtain ⟨⟨sw, lf⟩, s, l⟩ := X
 dsimp only at KP HE0
 replace N1 := Lib.hid N1
 replace HP := Lib.hid HP
 replace KP := Lib.hid KP
 replace HE0 := Lib.hid HE0
 have HEZ : ∀ b : Bool, b = false → akE tj.data.toList = (if b = true then 0 else 2) ∧ akO tj.data.toList = (if b = true then (⟨o0.getD 0, n1, ((sw, lf), s, l)⟩ : AkR) else .zero) → Hid (akE tj.data.toList = 2 ∧ akO tj.data.toList = .zero) := fun b hb h => Lib.hid (by rw [hb] at h; exact h)
 generalize akE tj.data.toList = eS at *
 generalize akO tj.data.toList = oS at *
 clear l0 l1 l2 hz
 have hut := Tryz.underlying70
 have hus := Tryz.underlying68
 have bz : ∀ W, (Instr.build 70 #[]).run Tryz.prog W = .ok (.agg (#[.int .u64 0, .int .i64 0, .int .i64 0, .int .i64 0, .int .u64 0, .int .u64 0, .int .u64 0, .int .u64 0, .int .u64 0, .int .u64 0, .int .u64 0, .int .u64 0, .int .u64 0, .int .u64 0, .int .u64 0, .int .u64 0, .int .u64 0, .int .u64 0, .int .u64 0, .int .u64 0, .int .u64 0, .int .u64 0, .slice none 0 0])) W := fun W => run_build W 70 #[] _ rak_zero
 have HSI : Hid ((Tryz.prog.info? 70).map (·.size) = some (#[.int .u64 0, .int .i64 0, .int .i64 0, .int .i64 0, .int .u64 0, .int .u64 0, .int .u64 0, .int .u64 0, .int .u64 0, .int .u64 0, .int .u64 0, .int .u64 0, .int .u64 0, .int .u64 0, .int .u64 0, .int .u64 0, .int .u64 0, .int .u64 0, .int .u64 0, .int .u64 0, .int .u64 0, .int .u64 0, .slice none 0 0] : Array Value).size) := Lib.hid rak_info
 have HSIL : Hid ((Tryz.prog.info? 70).map (·.size) = some (#[.int .u64 0, .int .i64 0, .int .i64 0, .int .i64 0, .int .u64 0, .int .u64 0, .int .u64 0, .int .u64 0, .int .u64 0, .int .u64 0, .int .u64 0, .int .u64 0, .int .u64 0, .int .u64 0, .int .u64 0, .int .u64 0, .int .u64 0, .int .u64 0, .int .u64 0, .int .u64 0, .int .u64 0, .int .u64 0, .slice none 0 0] : Array Value).toList.length) := Lib.hid rak_info
 have HON : Hid ((#[.int .u64 0, .int .i64 0, .int .i64 0, .int .i64 0, .int .u64 0, .int .u64 0, .int .u64 0, .int .u64 0, .int .u64 0, .int .u64 0, .int .u64 0, .int .u64 0, .int .u64 0, .int .u64 0, .int .u64 0, .int .u64 0, .int .u64 0, .int .u64 0, .int .u64 0, .int .u64 0, .int .u64 0, .int .u64 0, .slice none 0 0] : Array Value).all (·.oneCell') = true) := Lib.hid (by simp [Value.oneCell'])
 have z0 := Ag.new w 70 (#[.int .u64 0, .int .i64 0, .int .i64 0, .int .i64 0, .int .u64 0, .int .u64 0, .int .u64 0, .int .u64 0, .int .u64 0, .int .u64 0, .int .u64 0, .int .u64 0, .int .u64 0, .int .u64 0, .int .u64 0, .int .u64 0, .int .u64 0, .int .u64 0, .int .u64 0, .int .u64 0, .int .u64 0, .int .u64 0, .slice none 0 0])
 have g0 := grew_alloc (grew_refl w) (.cells (#[.int .u64 0, .int .i64 0, .int .i64 0, .int .i64 0, .int .u64 0, .int .u64 0, .int .u64 0, .int .u64 0, .int .u64 0, .int .u64 0, .int .u64 0, .int .u64 0, .int .u64 0, .int .u64 0, .int .u64 0, .int .u64 0, .int .u64 0, .int .u64 0, .int .u64 0, .int .u64 0, .int .u64 0, .int .u64 0, .slice none 0 0]) 70)
 go_enter Tryz.func33, Tryz.ntmps33
 go_wp2_with fail
 refine (CS.out _).mono ?_
 rintro e w1 ⟨⟨v1, rfl, o1⟩, gg⟩
 have z1 := z0.grew gg
 have g1 := grew_trans g0 gg
 obtain ⟨g, k1, rfl, hk1, hgl, hcs⟩ := own_cells o1 (by simp)
 have x0 : w1.cell? ⟨g, 0, none⟩ = some (.string t0) := by simpa using hcs 0 (.string t0) rfl
 have x1 : w1.cell? ⟨g, 1, none⟩ = some (.string t1) := by simpa using hcs 1 (.string t1) rfl
 have x2 : w1.cell? ⟨g, 2, none⟩ = some (.string t2) := by simpa using hcs 2 (.string t2) rfl
 clear CS z0 g0 gg o1 hcs
 have hk1' : (3 : Int) ≤ (k1 : Int) := by
  have : 3 ≤ k1 := hk1
  omega
 go_wp2_with fail
 refine (N1.out _).mono ?_
 rintro e w3 ⟨rfl, hw3⟩
 have gg : Grew w1 w3 := by rw [hw3]; exact grew_refl _
 clear hw3
 have x0 := (gg.cell (p := ⟨g, 0, none⟩) hgl).trans x0
 have x2 := (gg.cell (p := ⟨g, 2, none⟩) hgl).trans x2
 have hgl3 := Nat.lt_of_lt_of_le hgl gg.size
 have z3 := z1.grew gg
 have g3 := grew_trans g1 gg
 clear N1 x1 z1 g1 gg hgl
 by_cases h1 : a1 = 0
 case neg =>
  have HE := HEZ _ (by simp [h1]) HE0.out
  have e1 : (a1 != 0) = true := by simpa using h1
  clear h1 HE0
  have HTH : Hid (w3.there w.heap.size 0 (#[.int .u64 0, .int .i64 0, .int .i64 0, .int .i64 0, .int .u64 0, .int .u64 0, .int .u64 0, .int .u64 0, .int .u64 0, .int .u64 0, .int .u64 0, .int .u64 0, .int .u64 0, .int .u64 0, .int .u64 0, .int .u64 0, .int .u64 0, .int .u64 0, .int .u64 0, .int .u64 0, .int .u64 0, .int .u64 0, .slice none 0 0] : Array Value).size) := Lib.hid (z3.thereN 23 rfl)
  have zZ := Ag.set (vs := (#[.int .u64 0, .int .i64 0, .int .i64 0, .int .i64 0, .int .u64 0, .int .u64 0, .int .u64 0, .int .u64 0, .int .u64 0, .int .u64 0, .int .u64 0, .int .u64 0, .int .u64 0, .int .u64 0, .int .u64 0, .int .u64 0, .int .u64 0, .int .u64 0, .int .u64 0, .int .u64 0, .int .u64 0, .int .u64 0, .slice none 0 0] : Array Value).toList) z3 rfl
  have gZ := setCells_grew (o := 0) (b := w.heap.size) (#[.int .u64 0, .int .i64 0, .int .i64 0, .int .i64 0, .int .u64 0, .int .u64 0, .int .u64 0, .int .u64 0, .int .u64 0, .int .u64 0, .int .u64 0, .int .u64 0, .int .u64 0, .int .u64 0, .int .u64 0, .int .u64 0, .int .u64 0, .int .u64 0, .int .u64 0, .int .u64 0, .int .u64 0, .int .u64 0, .slice none 0 0] : Array Value).toList g3 (Nat.le_refl _)
  go_wp2_with (first
   | (with_reducible refine wpList_store_mid rfl 70 (.tmp 2) (.tmp 37) rfl w.heap.size 0 (#[.int .u64 0, .int .i64 0, .int .i64 0, .int .i64 0, .int .u64 0, .int .u64 0, .int .u64 0, .int .u64 0, .int .u64 0, .int .u64 0, .int .u64 0, .int .u64 0, .int .u64 0, .int .u64 0, .int .u64 0, .int .u64 0, .int .u64 0, .int .u64 0, .int .u64 0, .int .u64 0, .int .u64 0, .int .u64 0, .slice none 0 0]) rfl rfl HTH.out HSI.out HON.out ?_)
   | (go_at_call 90; refine (small_is n1 _ SM.out _).mono ?_; rintro e z ⟨rfl, hz⟩; rw [hz]; clear hz))
  exact bodyPost_ret (results_ag2 Tryz.results33 _ _ w.heap.size _ _ _ rfl rfl zZ hut rfl HSIL.out) rfl ⟨⟨none, 0, by rw [HE.out.1, HE.out.2]; rfl, by rw [HE.out.2]; exact fun k hk => absurd hk (by simp [AkR.zero, u64L]), fun ad h => by cases h⟩, gZ⟩
 subst h1
 by_cases h3 : -2147483648 ≤ n1 ∧ n1 ≤ 2147483647
 case neg =>
  have HE := HEZ _ (by simp [smallB, h3]) HE0.out
  have SM : Hid (decide (smallC n1) = false) := Lib.hid (decide_eq_false (by unfold smallC; omega))
  clear HE0
  have HTH : Hid (w3.there w.heap.size 0 (#[.int .u64 0, .int .i64 0, .int .i64 0, .int .i64 0, .int .u64 0, .int .u64 0, .int .u64 0, .int .u64 0, .int .u64 0, .int .u64 0, .int .u64 0, .int .u64 0, .int .u64 0, .int .u64 0, .int .u64 0, .int .u64 0, .int .u64 0, .int .u64 0, .int .u64 0, .int .u64 0, .int .u64 0, .int .u64 0, .slice none 0 0] : Array Value).size) := Lib.hid (z3.thereN 23 rfl)
  have zZ := Ag.set (vs := (#[.int .u64 0, .int .i64 0, .int .i64 0, .int .i64 0, .int .u64 0, .int .u64 0, .int .u64 0, .int .u64 0, .int .u64 0, .int .u64 0, .int .u64 0, .int .u64 0, .int .u64 0, .int .u64 0, .int .u64 0, .int .u64 0, .int .u64 0, .int .u64 0, .int .u64 0, .int .u64 0, .int .u64 0, .int .u64 0, .slice none 0 0] : Array Value).toList) z3 rfl
  have gZ := setCells_grew (o := 0) (b := w.heap.size) (#[.int .u64 0, .int .i64 0, .int .i64 0, .int .i64 0, .int .u64 0, .int .u64 0, .int .u64 0, .int .u64 0, .int .u64 0, .int .u64 0, .int .u64 0, .int .u64 0, .int .u64 0, .int .u64 0, .int .u64 0, .int .u64 0, .int .u64 0, .int .u64 0, .int .u64 0, .int .u64 0, .int .u64 0, .int .u64 0, .slice none 0 0] : Array Value).toList g3 (Nat.le_refl _)
  clear h3
  go_wp2_with (first
   | (with_reducible refine wpList_store_mid rfl 70 (.tmp 2) (.tmp 37) rfl w.heap.size 0 (#[.int .u64 0, .int .i64 0, .int .i64 0, .int .i64 0, .int .u64 0, .int .u64 0, .int .u64 0, .int .u64 0, .int .u64 0, .int .u64 0, .int .u64 0, .int .u64 0, .int .u64 0, .int .u64 0, .int .u64 0, .int .u64 0, .int .u64 0, .int .u64 0, .int .u64 0, .int .u64 0, .int .u64 0, .int .u64 0, .slice none 0 0]) rfl rfl HTH.out HSI.out HON.out ?_)
   | (go_at_call 90; refine (small_is n1 _ SM.out _).mono ?_; rintro e z ⟨rfl, hz⟩; rw [hz]; clear hz))
  exact bodyPost_ret (results_ag2 Tryz.results33 _ _ w.heap.size _ _ _ rfl rfl zZ hut rfl HSIL.out) rfl ⟨⟨none, 0, by rw [HE.out.1, HE.out.2]; rfl, by rw [HE.out.2]; exact fun k hk => absurd hk (by simp [AkR.zero, u64L]), fun ad h => by cases h⟩, gZ⟩
 have hw1 : ¬ n1 < -2147483648 := by omega
 have hw2 : ¬ 2147483647 < n1 := by omega
 have SM : Hid (decide (smallC n1) = true) := Lib.hid (decide_eq_true (by unfold smallC; omega))
 have HB3 : Hid (smallB n1 = true) := Lib.hid (decide_eq_true h3)
 clear h3
 go_wp2_with (go_at_call 90; refine (small_is n1 _ SM.out _).mono ?_; rintro e z ⟨rfl, hz⟩; rw [hz]; clear hz)
 refine (HP.out _).mono ?_
 rintro e v3 ⟨rfl, rfl⟩
 cases o0 with
 | none =>
  have HE := HEZ _ (by simp) HE0.out
  clear HE0
  have HTH : Hid (w3.there w.heap.size 0 (#[.int .u64 0, .int .i64 0, .int .i64 0, .int .i64 0, .int .u64 0, .int .u64 0, .int .u64 0, .int .u64 0, .int .u64 0, .int .u64 0, .int .u64 0, .int .u64 0, .int .u64 0, .int .u64 0, .int .u64 0, .int .u64 0, .int .u64 0, .int .u64 0, .int .u64 0, .int .u64 0, .int .u64 0, .int .u64 0, .slice none 0 0] : Array Value).size) := Lib.hid (z3.thereN 23 rfl)
  have zZ := Ag.set (vs := (#[.int .u64 0, .int .i64 0, .int .i64 0, .int .i64 0, .int .u64 0, .int .u64 0, .int .u64 0, .int .u64 0, .int .u64 0, .int .u64 0, .int .u64 0, .int .u64 0, .int .u64 0, .int .u64 0, .int .u64 0, .int .u64 0, .int .u64 0, .int .u64 0, .int .u64 0, .int .u64 0, .int .u64 0, .int .u64 0, .slice none 0 0] : Array Value).toList) z3 rfl
  have gZ := setCells_grew (o := 0) (b := w.heap.size) (#[.int .u64 0, .int .i64 0, .int .i64 0, .int .i64 0, .int .u64 0, .int .u64 0, .int .u64 0, .int .u64 0, .int .u64 0, .int .u64 0, .int .u64 0, .int .u64 0, .int .u64 0, .int .u64 0, .int .u64 0, .int .u64 0, .int .u64 0, .int .u64 0, .int .u64 0, .int .u64 0, .int .u64 0, .int .u64 0, .slice none 0 0] : Array Value).toList g3 (Nat.le_refl _)
  rw [parseRes_none]
  go_wp2_with (first
   | (with_reducible refine wpList_store_mid rfl 70 (.tmp 2) (.tmp 47) rfl w.heap.size 0 (#[.int .u64 0, .int .i64 0, .int .i64 0, .int .i64 0, .int .u64 0, .int .u64 0, .int .u64 0, .int .u64 0, .int .u64 0, .int .u64 0, .int .u64 0, .int .u64 0, .int .u64 0, .int .u64 0, .int .u64 0, .int .u64 0, .int .u64 0, .int .u64 0, .int .u64 0, .int .u64 0, .int .u64 0, .int .u64 0, .slice none 0 0]) rfl rfl HTH.out HSI.out HON.out ?_)
   | (go_at_call 90; refine (small_is n1 _ SM.out _).mono ?_; rintro e z ⟨rfl, hz⟩; rw [hz]; clear hz))
  exact bodyPost_ret (results_ag2 Tryz.results33 _ _ w.heap.size _ _ _ rfl rfl zZ hut rfl HSIL.out) rfl ⟨⟨none, 0, by rw [HE.out.1, HE.out.2]; rfl, by rw [HE.out.2]; exact fun k hk => absurd hk (by simp [AkR.zero, u64L]), fun ad h => by cases h⟩, gZ⟩
 | some cm =>
  rw [parseRes_some]
  go_wp2_with fail
  refine (KP.out _).mono ?_
  rintro e w4 ⟨⟨A, c, rfl, r4, hA4⟩, gg⟩
  have z4 := z3.grew gg
  have g4 := grew_trans g3 gg
  have HSI1 : Hid ((Tryz.prog.info? 68).map (·.size) = some (sgC sw lf s (.slice A l.length c)).size) := Lib.hid rg_info
  have HSL1 : Hid ((Tryz.prog.info? 68).map (·.size) = some (sgC sw lf s (.slice A l.length c)).toList.length) := Lib.hid rg_info
  have HON1 := Lib.hid (sgC_one sw lf s A l.length c)
  have HBU := Lib.hid (rak_built cm n1 sw lf s A l.length c)
  have zt := Ag.new w4 68 (#[.int .i64 0, .int .i64 0, .int .u64 0, .int .u64 0, .int .u64 0, .int .u64 0, .int .u64 0, .int .u64 0, .int .u64 0, .int .u64 0, .int .u64 0, .int .u64 0, .int .u64 0, .int .u64 0, .int .u64 0, .int .u64 0, .int .u64 0, .int .u64 0, .int .u64 0, .int .u64 0, .slice none 0 0])
  have HTH1 : Hid ((w4.alloc (.cells (#[.int .i64 0, .int .i64 0, .int .u64 0, .int .u64 0, .int .u64 0, .int .u64 0, .int .u64 0, .int .u64 0, .int .u64 0, .int .u64 0, .int .u64 0, .int .u64 0, .int .u64 0, .int .u64 0, .int .u64 0, .int .u64 0, .int .u64 0, .int .u64 0, .int .u64 0, .int .u64 0, .slice none 0 0]) 68)).there w4.heap.size 0 (sgC sw lf s (.slice A l.length c)).size) := Lib.hid (zt.thereN 21 rfl)
  have z5 := Ag.set (vs := (sgC sw lf s (.slice A l.length c)).toList) zt rfl
  have g5 : Grew w4 ((w4.alloc (.cells (#[.int .i64 0, .int .i64 0, .int .u64 0, .int .u64 0, .int .u64 0, .int .u64 0, .int .u64 0, .int .u64 0, .int .u64 0, .int .u64 0, .int .u64 0, .int .u64 0, .int .u64 0, .int .u64 0, .int .u64 0, .int .u64 0, .int .u64 0, .int .u64 0, .int .u64 0, .int .u64 0, .slice none 0 0]) 68)).setCells w4.heap.size 0 (sgC sw lf s (.slice A l.length c)).toList) := setCells_grew (o := 0) (b := w4.heap.size) (sgC sw lf s (.slice A l.length c)).toList (grew_alloc (grew_refl w4) _) (Nat.le_refl _)
  have z6 := z4.grew g5
  have r6 := r4.gr g5
  have g6 := grew_trans g4 g5
  obtain ⟨g1, hg1⟩ : ∃ g, sgC sw lf s (.slice A l.length c) = g := ⟨_, rfl⟩
  rw [hg1] at HSI1 HSL1 HON1 HTH1 HBU z5 z6 r6 g6 ⊢
  obtain ⟨w6, hw6⟩ : ∃ v, (w4.alloc (.cells (#[.int .i64 0, .int .i64 0, .int .u64 0, .int .u64 0, .int .u64 0, .int .u64 0, .int .u64 0, .int .u64 0, .int .u64 0, .int .u64 0, .int .u64 0, .int .u64 0, .int .u64 0, .int .u64 0, .int .u64 0, .int .u64 0, .int .u64 0, .int .u64 0, .int .u64 0, .int .u64 0, .slice none 0 0]) 68)).setCells w4.heap.size 0 g1.toList = v := ⟨_, rfl⟩
  rw [hw6] at z5 z6 r6 g6
  have HW6 := Lib.hid hw6
  have hm5 := z5.cell
  have hz3 := z3.lt
  have HFR : Hid (∀ ad, A = some ad → w.heap.size < ad.block) := Lib.hid (fun ad e => by have := hA4 ad e; omega)
  clear hz3 hA4 hw6 hg1 zt g5 x0 x2 z3 g3 z4 g4 gg r4 hgl3 KP HP
  cases b3 with
  | false =>
   have HE := HEZ _ (by simp) HE0.out
   have he3 : e3 = 2 := HO3.out
   subst he3
   clear HE0 HO3
   have HTH : Hid (w6.there w.heap.size 0 (#[.int .u64 0, .int .i64 0, .int .i64 0, .int .i64 0, .int .u64 0, .int .u64 0, .int .u64 0, .int .u64 0, .int .u64 0, .int .u64 0, .int .u64 0, .int .u64 0, .int .u64 0, .int .u64 0, .int .u64 0, .int .u64 0, .int .u64 0, .int .u64 0, .int .u64 0, .int .u64 0, .int .u64 0, .int .u64 0, .slice none 0 0] : Array Value).size) := Lib.hid (z6.thereN 23 rfl)
   have zZ := Ag.set (vs := (#[.int .u64 0, .int .i64 0, .int .i64 0, .int .i64 0, .int .u64 0, .int .u64 0, .int .u64 0, .int .u64 0, .int .u64 0, .int .u64 0, .int .u64 0, .int .u64 0, .int .u64 0, .int .u64 0, .int .u64 0, .int .u64 0, .int .u64 0, .int .u64 0, .int .u64 0, .int .u64 0, .int .u64 0, .int .u64 0, .slice none 0 0] : Array Value).toList) z6 rfl
   have gZ := setCells_grew (o := 0) (b := w.heap.size) (#[.int .u64 0, .int .i64 0, .int .i64 0, .int .i64 0, .int .u64 0, .int .u64 0, .int .u64 0, .int .u64 0, .int .u64 0, .int .u64 0, .int .u64 0, .int .u64 0, .int .u64 0, .int .u64 0, .int .u64 0, .int .u64 0, .int .u64 0, .int .u64 0, .int .u64 0, .int .u64 0, .int .u64 0, .int .u64 0, .slice none 0 0] : Array Value).toList g6 (Nat.le_refl _)
   go_wp2_with (first
    | (with_reducible refine wpList_store_mid rfl 68 (.tmp 9) (.tmp 54) rfl w4.heap.size 0 g1 rfl rfl HTH1.out HSI1.out HON1.out ?_; rw [HW6.out]; clear HW6 HTH1)
    | (with_reducible refine wpList_store_mid rfl 70 (.tmp 2) (.tmp 58) rfl w.heap.size 0 (#[.int .u64 0, .int .i64 0, .int .i64 0, .int .i64 0, .int .u64 0, .int .u64 0, .int .u64 0, .int .u64 0, .int .u64 0, .int .u64 0, .int .u64 0, .int .u64 0, .int .u64 0, .int .u64 0, .int .u64 0, .int .u64 0, .int .u64 0, .int .u64 0, .int .u64 0, .int .u64 0, .int .u64 0, .int .u64 0, .slice none 0 0]) rfl rfl HTH.out HSI.out HON.out ?_)
    | (go_at_call 90; refine (small_is n1 _ SM.out _).mono ?_; rintro e z ⟨rfl, hz⟩; rw [hz]; clear hz))
   exact bodyPost_ret (results_ag2 Tryz.results33 _ _ w.heap.size _ _ _ rfl rfl zZ hut rfl HSIL.out) rfl ⟨⟨none, 0, by rw [HE.out.1, HE.out.2]; rfl, by rw [HE.out.2]; exact fun k hk => absurd hk (by simp [AkR.zero, u64L]), fun ad h => by cases h⟩, gZ⟩
  | true =>
   have he3 : e3 = 0 := HO3.out
   subst he3
   have HE : Hid (eS = 0 ∧ oS = ⟨cm, n1, ((sw, lf), s, l)⟩) := Lib.hid (by have := HE0.out; simpa [HB3.out] using this)
   clear HE0 HO3
   have HTZ : Hid (w6.there w.heap.size 0 (akC cm n1 sw lf s (.slice A l.length c)).size) := Lib.hid (z6.thereN 23 rfl)
   have HOZ := Lib.hid (akC_one cm n1 sw lf s A l.length c)
   have HSZ : Hid ((Tryz.prog.info? 70).map (·.size) = some (akC cm n1 sw lf s (.slice A l.length c)).size) := Lib.hid rak_info
   have HSZL : Hid ((Tryz.prog.info? 70).map (·.size) = some (akC cm n1 sw lf s (.slice A l.length c)).toList.length) := Lib.hid rak_info
   have z7 := Ag.set (vs := (akC cm n1 sw lf s (.slice A l.length c)).toList) z6 rfl
   have K7 := setCells_kp (akC cm n1 sw lf s (.slice A l.length c)).toList w.heap.size 0 w6
   have G7 := setCells_grew (o := 0) (b := w.heap.size) (akC cm n1 sw lf s (.slice A l.length c)).toList g6 (Nat.le_refl _)
   have R7 : Rd (w6.setCells w.heap.size 0 (akC cm n1 sw lf s (.slice A l.length c)).toList) (w6.setCells w.heap.size 0 (akC cm n1 sw lf s (.slice A l.length c)).toList).heap.size A (u64L l) :=
    (r6.kp K7 (Nat.le_refl _) (fun ad e1 _ (e3 : ad.block = w.heap.size) => by have := HFR.out ad e1; omega)).more K7.size
   obtain ⟨g2, hg2⟩ : ∃ g, akC cm n1 sw lf s (.slice A l.length c) = g := ⟨_, rfl⟩
   have HG2' := Lib.hid hg2
   rw [hg2] at HTZ HOZ HSZ HSZL HBU z7 G7 R7
   clear z6 K7 r6 g6 hg2
   go_wp2_with (first
    | (with_reducible refine wpList_store_mid rfl 68 (.tmp 9) (.tmp 54) rfl w4.heap.size 0 g1 rfl rfl HTH1.out HSI1.out HON1.out ?_; rw [HW6.out]; clear HW6 HTH1)
    | (with_reducible refine wpList_load_mid rfl 68 (.tmp 9) rfl w4.heap.size 0 rfl g1.toList _ hm5 hus rfl HSL1.out ?_; simp only [Array.toArray_toList])
    | (with_reducible refine wpList_build_is rfl 70 #[(0, .tmp 60), (1, .tmp 61), (2, .tmp 62)] rfl g2 ?_ ?_; · simpa [Act.eval, Act.put] using HBU.out)
    | (with_reducible refine wpList_store_mid rfl 70 (.tmp 2) (.tmp 63) rfl w.heap.size 0 g2 rfl rfl HTZ.out HSZ.out HOZ.out ?_))
   exact bodyPost_ret (results_ag2 Tryz.results33 _ _ w.heap.size _ _ _ rfl rfl z7 hut rfl HSZL.out) rfl ⟨⟨A, c, by rw [HE.out.1, HE.out.2]; show Ending.returned (.tuple #[.agg g2.toList.toArray, .int .i64 0]) = _; rw [Array.toArray_toList, ← HG2'.out]; rfl, by rw [HE.out.2]; exact R7, HFR.out⟩, G7⟩
theorem rakparse_any (tj : ByteArray) (hz : tj.size ≤ 1000000) (w : World)  :
 Calls Tryz.prog 33 #[.string tj] w fun e w' => (∃ A c, e = .returned (.tuple #[.agg ((akO tj.data.toList).v (.slice A (akO tj.data.toList).g.2.2.length c)), .int .i64 (akE tj.data.toList)]) ∧ Rd w' w'.heap.size A (u64L (akO tj.data.toList).g.2.2) ∧ (∀ ad, A = some ad → w.heap.size < ad.block)) ∧ Grew w w' := by
 have hlen : tj.data.toList.length ≤ 1000000 := by rw [ba_len]; exact hz
 by_cases h4 : ∃ x0 x1 x2, splitF tj.data.toList = some [x0, x1, x2]
 ·obtain ⟨x0, x1, x2, hsp⟩ := h4
  have g := fun x hx => Nat.le_trans (split_ge hsp x hx) hlen
  exact rakparse_three tj x0 x1 x2 hsp hz (g x0 (by simp)) (g x1 (by simp)) (g x2 (by simp)) w 
 ·exact rakparse_split tj hz (fun a b c h => h4 ⟨a, b, c, h⟩) w
end Go.Proofs.YtkpnheenacchhaaGreatDoor

namespace Go.Proofs.YtkpnheenacchhaaGreatDoor
set_option linter.unusedSimpArgs false
set_option linter.unusedVariables false
open Go.RowKit
set_option linter.unusedVariables false
set_option linter.unusedSimpArgs false
structure AgK (w : World) (B : Nat) (cm : Nat) (who sw lf : Int) (s : Nat → Nat) (l : List Nat) (v : Value) : Prop where
 out : ∃ A c, v = .agg (akC cm who sw lf s (.slice A l.length c)) ∧ Rd w w.heap.size A (u64L l) ∧ (∀ ad, A = some ad → B ≤ ad.block)
theorem AgK.gr {w w' : World} {B cm : Nat} {who sw lf : Int} {s : Nat → Nat} {l : List Nat} {v : Value} (h : AgK w B cm who sw lf s l v) (g : Grew w w') : AgK w' B cm who sw lf s l v := by
 obtain ⟨A, c, h1, h2, h3⟩ := h.out
 exact ⟨A, c, h1, h2.gr g, h3⟩
set_option maxRecDepth 100000 in
set_option maxHeartbeats 2000000 in
theorem akof_ok (cm : Nat) (who sw lf : Int) (s : Nat → Nat) (A : Option Addr) (c : Nat) (l : List Nat) (hl : l.length ≤ 1048576) (w : World) (hr : Rd w w.heap.size A (u64L l)) :
 Calls Tryz.prog 43 #[.agg (akC cm who sw lf s (.slice A l.length c))] w fun e w' => ∃ A' c', e = .returned (.agg (akC cm who sw lf s (.slice A' l.length c'))) ∧ Rd w' w'.heap.size A' (u64L l) ∧ Grew w w' ∧ (∀ ad, A' = some ad → w.heap.size ≤ ad.block) := by
 have z0 := Ag.new w 79 (akC cm who sw lf s (.slice A l.length c))
 have G0 := grew_alloc (grew_refl w) (.cells (akC cm who sw lf s (.slice A l.length c)) 79)
 have hus := Tryz.underlying77
 have hur := Tryz.underlying70
 have CO := Lib.hid (fun W hR => kof_fr sw lf s A c l hl W hR)
 have HSL : Hid ((Tryz.prog.info? 77).map (·.size) = some (sgC sw lf s (.slice A l.length c)).toList.length) := Lib.hid sg_info
 go_enter Tryz.func43, Tryz.ntmps43
 go_wp2_with fail
 have z2 : Ag ((w.alloc (.cells (akC cm who sw lf s (.slice A l.length c)) 79)).alloc (.cells (#[.int .u64 0, .int .i64 0, .int .i64 0, .int .i64 0, .int .u64 0, .int .u64 0, .int .u64 0, .int .u64 0, .int .u64 0, .int .u64 0, .int .u64 0, .int .u64 0, .int .u64 0, .int .u64 0, .int .u64 0, .int .u64 0, .int .u64 0, .int .u64 0, .int .u64 0, .int .u64 0, .int .u64 0, .int .u64 0, .slice none 0 0]) 70)) (w.heap.size + 1) (#[.int .u64 0, .int .i64 0, .int .i64 0, .int .i64 0, .int .u64 0, .int .u64 0, .int .u64 0, .int .u64 0, .int .u64 0, .int .u64 0, .int .u64 0, .int .u64 0, .int .u64 0, .int .u64 0, .int .u64 0, .int .u64 0, .int .u64 0, .int .u64 0, .int .u64 0, .int .u64 0, .int .u64 0, .int .u64 0, .slice none 0 0] : Array Value).toList := by
  have := Ag.new (w.alloc (.cells (akC cm who sw lf s (.slice A l.length c)) 79)) 70 (#[.int .u64 0, .int .i64 0, .int .i64 0, .int .i64 0, .int .u64 0, .int .u64 0, .int .u64 0, .int .u64 0, .int .u64 0, .int .u64 0, .int .u64 0, .int .u64 0, .int .u64 0, .int .u64 0, .int .u64 0, .int .u64 0, .int .u64 0, .int .u64 0, .int .u64 0, .int .u64 0, .int .u64 0, .int .u64 0, .slice none 0 0])
  simpa using this
 have z1 := z0.grew (grew_alloc (grew_refl _) (.cells (#[.int .u64 0, .int .i64 0, .int .i64 0, .int .i64 0, .int .u64 0, .int .u64 0, .int .u64 0, .int .u64 0, .int .u64 0, .int .u64 0, .int .u64 0, .int .u64 0, .int .u64 0, .int .u64 0, .int .u64 0, .int .u64 0, .int .u64 0, .int .u64 0, .int .u64 0, .int .u64 0, .int .u64 0, .int .u64 0, .slice none 0 0]) 70))
 have G2 := grew_alloc G0 (.cells (#[.int .u64 0, .int .i64 0, .int .i64 0, .int .i64 0, .int .u64 0, .int .u64 0, .int .u64 0, .int .u64 0, .int .u64 0, .int .u64 0, .int .u64 0, .int .u64 0, .int .u64 0, .int .u64 0, .int .u64 0, .int .u64 0, .int .u64 0, .int .u64 0, .int .u64 0, .int .u64 0, .int .u64 0, .int .u64 0, .slice none 0 0]) 70)
 clear z0 G0
 generalize (w.alloc (.cells (akC cm who sw lf s (.slice A l.length c)) 79)).alloc (.cells (#[.int .u64 0, .int .i64 0, .int .i64 0, .int .i64 0, .int .u64 0, .int .u64 0, .int .u64 0, .int .u64 0, .int .u64 0, .int .u64 0, .int .u64 0, .int .u64 0, .int .u64 0, .int .u64 0, .int .u64 0, .int .u64 0, .int .u64 0, .int .u64 0, .int .u64 0, .int .u64 0, .int .u64 0, .int .u64 0, .slice none 0 0]) 70) = w2 at *
 have HC0 : Hid (∀ y, Grew w2 y → y.cell? ⟨w.heap.size, 0, none⟩ = some (.int .u64 (cm : Nat))) := Lib.hid (fun y g => by simpa using (z1.grew g).cell 0 _ rfl)
 have HC1 : Hid (∀ y, Grew w2 y → y.cell? ⟨w.heap.size, 1, none⟩ = some (.int .i64 who)) := Lib.hid (fun y g => by simpa using (z1.grew g).cell 1 _ rfl)
 have HCM : Hid (∀ y, Grew w2 y → y.rangeAt w.heap.size 2 (sgC sw lf s (.slice A l.length c)).toList) := Lib.hid (fun y g => ak_sig (z1.grew g).cell)
 have r2 := hr.gr G2
 have HRY := Lib.hid (fun y (g : Grew w2 y) => r2.gr g)
 clear z1 hr r2
 generalize sgC sw lf s (.slice A l.length c) = gs at *
 refine wp_region_rel 8 (fun ix9 => match ix9 with
  | 0 => fun v _ => v = .pointer (some ⟨w.heap.size, 0, none⟩)
  | 1 => fun v _ => v = .int .u64 (cm : Nat)
  | 2 => fun v _ => v = .pointer (some ⟨w.heap.size, 1, none⟩)
  | 3 => fun v _ => v = .int .i64 who
  | 4 => fun v _ => v = .pointer (some ⟨w.heap.size, 2, none⟩)
  | 5 => fun v _ => v = .agg gs
  | 6 => fun v w => AgS w w2.heap.size sw lf s l v
  | 7 => fun v w => AgK w w2.heap.size cm who sw lf s l v
  | _ => fun _ _ => True) (by kernel_rfl) (by kernel_rfl) ?_ ?_ ?_
 ·intro i v x y h hg
  match i, h with
  | 0, h | 1, h | 2, h | 3, h | 4, h | 5, h => exact h
  | 6, h => exact AgS.gr h hg
  | 7, h => exact AgK.gr h hg
  | m + 8, _ => trivial
 ·refine ⟨?_, ?_, ?_, ?_, ?_, ?_, ?_, ?_, trivial⟩
  ·intro vs y hg hd
   simp only [actOf, tk1, tk0, dr1, dr0, Act.put, si1, st1, st0, Nat.reduceAdd]
   go_wp2_with fail
   exact ⟨rfl, _, rfl, grew_refl _, rfl⟩
  ·intro vs y hg hd
   obtain ⟨h0, _⟩ := hd
   replace h0 := h0 rfl
   simp only [actOf, tk1, tk0, dr1, dr0, Act.put, si1, st1, st0, Nat.reduceAdd]
   rw [show vs 0 = _ from h0]
   have hc := HC0.out y hg
   go_wp2_with fail
   exact ⟨rfl, _, rfl, grew_refl _, rfl⟩
  ·intro vs y hg hd
   simp only [actOf, tk1, tk0, dr1, dr0, Act.put, si1, st1, st0, Nat.reduceAdd]
   go_wp2_with fail
   exact ⟨rfl, _, rfl, grew_refl _, rfl⟩
  ·intro vs y hg hd
   obtain ⟨h2, _⟩ := hd
   replace h2 := h2 rfl
   simp only [actOf, tk1, tk0, dr1, dr0, Act.put, si1, st1, st0, Nat.reduceAdd]
   rw [show vs 2 = _ from h2]
   have hc := HC1.out y hg
   go_wp2_with fail
   exact ⟨rfl, _, rfl, grew_refl _, rfl⟩
  ·intro vs y hg hd
   simp only [actOf, tk1, tk0, dr1, dr0, Act.put, si1, st1, st0, Nat.reduceAdd]
   go_wp2_with fail
   exact ⟨rfl, _, rfl, grew_refl _, rfl⟩
  ·intro vs y hg hd
   obtain ⟨h4, _⟩ := hd
   replace h4 := h4 rfl
   simp only [actOf, tk1, tk0, dr1, dr0, Act.put, si1, st1, st0, Nat.reduceAdd]
   rw [show vs 4 = _ from h4]
   have hm := HCM.out y hg
   go_wp2_with (with_reducible refine wpList_load_mid rfl 77 (.tmp 7) rfl w.heap.size 2 rfl gs.toList _ hm hus rfl HSL.out ?_; simp only [Array.toArray_toList])
   exact ⟨rfl, _, rfl, grew_refl _, rfl⟩
  ·intro vs y hg hd
   obtain ⟨h5, _⟩ := hd
   replace h5 := h5 rfl
   simp only [actOf, tk1, tk0, dr1, dr0, Act.put, si1, st1, st0, Nat.reduceAdd]
   rw [show vs 5 = _ from h5]
   go_wp2_with (go_at_call 105; refine (CO.out y (HRY.out y hg)).mono ?_; rintro e z ⟨A2, c2, rfl, hr2, gz, hb2⟩)
   exact ⟨rfl, _, rfl, gz, ⟨A2, c2, rfl, hr2, fun ad h => by have := hb2 ad h; have := hg.size; omega⟩⟩
  ·intro vs y hg hd
   obtain ⟨h1, h3, h6, _⟩ := hd
   replace h1 := h1 rfl
   replace h3 := h3 rfl
   replace h6 := h6 rfl
   simp only [actOf, tk1, tk0, dr1, dr0, Act.put, si1, st1, st0, Nat.reduceAdd]
   rw [show vs 1 = _ from h1, show vs 3 = _ from h3]
   obtain ⟨A2, c2, hv, hr2, hb2⟩ := AgS.out h6
   rw [hv]
   have HBU := Lib.hid (rak_built cm who sw lf s A2 l.length c2)
   go_wp2_with (with_reducible refine wpList_build_is rfl 70 #[(0, .tmp 4), (1, .tmp 6), (2, .tmp 9)] rfl (akC cm who sw lf s (.slice A2 l.length c2)) ?_ ?_; · simpa [Act.eval, Act.put] using HBU.out)
   exact ⟨rfl, _, rfl, grew_refl _, ⟨A2, c2, rfl, hr2, hb2⟩⟩
 ·intro vs y hg hJ
  have j0 : vs 0 = .pointer (some ⟨w.heap.size, 0, none⟩) := hJ 0 (by decide)
  have j1 : vs 1 = .int .u64 (cm : Nat) := hJ 1 (by decide)
  have j2 : vs 2 = .pointer (some ⟨w.heap.size, 1, none⟩) := hJ 2 (by decide)
  have j3 : vs 3 = .int .i64 who := hJ 3 (by decide)
  have j4 : vs 4 = .pointer (some ⟨w.heap.size, 2, none⟩) := hJ 4 (by decide)
  have j5 : vs 5 = .agg gs := hJ 5 (by decide)
  have s9 := hJ 6 (by decide)
  have s10 := hJ 7 (by decide)
  clear hJ
  simp only [actOf, tk1, tk0, dr1, dr0, Act.put, si1, st1, st0, Nat.reduceAdd]
  obtain ⟨A2, c2, j7, r3, hb3⟩ := AgK.out s10
  rw [j7]
  clear s9 s10 j7
  have hz1 := z2.lt
  have hz2 := G2.size
  have HNE : Hid (∀ ad, A2 = some ad → ad.block ≠ w.heap.size + 1) := Lib.hid (fun ad h => by have := hb3 ad h; omega)
  have HLO : Hid (∀ ad, A2 = some ad → w.heap.size ≤ ad.block) := Lib.hid (fun ad h => by have := hb3 ad h; omega)
  have z3 := z2.grew hg
  have G3 := grew_trans G2 hg
  clear z2 G2 hg hb3 hz1 hz2
  have HTH : Hid (y.there (w.heap.size + 1) 0 (akC cm who sw lf s (.slice A2 l.length c2)).size) := Lib.hid (z3.thereN 23 rfl)
  have HSI : Hid ((Tryz.prog.info? 70).map (·.size) = some (akC cm who sw lf s (.slice A2 l.length c2)).size) := Lib.hid rak_info
  have HON := Lib.hid (akC_one cm who sw lf s A2 l.length c2)
  have K3 := setCells_kp (akC cm who sw lf s (.slice A2 l.length c2)).toList (w.heap.size + 1) 0 y
  have r4 := (r3.kp K3 (Nat.le_refl _) (fun ad h1 h2 h3 => HNE.out ad h1 h3)).more K3.size
  have z4 := Ag.set (vs := (akC cm who sw lf s (.slice A2 l.length c2)).toList) z3 rfl
  have G4 := setCells_grew (o := 0) (b := w.heap.size + 1) (akC cm who sw lf s (.slice A2 l.length c2)).toList G3 (by omega)
  go_wp2_with (with_reducible refine wpList_store_mid rfl 70 (.tmp 2) (.tmp 10) rfl (w.heap.size + 1) 0 (akC cm who sw lf s (.slice A2 l.length c2)) rfl rfl HTH.out HSI.out HON.out ?_)
  exact bodyPost_ret (results_ag1 Tryz.results43 _ _ (w.heap.size + 1) _ _ rfl z4 hur rfl rak_info) rfl ⟨A2, ⟨c2, rfl⟩, r4, G4, HLO.out⟩
set_option maxRecDepth 100000 in
set_option maxHeartbeats 1000000 in
theorem raksame_ok (cm : Nat) (who sw lf : Int) (s : Nat → Nat) (A A' : Option Addr) (c c' : Nat) (l : List Nat) (hl : l.length ≤ 1048576) (w : World) (hr : Rd w w.heap.size A (u64L l)) (hr' : Rd w w.heap.size A' (u64L l)) :
 Calls Tryz.prog 42 #[.agg (akC cm who sw lf s (.slice A l.length c)), .agg (akC cm who sw lf s (.slice A' l.length c'))] w fun e w' => e = .returned (.bool true) ∧ Grew w w' := by
 have z1 := (Ag.new w 70 (akC cm who sw lf s (.slice A l.length c))).grew (grew_alloc (grew_refl _) (.cells (akC cm who sw lf s (.slice A' l.length c')) 70))
 have z2 := Ag.new (w.alloc (.cells (akC cm who sw lf s (.slice A l.length c)) 70)) 70 (akC cm who sw lf s (.slice A' l.length c'))
 rw [alloc_size] at z2
 have G0 := grew_alloc (grew_alloc (grew_refl w) (.cells (akC cm who sw lf s (.slice A l.length c)) 70)) (.cells (akC cm who sw lf s (.slice A' l.length c')) 70)
 have r1 := hr.gr G0
 have r2 := hr'.gr G0
 have hus := Tryz.underlying68
 have HL1 : Hid ((Tryz.prog.info? 68).map (·.size) = some (sgC sw lf s (.slice A l.length c)).toList.length) := Lib.hid rg_info
 have HL2 : Hid ((Tryz.prog.info? 68).map (·.size) = some (sgC sw lf s (.slice A' l.length c')).toList.length) := Lib.hid rg_info
 have m1 := Lib.hid (ak_sig z1.cell)
 have m2 := Lib.hid (ak_sig z2.cell)
 have x0 : ((w.alloc (.cells (akC cm who sw lf s (.slice A l.length c)) 70)).alloc (.cells (akC cm who sw lf s (.slice A' l.length c')) 70)).cell? ⟨w.heap.size, 0, none⟩ = some (.int .u64 (cm : Nat)) := by simpa using z1.cell 0 _ rfl
 have x1 : ((w.alloc (.cells (akC cm who sw lf s (.slice A l.length c)) 70)).alloc (.cells (akC cm who sw lf s (.slice A' l.length c')) 70)).cell? ⟨w.heap.size, 1, none⟩ = some (.int .i64 who) := by simpa using z1.cell 1 _ rfl
 have y0 : ((w.alloc (.cells (akC cm who sw lf s (.slice A l.length c)) 70)).alloc (.cells (akC cm who sw lf s (.slice A' l.length c')) 70)).cell? ⟨w.heap.size + 1, 0, none⟩ = some (.int .u64 (cm : Nat)) := by simpa using z2.cell 0 _ rfl
 have y1 : ((w.alloc (.cells (akC cm who sw lf s (.slice A l.length c)) 70)).alloc (.cells (akC cm who sw lf s (.slice A' l.length c')) 70)).cell? ⟨w.heap.size + 1, 1, none⟩ = some (.int .i64 who) := by simpa using z2.cell 1 _ rfl
 have CS := Lib.hid (rsame_ok sw lf s A A' c c' l hl _ r1 r2)
 have e0 : ((cm : Int) == (cm : Int)) = true := by simp
 have e1 : (who == who) = true := by simp
 have GG := Lib.hid G0
 clear z1 z2 r1 r2 G0 hr hr'
 go_enter Tryz.func42, Tryz.ntmps42
 obtain ⟨v, hv⟩ : ∃ v, (w.alloc (.cells (akC cm who sw lf s (.slice A l.length c)) 70)).alloc (.cells (akC cm who sw lf s (.slice A' l.length c')) 70) = v := ⟨_, rfl⟩
 rw [hv] at CS GG x0 x1 y0 y1 m1 m2
 go_wp2_with (first
  | (refine wpList_load_mid_want (by rfl) 68 (.tmp 18) rfl w.heap.size 2 rfl (sgC sw lf s (.slice A l.length c)).toList _ m1.out hus rfl HL1.out ?_; simp only [Array.toArray_toList])
  | (refine wpList_load_mid_want (by rfl) 68 (.tmp 20) rfl (w.heap.size + 1) 2 rfl (sgC sw lf s (.slice A' l.length c')).toList _ m2.out hus rfl HL2.out ?_; simp only [Array.toArray_toList]))
 refine (CS.out).mono ?_
 rintro e w1 ⟨rfl, gg⟩
 go_wp2_with fail
 go_ret
 exact ⟨rfl, grew_trans GG.out gg⟩
end Go.Proofs.YtkpnheenacchhaaGreatDoor

namespace Go.Proofs.YtkpnheenacchhaaGreatDoor
set_option linter.unusedSimpArgs false
set_option linter.unusedVariables false
open Go.RowKit
set_option linter.unusedVariables false
set_option linter.unusedSimpArgs false
end Go.Proofs.YtkpnheenacchhaaGreatDoor

namespace Go.Proofs.YtkpnheenacchhaaGreatDoor
set_option linter.unusedSimpArgs false
set_option linter.unusedVariables false
open Go.RowKit
set_option linter.unusedVariables false
set_option linter.unusedSimpArgs false
theorem put_ak (W : World) (cs : Array Value) (h : cs.size = 23) : ∃ W', (W.alloc (.cells (#[.int .u64 0, .int .i64 0, .int .i64 0, .int .i64 0, .int .u64 0, .int .u64 0, .int .u64 0, .int .u64 0, .int .u64 0, .int .u64 0, .int .u64 0, .int .u64 0, .int .u64 0, .int .u64 0, .int .u64 0, .int .u64 0, .int .u64 0, .int .u64 0, .int .u64 0, .int .u64 0, .int .u64 0, .int .u64 0, .slice none 0 0]) 79)).setCells W.heap.size 0 cs.toList = W' ∧ (W.alloc (.cells (#[.int .u64 0, .int .i64 0, .int .i64 0, .int .i64 0, .int .u64 0, .int .u64 0, .int .u64 0, .int .u64 0, .int .u64 0, .int .u64 0, .int .u64 0, .int .u64 0, .int .u64 0, .int .u64 0, .int .u64 0, .int .u64 0, .int .u64 0, .int .u64 0, .int .u64 0, .int .u64 0, .int .u64 0, .int .u64 0, .slice none 0 0]) 79)).there W.heap.size 0 cs.size ∧ Grew W W' ∧ Ag W' W.heap.size cs.toList :=
 ⟨_, rfl, by rw [h]; exact (Ag.new W 79 (#[.int .u64 0, .int .i64 0, .int .i64 0, .int .i64 0, .int .u64 0, .int .u64 0, .int .u64 0, .int .u64 0, .int .u64 0, .int .u64 0, .int .u64 0, .int .u64 0, .int .u64 0, .int .u64 0, .int .u64 0, .int .u64 0, .int .u64 0, .int .u64 0, .int .u64 0, .int .u64 0, .int .u64 0, .int .u64 0, .slice none 0 0])).thereN 23 rfl, setCells_grew (o := 0) (b := W.heap.size) cs.toList (grew_alloc (grew_refl W) _) (Nat.le_refl _), Ag.set (vs := cs.toList) (Ag.new W 79 (#[.int .u64 0, .int .i64 0, .int .i64 0, .int .i64 0, .int .u64 0, .int .u64 0, .int .u64 0, .int .u64 0, .int .u64 0, .int .u64 0, .int .u64 0, .int .u64 0, .int .u64 0, .int .u64 0, .int .u64 0, .int .u64 0, .int .u64 0, .int .u64 0, .int .u64 0, .int .u64 0, .int .u64 0, .int .u64 0, .slice none 0 0])) (by simp [h])⟩
theorem put_rak (W : World) (cs : Array Value) (h : cs.size = 23) : ∃ W', (W.alloc (.cells (#[.int .u64 0, .int .i64 0, .int .i64 0, .int .i64 0, .int .u64 0, .int .u64 0, .int .u64 0, .int .u64 0, .int .u64 0, .int .u64 0, .int .u64 0, .int .u64 0, .int .u64 0, .int .u64 0, .int .u64 0, .int .u64 0, .int .u64 0, .int .u64 0, .int .u64 0, .int .u64 0, .int .u64 0, .int .u64 0, .slice none 0 0]) 70)).setCells W.heap.size 0 cs.toList = W' ∧ (W.alloc (.cells (#[.int .u64 0, .int .i64 0, .int .i64 0, .int .i64 0, .int .u64 0, .int .u64 0, .int .u64 0, .int .u64 0, .int .u64 0, .int .u64 0, .int .u64 0, .int .u64 0, .int .u64 0, .int .u64 0, .int .u64 0, .int .u64 0, .int .u64 0, .int .u64 0, .int .u64 0, .int .u64 0, .int .u64 0, .int .u64 0, .slice none 0 0]) 70)).there W.heap.size 0 cs.size ∧ Grew W W' ∧ Ag W' W.heap.size cs.toList :=
 ⟨_, rfl, by rw [h]; exact (Ag.new W 70 (#[.int .u64 0, .int .i64 0, .int .i64 0, .int .i64 0, .int .u64 0, .int .u64 0, .int .u64 0, .int .u64 0, .int .u64 0, .int .u64 0, .int .u64 0, .int .u64 0, .int .u64 0, .int .u64 0, .int .u64 0, .int .u64 0, .int .u64 0, .int .u64 0, .int .u64 0, .int .u64 0, .int .u64 0, .int .u64 0, .slice none 0 0])).thereN 23 rfl, setCells_grew (o := 0) (b := W.heap.size) cs.toList (grew_alloc (grew_refl W) _) (Nat.le_refl _), Ag.set (vs := cs.toList) (Ag.new W 70 (#[.int .u64 0, .int .i64 0, .int .i64 0, .int .i64 0, .int .u64 0, .int .u64 0, .int .u64 0, .int .u64 0, .int .u64 0, .int .u64 0, .int .u64 0, .int .u64 0, .int .u64 0, .int .u64 0, .int .u64 0, .int .u64 0, .int .u64 0, .int .u64 0, .int .u64 0, .int .u64 0, .int .u64 0, .int .u64 0, .slice none 0 0])) (by simp [h])⟩
set_option maxRecDepth 100000 in
set_option maxHeartbeats 4000000 in
theorem ackWords_core (tj : ByteArray) (w : World) (hS : Std w) (ck : Calls Tryz.prog 28 #[] w fun e w' => e = .returned (.bool true) ∧ Grew w w') :
 Calls Tryz.prog 6 #[.string tj] w fun e w' => e = .returned (.bool true) ∧ Grew w w' := by
 have CK := Lib.hid ck
 have HS := Lib.hid hS
 clear hS ck
 go_enter Tryz.func6, Tryz.ntmps6
 go_wp2_with fail
 refine (CK.out).mono ?_
 rintro e w1 ⟨rfl, G1⟩
 clear CK
 cases E1 : decide (2000 < (tj.size : Int))
 case true =>
  go_wp2_with fail
  go_ret
  exact ⟨rfl, G1⟩
 case false =>
 simp only [decide_eq_false_iff_not] at E1
 have HE := Lib.hid (show tj.size ≤ 2000 by omega)
 have CA := Lib.hid (akparse_any tj (by omega) w1 (HS.out.grew G1))
 have CB := Lib.hid (fun W => rakparse_any tj (by have := HE.out; omega) W)
 have HIN := Lib.hid (akO_in tj.data.toList)
 have HBK : Hid (akE tj.data.toList = 0 → (akO tj.data.toList).t = tj.data.toList) := Lib.hid akO_back
 have E1 : decide (2000 < (tj.size : Int)) = false := decide_eq_false E1
 generalize akE tj.data.toList = ex at *
 generalize akO tj.data.toList = X at *
 obtain ⟨cm, who, ⟨sw, lf⟩, s, l⟩ := X
 unfold AkR.v at CA CB
 unfold AkR.t at HBK
 dsimp only at CA CB HBK
 have hur := Tryz.underlying70
 have huk := Tryz.underlying79
 go_wp2_with fail
 refine (CA.out).mono ?_
 rintro e w2 ⟨⟨A5, c5, rfl, r5, -⟩, g2⟩
 clear CA E1
 have G2 := grew_trans G1 g2
 obtain ⟨v2, hv2, th2, gs2, z2⟩ := put_ak w2 (akC cm who sw lf s (.slice A5 l.length c5)) rfl
 have HV2 := Lib.hid hv2
 have TH2 := Lib.hid th2
 have SI2 : Hid ((Tryz.prog.info? 79).map (·.size) = some (akC cm who sw lf s (.slice A5 l.length c5)).size) := Lib.hid ak_info
 have ON2 := Lib.hid (akC_one cm who sw lf s A5 l.length c5)
 clear hv2 th2 g2 G1
 go_wp2_with (with_reducible refine wpList_store_mid rfl 79 (.tmp 3) (.tmp 15) rfl w2.heap.size 0 (akC cm who sw lf s (.slice A5 l.length c5)) rfl rfl TH2.out SI2.out ON2.out ?_; rw [HV2.out])
 clear HV2 TH2 SI2 ON2
 have H2 := grew_trans G2 gs2
 have r5' := r5.gr gs2
 clear r5
 refine (CB.out v2).mono ?_
 rintro e w3 ⟨⟨A6, c6, rfl, r6, -⟩, g3⟩
 clear CB
 obtain ⟨v3, hv3, th3, gs3, z3⟩ := put_rak w3 (akC cm who sw lf s (.slice A6 l.length c6)) rfl
 have HV3 := Lib.hid hv3
 have TH3 := Lib.hid th3
 have SI3 : Hid ((Tryz.prog.info? 70).map (·.size) = some (akC cm who sw lf s (.slice A6 l.length c6)).size) := Lib.hid rak_info
 have ON3 := Lib.hid (akC_one cm who sw lf s A6 l.length c6)
 clear hv3 th3
 go_upto_region 7 with (with_reducible refine wpList_store_mid rfl 70 (.tmp 5) (.tmp 20) rfl w3.heap.size 0 (akC cm who sw lf s (.slice A6 l.length c6)) rfl rfl TH3.out SI3.out ON3.out ?_; rw [HV3.out])
 clear HV3 TH3 SI3 ON3
 have G8 := grew_trans H2 (grew_trans g3 gs3)
 have F1 := Lib.hid (z2.grew (grew_trans g3 gs3))
 have F2 := Lib.hid z3
 have F5 := Lib.hid (r5'.gr (grew_trans g3 gs3))
 have F6 := Lib.hid (r6.gr gs3)
 clear z2 r5' r6 z3 H2 g3 gs3 gs2 G2
 have hl8 : l.length ≤ 8 := HIN.out.len
 have CO1 := Lib.hid (fun W hR => akof_ok cm who sw lf s A5 c5 l (by omega) W hR)
 have CS1 := Lib.hid (fun A3 c3 W h1 h2 => raksame_ok cm who sw lf s A3 A6 c3 c6 l (by omega) W h1 h2)
 have CX1 := Lib.hid (fun W hW hR => aktext_ok cm who sw lf s A5 c5 l HIN.out.cm HIN.out.who HIN.out.sw HIN.out.lf (by omega) HIN.out.s HIN.out.l W hW hR)
 have HM1 := Lib.hid (fun y (g : Grew v3 y) => (F1.out.grew g).cell)
 have HM2 := Lib.hid (fun y (g : Grew v3 y) => (F2.out.grew g).cell)
 have R5 := Lib.hid (fun y (g : Grew v3 y) => F5.out.gr g)
 have R6 := Lib.hid (fun y (g : Grew v3 y) => F6.out.gr g)
 have SL1 : Hid ((Tryz.prog.info? 79).map (·.size) = some (akC cm who sw lf s (.slice A5 l.length c5)).toList.length) := Lib.hid ak_info
 have SL2 : Hid ((Tryz.prog.info? 70).map (·.size) = some (akC cm who sw lf s (.slice A6 l.length c6)).toList.length) := Lib.hid rak_info
 generalize akC cm who sw lf s (.slice A5 l.length c5) = g1 at *
 generalize akC cm who sw lf s (.slice A6 l.length c6) = g2 at *
 by_cases hex : ex = 0
 ·have hbk := HBK.out hex
  have CX1' : Hid (∀ W, Std W → Rd W W.heap.size A5 (u64L l) → Calls Tryz.prog 32 #[.agg g1] W fun e w' => e = .returned (.string tj) ∧ Grew W w') := Lib.hid (fun W hW hR => by
   have := CX1.out W hW hR
   rw [hbk] at this
   exact this)
  clear CX1
  have CX1 := CX1'
  clear CX1' hbk HBK HIN
  subst hex
  refine wp_region_rel 19 (fun ix9 => match ix9 with
   | 0 => fun v _ => v = .int .i64 0
   | 1 => fun v _ => v = .int .i64 0
   | 2 => fun v _ => v = .bool true
   | 3 => fun v _ => v = .bool true
   | 4 => fun v _ => v = .agg g1
   | 5 => fun v w => AgK w 0 cm who sw lf s l v
   | 6 => fun v _ => v = .agg g2
   | 7 => fun v _ => v = .bool true
   | 8 => fun v _ => v = .bool true
   | 9 => fun v _ => v = .bool true
   | 10 => fun v _ => v = .int .i64 0
   | 11 => fun v _ => v = .bool false
   | 12 => fun v _ => v = .bool false
   | 13 => fun v _ => v = .agg g1
   | 14 => fun v _ => v = .string tj
   | 15 => fun v _ => v = .string tj
   | 16 => fun v _ => v = .bool true
   | 17 => fun v _ => v = .bool true
   | 18 => fun v _ => v = .bool true
   | _ => fun _ _ => True) (by kernel_rfl) (by kernel_rfl) ?_ ?_ ?_
  ·intro i v x y h hg
   match i, h with
   | 0, h | 1, h | 2, h | 3, h | 4, h | 6, h | 7, h | 8, h | 9, h | 10, h | 11, h | 12, h | 13, h | 14, h | 15, h | 16, h | 17, h | 18, h => exact h
   | 5, h => exact AgK.gr h hg
   | m + 19, _ => trivial
  ·refine ⟨?_, ?_, ?_, ?_, ?_, ?_, ?_, ?_, ?_, ?_, ?_, ?_, ?_, ?_, ?_, ?_, ?_, ?_, ?_, trivial⟩
   ·intro vs y hg hd
    simp only [actOf, tk1, tk0, dr1, dr0, Act.put, si1, st1, st0, Nat.reduceAdd]
    go_wp2_with fail
    exact ⟨rfl, _, rfl, grew_refl _, rfl⟩
   ·intro vs y hg hd
    simp only [actOf, tk1, tk0, dr1, dr0, Act.put, si1, st1, st0, Nat.reduceAdd]
    go_wp2_with fail
    exact ⟨rfl, _, rfl, grew_refl _, rfl⟩
   ·intro vs y hg hd
    obtain ⟨h0, h1, _⟩ := hd
    replace h0 := h0 rfl
    replace h1 := h1 rfl
    simp only [actOf, tk1, tk0, dr1, dr0, Act.put, si1, st1, st0, Nat.reduceAdd]
    rw [show vs 0 = _ from h0, show vs 1 = _ from h1]
    go_wp2_with fail
    exact ⟨rfl, _, rfl, grew_refl _, rfl⟩
   ·intro vs y hg hd
    obtain ⟨h2, _⟩ := hd
    replace h2 := h2 rfl
    simp only [actOf, tk1, tk0, dr1, dr0, Act.put, si1, st1, st0, Nat.reduceAdd]
    rw [show vs 2 = _ from h2]
    go_wp2_with fail
    exact ⟨rfl, _, rfl, grew_refl _, rfl⟩
   ·intro vs y hg hd
    have hx : (Region.binds .any { on := 3, ground := .guard } = true → vs 3 = .bool true) ∧ True := hd
    have h3 : vs 3 = .bool true := hx.1 rfl
    clear hx
    simp only [actOf, tk1, tk0, dr1, dr0, Act.put, si1, st1, st0, Nat.reduceAdd]
    rw [show vs 3 = _ from h3]
    have hm := HM1.out y hg
    go_wp2_with (refine wpList_load_mid_want (by rfl) 79 (.tmp 3) rfl w2.heap.size 0 rfl g1.toList _ hm huk rfl SL1.out ?_; simp only [Array.toArray_toList])
    exact ⟨rfl, _, rfl, grew_refl _, rfl⟩
   ·intro vs y hg hd
    have hx : (Region.binds .any { on := 4, ground := .data } = true → vs 4 = .agg g1) ∧ (Region.binds .any { on := 3, ground := .chain } = true → vs 3 = .bool true) ∧ (Region.binds .any { on := 3, ground := .guard } = true → vs 3 = .bool true) ∧ True := hd
    have h4 : vs 4 = .agg g1 := hx.1 rfl
    have h3 : vs 3 = .bool true := hx.2.2.1 rfl
    clear hx
    simp only [actOf, tk1, tk0, dr1, dr0, Act.put, si1, st1, st0, Nat.reduceAdd]
    rw [show vs 4 = _ from h4, show vs 3 = _ from h3]
    go_wp2_with (go_at_call 43; refine (CO1.out y (R5.out y hg)).mono ?_; rintro e z ⟨A3, c3, rfl, hr9, gz, hb9⟩)
    exact ⟨rfl, _, rfl, gz, ⟨A3, c3, rfl, hr9, fun ad h => Nat.zero_le _⟩⟩
   ·intro vs y hg hd
    have hx : (Region.binds .any { on := 3, ground := .guard } = true → vs 3 = .bool true) ∧ True := hd
    have h3 : vs 3 = .bool true := hx.1 rfl
    clear hx
    simp only [actOf, tk1, tk0, dr1, dr0, Act.put, si1, st1, st0, Nat.reduceAdd]
    rw [show vs 3 = _ from h3]
    have hm := HM2.out y hg
    go_wp2_with (refine wpList_load_mid_want (by rfl) 70 (.tmp 5) rfl w3.heap.size 0 rfl g2.toList _ hm hur rfl SL2.out ?_; simp only [Array.toArray_toList])
    exact ⟨rfl, _, rfl, grew_refl _, rfl⟩
   ·intro vs y hg hd
    have hx : (Region.binds .any { on := 5, ground := .data } = true → (fun v w => AgK w 0 cm who sw lf s l v) (vs 5) y) ∧ (Region.binds .any { on := 6, ground := .data } = true → vs 6 = .agg g2) ∧ (Region.binds .any { on := 5, ground := .chain } = true → (fun v w => AgK w 0 cm who sw lf s l v) (vs 5) y) ∧ (Region.binds .any { on := 3, ground := .guard } = true → vs 3 = .bool true) ∧ True := hd
    have h5 : (fun v w => AgK w 0 cm who sw lf s l v) (vs 5) y := hx.1 rfl
    have h6 : vs 6 = .agg g2 := hx.2.1 rfl
    have h3 : vs 3 = .bool true := hx.2.2.2.1 rfl
    clear hx
    simp only [actOf, tk1, tk0, dr1, dr0, Act.put, si1, st1, st0, Nat.reduceAdd]
    rw [show vs 6 = _ from h6, show vs 3 = _ from h3]
    obtain ⟨A3, c3, hv, hr9, hb9⟩ := AgK.out h5
    rw [hv]
    have hr2 := R6.out y hg
    go_wp2_with (go_at_call 42; refine (CS1.out A3 c3 y hr9 hr2).mono ?_; rintro e z ⟨rfl, gz⟩)
    exact ⟨rfl, _, rfl, gz, rfl⟩
   ·intro vs y hg hd
    obtain ⟨h3, h7, _⟩ := hd
    replace h3 := h3 rfl
    replace h7 := h7 rfl
    simp only [actOf, tk1, tk0, dr1, dr0, Act.put, si1, st1, st0, Nat.reduceAdd]
    rw [show vs 3 = _ from h3, show vs 7 = _ from h7]
    go_wp2_with fail
    exact ⟨rfl, _, rfl, grew_refl _, rfl⟩
   ·intro vs y hg hd
    obtain ⟨h8, _⟩ := hd
    replace h8 := h8 rfl
    simp only [actOf, tk1, tk0, dr1, dr0, Act.put, si1, st1, st0, Nat.reduceAdd]
    rw [show vs 8 = _ from h8]
    go_wp2_with fail
    exact ⟨rfl, _, rfl, grew_refl _, rfl⟩
   ·intro vs y hg hd
    have hx : (Region.binds .any { on := 9, ground := .guard } = true → vs 9 = .bool true) ∧ True := hd
    have h9 : vs 9 = .bool true := hx.1 rfl
    clear hx
    simp only [actOf, tk1, tk0, dr1, dr0, Act.put, si1, st1, st0, Nat.reduceAdd]
    rw [show vs 9 = _ from h9]
    go_wp2_with fail
    exact ⟨rfl, _, rfl, grew_refl _, rfl⟩
   ·intro vs y hg hd
    have hx : (Region.binds .any { on := 10, ground := .data } = true → vs 10 = .int .i64 0) ∧ (Region.binds .any { on := 9, ground := .guard } = true → vs 9 = .bool true) ∧ True := hd
    have h10 : vs 10 = .int .i64 0 := hx.1 rfl
    have h9 : vs 9 = .bool true := hx.2.1 rfl
    clear hx
    simp only [actOf, tk1, tk0, dr1, dr0, Act.put, si1, st1, st0, Nat.reduceAdd]
    rw [show vs 10 = _ from h10, show vs 9 = _ from h9]
    go_wp2_with fail
    exact ⟨rfl, _, rfl, grew_refl _, rfl⟩
   ·intro vs y hg hd
    have hx : (Region.binds .any { on := 11, ground := .data } = true → vs 11 = .bool false) ∧ (Region.binds .any { on := 9, ground := .chain } = true → vs 9 = .bool true) ∧ (Region.binds .any { on := 9, ground := .guard } = true → vs 9 = .bool true) ∧ True := hd
    have h11 : vs 11 = .bool false := hx.1 rfl
    have h9 : vs 9 = .bool true := hx.2.2.1 rfl
    clear hx
    simp only [actOf, tk1, tk0, dr1, dr0, Act.put, si1, st1, st0, Nat.reduceAdd]
    rw [show vs 11 = _ from h11, show vs 9 = _ from h9]
    go_wp2_with fail
    exact ⟨rfl, _, rfl, grew_refl _, rfl⟩
   ·intro vs y hg hd
    have hx : (Region.binds .any { on := 12, ground := .guard } = true → vs 12 = .bool false) ∧ True := hd
    have h12 : vs 12 = .bool false := hx.1 rfl
    clear hx
    simp only [actOf, tk1, tk0, dr1, dr0, Act.put, si1, st1, st0, Nat.reduceAdd]
    rw [show vs 12 = _ from h12]
    have hm := HM1.out y hg
    go_wp2_with (refine wpList_load_mid_want (by rfl) 79 (.tmp 3) rfl w2.heap.size 0 rfl g1.toList _ hm huk rfl SL1.out ?_; simp only [Array.toArray_toList])
    exact ⟨rfl, _, rfl, grew_refl _, rfl⟩
   ·intro vs y hg hd
    have hx : (Region.binds .any { on := 13, ground := .data } = true → vs 13 = .agg g1) ∧ (Region.binds .any { on := 12, ground := .chain } = true → vs 12 = .bool false) ∧ (Region.binds .any { on := 12, ground := .guard } = true → vs 12 = .bool false) ∧ True := hd
    have h13 : vs 13 = .agg g1 := hx.1 rfl
    have h12 : vs 12 = .bool false := hx.2.2.1 rfl
    clear hx
    simp only [actOf, tk1, tk0, dr1, dr0, Act.put, si1, st1, st0, Nat.reduceAdd]
    rw [show vs 13 = _ from h13, show vs 12 = _ from h12]
    go_wp2_with (go_at_call 32; refine (CX1.out y (HS.out.grew (grew_trans G8 hg)) (R5.out y hg)).mono ?_; rintro e z ⟨rfl, gz⟩)
    exact ⟨rfl, _, rfl, gz, rfl⟩
   ·intro vs y hg hd
    have hx : (Region.binds .any { on := 12, ground := .guard } = true → vs 12 = .bool false) ∧ True := hd
    have h12 : vs 12 = .bool false := hx.1 rfl
    clear hx
    simp only [actOf, tk1, tk0, dr1, dr0, Act.put, si1, st1, st0, Nat.reduceAdd]
    rw [show vs 12 = _ from h12]
    go_wp2_with fail
    exact ⟨rfl, _, rfl, grew_refl _, rfl⟩
   ·intro vs y hg hd
    have hx : (Region.binds .any { on := 14, ground := .data } = true → vs 14 = .string tj) ∧ (Region.binds .any { on := 15, ground := .data } = true → vs 15 = .string tj) ∧ (Region.binds .any { on := 12, ground := .guard } = true → vs 12 = .bool false) ∧ True := hd
    have h14 : vs 14 = .string tj := hx.1 rfl
    have h15 : vs 15 = .string tj := hx.2.1 rfl
    have h12 : vs 12 = .bool false := hx.2.2.1 rfl
    clear hx
    simp only [actOf, tk1, tk0, dr1, dr0, Act.put, si1, st1, st0, Nat.reduceAdd]
    rw [show vs 14 = _ from h14, show vs 15 = _ from h15, show vs 12 = _ from h12]
    go_wp2_with fail
    exact ⟨rfl, _, rfl, grew_refl _, by simp⟩
   ·intro vs y hg hd
    have hx : (Region.binds .any { on := 12, ground := .data } = true → vs 12 = .bool false) ∧ (Region.binds .any { on := 16, ground := .data } = true → vs 16 = .bool true) ∧ (Region.binds .any { on := 9, ground := .guard } = true → vs 9 = .bool true) ∧ True := hd
    have h12 : vs 12 = .bool false := hx.1 rfl
    have h16 : vs 16 = .bool true := hx.2.1 rfl
    have h9 : vs 9 = .bool true := hx.2.2.1 rfl
    clear hx
    simp only [actOf, tk1, tk0, dr1, dr0, Act.put, si1, st1, st0, Nat.reduceAdd]
    rw [show vs 12 = _ from h12, show vs 16 = _ from h16, show vs 9 = _ from h9]
    go_wp2_with fail
    exact ⟨rfl, _, rfl, grew_refl _, rfl⟩
   ·intro vs y hg hd
    obtain ⟨h9, h17, _⟩ := hd
    replace h9 := h9 rfl
    replace h17 := h17 rfl
    simp only [actOf, tk1, tk0, dr1, dr0, Act.put, si1, st1, st0, Nat.reduceAdd]
    rw [show vs 9 = _ from h9, show vs 17 = _ from h17]
    go_wp2_with fail
    exact ⟨rfl, _, rfl, grew_refl _, rfl⟩
  ·intro vs y hg hJ
   have j0 : vs 0 = .int .i64 0 := hJ 0 (by decide)
   have j1 : vs 1 = .int .i64 0 := hJ 1 (by decide)
   have j2 : vs 2 = .bool true := hJ 2 (by decide)
   have j3 : vs 3 = .bool true := hJ 3 (by decide)
   have j4 : vs 4 = .agg g1 := hJ 4 (by decide)
   have j6 : vs 6 = .agg g2 := hJ 6 (by decide)
   have j7 : vs 7 = .bool true := hJ 7 (by decide)
   have j8 : vs 8 = .bool true := hJ 8 (by decide)
   have j9 : vs 9 = .bool true := hJ 9 (by decide)
   have j10 : vs 10 = .int .i64 0 := hJ 10 (by decide)
   have j11 : vs 11 = .bool false := hJ 11 (by decide)
   have j12 : vs 12 = .bool false := hJ 12 (by decide)
   have j13 : vs 13 = .agg g1 := hJ 13 (by decide)
   have j14 : vs 14 = .string tj := hJ 14 (by decide)
   have j15 : vs 15 = .string tj := hJ 15 (by decide)
   have j16 : vs 16 = .bool true := hJ 16 (by decide)
   have j17 : vs 17 = .bool true := hJ 17 (by decide)
   have j18 : vs 18 = .bool true := hJ 18 (by decide)
   have s27 := hJ 5 (by decide)
   clear hJ
   simp only [actOf, tk1, tk0, dr1, dr0, Act.put, si1, st1, st0, Nat.reduceAdd]
   go_wp2_with fail
   go_ret
   exact ⟨rfl, grew_trans G8 hg⟩
 ·have e1 : (ex != 0) = true := by simpa using hex
  have e2 : (ex == ex) = true := by simp
  clear HBK HIN hex CX1
  refine wp_region_rel 19 (fun ix9 => match ix9 with
   | 0 => fun v _ => v = .int .i64 ex
   | 1 => fun v _ => v = .int .i64 ex
   | 2 => fun v _ => v = .bool true
   | 3 => fun v _ => v = .bool true
   | 4 => fun v _ => v = .agg g1
   | 5 => fun v w => AgK w 0 cm who sw lf s l v
   | 6 => fun v _ => v = .agg g2
   | 7 => fun v _ => v = .bool true
   | 8 => fun v _ => v = .bool true
   | 9 => fun v _ => v = .bool true
   | 10 => fun v _ => v = .int .i64 ex
   | 11 => fun v _ => v = .bool true
   | 12 => fun v _ => v = .bool true
   | 13 => fun v _ => v = undef
   | 14 => fun v _ => v = undef
   | 15 => fun v _ => v = undef
   | 16 => fun v _ => v = undef
   | 17 => fun v _ => v = .bool true
   | 18 => fun v _ => v = .bool true
   | _ => fun _ _ => True) (by kernel_rfl) (by kernel_rfl) ?_ ?_ ?_
  ·intro i v x y h hg
   match i, h with
   | 0, h | 1, h | 2, h | 3, h | 4, h | 6, h | 7, h | 8, h | 9, h | 10, h | 11, h | 12, h | 13, h | 14, h | 15, h | 16, h | 17, h | 18, h => exact h
   | 5, h => exact AgK.gr h hg
   | m + 19, _ => trivial
  ·refine ⟨?_, ?_, ?_, ?_, ?_, ?_, ?_, ?_, ?_, ?_, ?_, ?_, ?_, ?_, ?_, ?_, ?_, ?_, ?_, trivial⟩
   ·intro vs y hg hd
    simp only [actOf, tk1, tk0, dr1, dr0, Act.put, si1, st1, st0, Nat.reduceAdd]
    go_wp2_with fail
    exact ⟨rfl, _, rfl, grew_refl _, rfl⟩
   ·intro vs y hg hd
    simp only [actOf, tk1, tk0, dr1, dr0, Act.put, si1, st1, st0, Nat.reduceAdd]
    go_wp2_with fail
    exact ⟨rfl, _, rfl, grew_refl _, rfl⟩
   ·intro vs y hg hd
    obtain ⟨h0, h1, _⟩ := hd
    replace h0 := h0 rfl
    replace h1 := h1 rfl
    simp only [actOf, tk1, tk0, dr1, dr0, Act.put, si1, st1, st0, Nat.reduceAdd]
    rw [show vs 0 = _ from h0, show vs 1 = _ from h1]
    go_wp2_with fail
    exact ⟨rfl, _, rfl, grew_refl _, rfl⟩
   ·intro vs y hg hd
    obtain ⟨h2, _⟩ := hd
    replace h2 := h2 rfl
    simp only [actOf, tk1, tk0, dr1, dr0, Act.put, si1, st1, st0, Nat.reduceAdd]
    rw [show vs 2 = _ from h2]
    go_wp2_with fail
    exact ⟨rfl, _, rfl, grew_refl _, rfl⟩
   ·intro vs y hg hd
    have hx : (Region.binds .any { on := 3, ground := .guard } = true → vs 3 = .bool true) ∧ True := hd
    have h3 : vs 3 = .bool true := hx.1 rfl
    clear hx
    simp only [actOf, tk1, tk0, dr1, dr0, Act.put, si1, st1, st0, Nat.reduceAdd]
    rw [show vs 3 = _ from h3]
    have hm := HM1.out y hg
    go_wp2_with (refine wpList_load_mid_want (by rfl) 79 (.tmp 3) rfl w2.heap.size 0 rfl g1.toList _ hm huk rfl SL1.out ?_; simp only [Array.toArray_toList])
    exact ⟨rfl, _, rfl, grew_refl _, rfl⟩
   ·intro vs y hg hd
    have hx : (Region.binds .any { on := 4, ground := .data } = true → vs 4 = .agg g1) ∧ (Region.binds .any { on := 3, ground := .chain } = true → vs 3 = .bool true) ∧ (Region.binds .any { on := 3, ground := .guard } = true → vs 3 = .bool true) ∧ True := hd
    have h4 : vs 4 = .agg g1 := hx.1 rfl
    have h3 : vs 3 = .bool true := hx.2.2.1 rfl
    clear hx
    simp only [actOf, tk1, tk0, dr1, dr0, Act.put, si1, st1, st0, Nat.reduceAdd]
    rw [show vs 4 = _ from h4, show vs 3 = _ from h3]
    go_wp2_with (go_at_call 43; refine (CO1.out y (R5.out y hg)).mono ?_; rintro e z ⟨A3, c3, rfl, hr9, gz, hb9⟩)
    exact ⟨rfl, _, rfl, gz, ⟨A3, c3, rfl, hr9, fun ad h => Nat.zero_le _⟩⟩
   ·intro vs y hg hd
    have hx : (Region.binds .any { on := 3, ground := .guard } = true → vs 3 = .bool true) ∧ True := hd
    have h3 : vs 3 = .bool true := hx.1 rfl
    clear hx
    simp only [actOf, tk1, tk0, dr1, dr0, Act.put, si1, st1, st0, Nat.reduceAdd]
    rw [show vs 3 = _ from h3]
    have hm := HM2.out y hg
    go_wp2_with (refine wpList_load_mid_want (by rfl) 70 (.tmp 5) rfl w3.heap.size 0 rfl g2.toList _ hm hur rfl SL2.out ?_; simp only [Array.toArray_toList])
    exact ⟨rfl, _, rfl, grew_refl _, rfl⟩
   ·intro vs y hg hd
    have hx : (Region.binds .any { on := 5, ground := .data } = true → (fun v w => AgK w 0 cm who sw lf s l v) (vs 5) y) ∧ (Region.binds .any { on := 6, ground := .data } = true → vs 6 = .agg g2) ∧ (Region.binds .any { on := 5, ground := .chain } = true → (fun v w => AgK w 0 cm who sw lf s l v) (vs 5) y) ∧ (Region.binds .any { on := 3, ground := .guard } = true → vs 3 = .bool true) ∧ True := hd
    have h5 : (fun v w => AgK w 0 cm who sw lf s l v) (vs 5) y := hx.1 rfl
    have h6 : vs 6 = .agg g2 := hx.2.1 rfl
    have h3 : vs 3 = .bool true := hx.2.2.2.1 rfl
    clear hx
    simp only [actOf, tk1, tk0, dr1, dr0, Act.put, si1, st1, st0, Nat.reduceAdd]
    rw [show vs 6 = _ from h6, show vs 3 = _ from h3]
    obtain ⟨A3, c3, hv, hr9, hb9⟩ := AgK.out h5
    rw [hv]
    have hr2 := R6.out y hg
    go_wp2_with (go_at_call 42; refine (CS1.out A3 c3 y hr9 hr2).mono ?_; rintro e z ⟨rfl, gz⟩)
    exact ⟨rfl, _, rfl, gz, rfl⟩
   ·intro vs y hg hd
    obtain ⟨h3, h7, _⟩ := hd
    replace h3 := h3 rfl
    replace h7 := h7 rfl
    simp only [actOf, tk1, tk0, dr1, dr0, Act.put, si1, st1, st0, Nat.reduceAdd]
    rw [show vs 3 = _ from h3, show vs 7 = _ from h7]
    go_wp2_with fail
    exact ⟨rfl, _, rfl, grew_refl _, rfl⟩
   ·intro vs y hg hd
    obtain ⟨h8, _⟩ := hd
    replace h8 := h8 rfl
    simp only [actOf, tk1, tk0, dr1, dr0, Act.put, si1, st1, st0, Nat.reduceAdd]
    rw [show vs 8 = _ from h8]
    go_wp2_with fail
    exact ⟨rfl, _, rfl, grew_refl _, rfl⟩
   ·intro vs y hg hd
    have hx : (Region.binds .any { on := 9, ground := .guard } = true → vs 9 = .bool true) ∧ True := hd
    have h9 : vs 9 = .bool true := hx.1 rfl
    clear hx
    simp only [actOf, tk1, tk0, dr1, dr0, Act.put, si1, st1, st0, Nat.reduceAdd]
    rw [show vs 9 = _ from h9]
    go_wp2_with fail
    exact ⟨rfl, _, rfl, grew_refl _, rfl⟩
   ·intro vs y hg hd
    have hx : (Region.binds .any { on := 10, ground := .data } = true → vs 10 = .int .i64 ex) ∧ (Region.binds .any { on := 9, ground := .guard } = true → vs 9 = .bool true) ∧ True := hd
    have h10 : vs 10 = .int .i64 ex := hx.1 rfl
    have h9 : vs 9 = .bool true := hx.2.1 rfl
    clear hx
    simp only [actOf, tk1, tk0, dr1, dr0, Act.put, si1, st1, st0, Nat.reduceAdd]
    rw [show vs 10 = _ from h10, show vs 9 = _ from h9]
    go_wp2_with fail
    exact ⟨rfl, _, rfl, grew_refl _, rfl⟩
   ·intro vs y hg hd
    have hx : (Region.binds .any { on := 11, ground := .data } = true → vs 11 = .bool true) ∧ (Region.binds .any { on := 9, ground := .chain } = true → vs 9 = .bool true) ∧ (Region.binds .any { on := 9, ground := .guard } = true → vs 9 = .bool true) ∧ True := hd
    have h11 : vs 11 = .bool true := hx.1 rfl
    have h9 : vs 9 = .bool true := hx.2.2.1 rfl
    clear hx
    simp only [actOf, tk1, tk0, dr1, dr0, Act.put, si1, st1, st0, Nat.reduceAdd]
    rw [show vs 11 = _ from h11, show vs 9 = _ from h9]
    go_wp2_with fail
    exact ⟨rfl, _, rfl, grew_refl _, rfl⟩
   ·intro vs y hg hd
    have hx : (Region.binds .any { on := 12, ground := .guard } = true → vs 12 = .bool true) ∧ True := hd
    have h12 : vs 12 = .bool true := hx.1 rfl
    clear hx
    simp only [actOf, tk1, tk0, dr1, dr0, Act.put, si1, st1, st0, Nat.reduceAdd]
    rw [show vs 12 = _ from h12]
    go_wp2_with fail
    exact ⟨rfl, _, rfl, grew_refl _, rfl⟩
   ·intro vs y hg hd
    have hx : (Region.binds .any { on := 13, ground := .data } = true → vs 13 = undef) ∧ (Region.binds .any { on := 12, ground := .chain } = true → vs 12 = .bool true) ∧ (Region.binds .any { on := 12, ground := .guard } = true → vs 12 = .bool true) ∧ True := hd
    have h13 : vs 13 = undef := hx.1 rfl
    have h12 : vs 12 = .bool true := hx.2.2.1 rfl
    clear hx
    simp only [actOf, tk1, tk0, dr1, dr0, Act.put, si1, st1, st0, Nat.reduceAdd]
    rw [show vs 13 = _ from h13, show vs 12 = _ from h12]
    go_wp2_with fail
    exact ⟨rfl, _, rfl, grew_refl _, rfl⟩
   ·intro vs y hg hd
    have hx : (Region.binds .any { on := 12, ground := .guard } = true → vs 12 = .bool true) ∧ True := hd
    have h12 : vs 12 = .bool true := hx.1 rfl
    clear hx
    simp only [actOf, tk1, tk0, dr1, dr0, Act.put, si1, st1, st0, Nat.reduceAdd]
    rw [show vs 12 = _ from h12]
    go_wp2_with fail
    exact ⟨rfl, _, rfl, grew_refl _, rfl⟩
   ·intro vs y hg hd
    have hx : (Region.binds .any { on := 14, ground := .data } = true → vs 14 = undef) ∧ (Region.binds .any { on := 15, ground := .data } = true → vs 15 = undef) ∧ (Region.binds .any { on := 12, ground := .guard } = true → vs 12 = .bool true) ∧ True := hd
    have h14 : vs 14 = undef := hx.1 rfl
    have h15 : vs 15 = undef := hx.2.1 rfl
    have h12 : vs 12 = .bool true := hx.2.2.1 rfl
    clear hx
    simp only [actOf, tk1, tk0, dr1, dr0, Act.put, si1, st1, st0, Nat.reduceAdd]
    rw [show vs 14 = _ from h14, show vs 15 = _ from h15, show vs 12 = _ from h12]
    go_wp2_with fail
    exact ⟨rfl, _, rfl, grew_refl _, rfl⟩
   ·intro vs y hg hd
    have hx : (Region.binds .any { on := 12, ground := .data } = true → vs 12 = .bool true) ∧ (Region.binds .any { on := 16, ground := .data } = true → vs 16 = undef) ∧ (Region.binds .any { on := 9, ground := .guard } = true → vs 9 = .bool true) ∧ True := hd
    have h12 : vs 12 = .bool true := hx.1 rfl
    have h16 : vs 16 = undef := hx.2.1 rfl
    have h9 : vs 9 = .bool true := hx.2.2.1 rfl
    clear hx
    simp only [actOf, tk1, tk0, dr1, dr0, Act.put, si1, st1, st0, Nat.reduceAdd]
    rw [show vs 12 = _ from h12, show vs 16 = _ from h16, show vs 9 = _ from h9]
    go_wp2_with fail
    exact ⟨rfl, _, rfl, grew_refl _, rfl⟩
   ·intro vs y hg hd
    obtain ⟨h9, h17, _⟩ := hd
    replace h9 := h9 rfl
    replace h17 := h17 rfl
    simp only [actOf, tk1, tk0, dr1, dr0, Act.put, si1, st1, st0, Nat.reduceAdd]
    rw [show vs 9 = _ from h9, show vs 17 = _ from h17]
    go_wp2_with fail
    exact ⟨rfl, _, rfl, grew_refl _, rfl⟩
  ·intro vs y hg hJ
   have j0 : vs 0 = .int .i64 ex := hJ 0 (by decide)
   have j1 : vs 1 = .int .i64 ex := hJ 1 (by decide)
   have j2 : vs 2 = .bool true := hJ 2 (by decide)
   have j3 : vs 3 = .bool true := hJ 3 (by decide)
   have j4 : vs 4 = .agg g1 := hJ 4 (by decide)
   have j6 : vs 6 = .agg g2 := hJ 6 (by decide)
   have j7 : vs 7 = .bool true := hJ 7 (by decide)
   have j8 : vs 8 = .bool true := hJ 8 (by decide)
   have j9 : vs 9 = .bool true := hJ 9 (by decide)
   have j10 : vs 10 = .int .i64 ex := hJ 10 (by decide)
   have j11 : vs 11 = .bool true := hJ 11 (by decide)
   have j12 : vs 12 = .bool true := hJ 12 (by decide)
   have j13 : vs 13 = undef := hJ 13 (by decide)
   have j14 : vs 14 = undef := hJ 14 (by decide)
   have j15 : vs 15 = undef := hJ 15 (by decide)
   have j16 : vs 16 = undef := hJ 16 (by decide)
   have j17 : vs 17 = .bool true := hJ 17 (by decide)
   have j18 : vs 18 = .bool true := hJ 18 (by decide)
   have s27 := hJ 5 (by decide)
   clear hJ
   simp only [actOf, tk1, tk0, dr1, dr0, Act.put, si1, st1, st0, Nat.reduceAdd]
   go_wp2_with fail
   go_ret
   exact ⟨rfl, grew_trans G8 hg⟩
end Go.Proofs.YtkpnheenacchhaaGreatDoor

namespace Go.Proofs.YtkpnheenacchhaaGreatDoor
set_option linter.unusedSimpArgs false
set_option linter.unusedVariables false
open Go.RowKit
set_option linter.unusedVariables false
/-- a ack, told apart from where it lies -/
structure AP where
 cm : Nat
 who : Int
 sw : Int
 lf : Int
 s : Nat → Nat
 A : Option Addr
 c : Nat
 l : List Nat
def AP.C (S : AP) : Array Value := akC S.cm S.who S.sw S.lf S.s (.slice S.A S.l.length S.c)
structure AP.ok (S : AP) : Prop where
 cm : S.cm < 18446744073709551616
 who : in64 S.who
 sw : in64 S.sw
 lf : in64 S.lf
 s : ∀ k, k < 18 → S.s k < 18446744073709551616
 len : S.l.length ≤ 1000
 l : ∀ x ∈ S.l, x < 18446744073709551616
def AP.at (S : AP) (w : World) : Prop := Rd w w.heap.size S.A (u64L S.l)
theorem AP.at.gr {S : AP} {w w' : World} (h : S.at w) (g : Grew w w') : S.at w' := Rd.gr h g
def apL (L : List AP) : List (List Value) := L.map fun S => S.C.toList
theorem apL_z (L : List AP) : ∀ l ∈ apL L, l.length = 23 := fun l hl => by
 obtain ⟨S, _, rfl⟩ := List.mem_map.1 hl
 rfl
theorem apL_len (L : List AP) : (apL L).length = L.length := by simp [apL]
theorem apL_append (L M : List AP) : apL (L ++ M) = apL L ++ apL M := by simp [apL]
theorem apL_take (L : List AP) (n : Nat) : apL (L.take n) = (apL L).take n := by simp [apL]
theorem AP.one (S : AP) : S.C.all (·.oneCell') = true := akC_one _ _ _ _ _ _ _ _
theorem AP.one' (S : AP) : ∀ u ∈ S.C.toList, u.oneCell' = true := fun u hu => by
 have := S.one
 rw [Array.all_eq_true] at this
 obtain ⟨i, hi, rfl⟩ := List.getElem_of_mem hu
 simpa using this i (by simpa using hi)
/-- rows of acks, each of which is there -/
structure Aps (w : World) (A : Option Addr) (L : List AP) : Prop where
 rd : RdC w A 23 (apL L)
 ok : ∀ S ∈ L, S.ok
 at_ : ∀ S ∈ L, S.at w
theorem Aps.gr {w w' : World} {A : Option Addr} {L : List AP} (h : Aps w A L) (g : Grew w w') : Aps w' A L := ⟨h.rd.gr g, h.ok, fun S hS => (h.at_ S hS).gr g⟩
theorem Aps.take {w : World} {A : Option Addr} {L : List AP} (h : Aps w A L) (n : Nat) : Aps w A (L.take n) :=
 ⟨by rw [apL_take]; exact h.rd.take n, fun S hS => h.ok S (List.mem_of_mem_take hS), fun S hS => h.at_ S (List.mem_of_mem_take hS)⟩
theorem Aps.get {w : World} {A : Option Addr} {L : List AP} (h : Aps w A L) (k : Nat) (hk : k < L.length) : ∃ q, A = some ⟨q, 0, none⟩ ∧ q < w.heap.size ∧ w.rangeAt q (k * 23) L[k].C.toList := by
 obtain ⟨q, e, hq, hr⟩ := h.rd k (by rw [apL_len]; exact hk)
 exact ⟨q, e, hq, by simpa [apL] using hr⟩
end Go.Proofs.YtkpnheenacchhaaGreatDoor
