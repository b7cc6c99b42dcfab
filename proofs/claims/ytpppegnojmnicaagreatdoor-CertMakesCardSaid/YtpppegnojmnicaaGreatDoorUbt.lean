/- CertMakes: Make in one form, are stamps few and short. -/
import Derived.Test.YtpppegnojmnicaaGreatDoorUbp
import Derived.Test.YtpppegnojmnicaaGreatDoorUbm
import Derived.Test.YtpppegnojmnicaaGreatDoorUbs
import Derived.Test.YtpppegnojmnicaaGreatDoorUak
set_option linter.unusedSimpArgs false
set_option linter.unusedVariables false
namespace Go.Proofs.YtpppegnojmnicaaGreatDoor
open Go.RowKit
theorem ko (w : World) : Sps w none [] := ⟨fun k hk => by simp [spL] at hk, by simp, by simp⟩
/-- median.Make, whatever is handed to it -/
theorem zin (c : Cm) {K : KP} (hK : K.ok) (A : Option Addr) (cap : Nat) (L : List SP) (hl : L.length ≤ 100000) (w : World) (hS : Std w) (hk : K.at w) (hL : Sps w A L) :
 Calls Tryz.prog 34 #[.agg K.C, .agg c.cells, .slice A L.length cap] w fun e w' => ∃ B k M, e = .returned (.tuple #[.agg (ctC (makeR K c L).1 B (makeR K c L).2.1.length k), .int .i64 (makeR K c L).2.2]) ∧ MvL (makeR K c L).2.1 M ∧ Sps w' B M ∧ (∀ ad, B = some ad → w.heap.size ≤ ad.block ∧ ad.block < w'.heap.size) ∧ (∀ S ∈ M, ∀ ad, S.A = some ad → S.l = [] ∨ w.heap.size ≤ ad.block) ∧ Grew w w' := by
 by_cases hc : okC c
 ·cases hen : enoughB K (dgC c) L with
  | true =>
   rw [xF hc hen]
   have := zcl c hK A cap L hl hc w hS hk hL hen
   refine this.mono ?_
   rintro e w' ⟨B', k', M', rfl, m1, m2, m3, m4, m5⟩
   refine ⟨B', k', M', rfl, m1, m2, fun ad h => ⟨m3 ad h, ?_⟩, m4, m5⟩
   have hf := hK.f
   obtain ⟨q9, e9, hq9, -⟩ := m2.get 0 (by rw [m1.len, jh hen]; omega)
   rw [h] at e9; cases e9; exact hq9
  | false =>
   rw [xi hc hen]
   refine (jf c hK A cap L hl hc w hS hk hL hen).mono ?_
   rintro e w' ⟨rfl, gg⟩
   exact ⟨none, 0, [], rfl, MvL.nil, ko _, (fun ad h => by cases h), by simp, gg⟩
 ·rw [xE hc]
  refine (zj9 c hK A cap L hl hc w).mono ?_
  rintro e w' ⟨rfl, gg⟩
  exact ⟨none, 0, [], rfl, MvL.nil, ko _, (fun ad h => by cases h), by simp, gg⟩
theorem zk4 (a : Addr) {n : Nat} (h : n ≠ 0) : a.add n = ⟨a.block, a.off + n, none⟩ := by unfold Addr.add; rw [if_neg h]
/-- rows of stamps that came in, wherever they lie -/
def RdG (w : World) (A : Option Addr) (L : List SP) : Prop := ∀ k (h : k < L.length), ∃ ad, A = some ad ∧ ad.block < w.heap.size ∧ ∀ j v, L[k].C.toList[j]? = some v → w.cell? ((ad.add (k * 24)).add j) = some v
theorem RdG.gr {w w' : World} {A : Option Addr} {L : List SP} (h : RdG w A L) (g : Grew w w') : RdG w' A L := fun k hk => by
 obtain ⟨ad, e, hb, hc⟩ := h k hk
 exact ⟨ad, e, Nat.lt_of_lt_of_le hb g.size, fun j v hj => (g.cell (p := (ad.add (k * 24)).add j) (by rw [zG, zG]; exact hb)).trans (hc j v hj)⟩
structure SpsG (w : World) (A : Option Addr) (L : List SP) : Prop where
 rd : RdG w A L
 ok : ∀ S ∈ L, S.ok
 at_ : ∀ S ∈ L, S.at w
theorem SpsG.gr {w w' : World} {A : Option Addr} {L : List SP} (h : SpsG w A L) (g : Grew w w') : SpsG w' A L := ⟨h.rd.gr g, h.ok, fun S hS => (h.at_ S hS).gr g⟩
theorem y9 {P : Program} {w0 : World} {a : Act} {o : Oper} {K : Act → Prop} (ty : TypeId) (x : Operand) (h : o.op = .load ty x) (ad : Addr) (hx : a.eval x = .pointer (some ad)) (cs : List Value) (d : TypeDesc)
 (hg : ∀ y : Gr w0, ∀ j v, cs[j]? = some v → y.val.cell? (ad.add j) = some v) (hu : P.underlying ty = some d) (hd : (match d with | .struct _ | .array _ _ => true | _ => false) = true) (hi : (P.info? ty).map (·.size) = some cs.length)
 (hk : K (a.put o.dst (.agg cs.toArray))) : o.quiet P a (fun w' => ∃ x : Gr w0, w' = x.val) K := by
 refine ⟨_, fun w hw => ?_, hk⟩
 obtain ⟨y, rfl⟩ := hw
 unfold Oper.quietAt execOp
 simp only [h, hx, Instr.loadAt, Instr.sureAddr, Sem.run_bind, Sem.run_pure, Result.andThen_ok, kQ y.val ad ty cs d (hg y) hu hd hi]
 exact ⟨rfl, rfl⟩
def fewB (L : List SP) : Bool := decide (L.length ≤ 12) && L.all fun S => decide (S.l.length ≤ 9)
set_option maxRecDepth 100000 in
set_option maxHeartbeats 1000000 in
theorem zp6 (A : Option Addr) (cap : Nat) (L : List SP) (w : World) (hL : RdG w A L) :
 Calls Tryz.prog 33 #[.slice A L.length cap] w fun e w' => e = .returned (.bool (fewB L)) ∧ Grew w w' := by
 by_cases h12 : 12 < L.length
 ·have e0 : decide ((12 : Int) < (L.length : Int)) = true := decide_eq_true (by omega)
  have hF : fewB L = false := by unfold fewB; rw [decide_eq_false (by omega)]; rfl
  rw [hF]
  clear hF hL h12
  go_enter Tryz.func33, Tryz.ntmps33
  go_wp2_with fail
  go_ret
  exact ⟨rfl, za _⟩
 have e0 : decide ((12 : Int) < (L.length : Int)) = false := decide_eq_false (by omega)
 have HL := Lib.hid hL
 have HL12 : Hid (L.length ≤ 12) := Lib.hid (by omega)
 clear hL h12
 go_enter Tryz.func33, Tryz.ntmps33
 go_wp2_with fail
 go_loopw [3] (fun iv wr => ∃ i : Nat, i ≤ L.length ∧ iv = .int .i64 (i : Int) ∧ Hid (∀ j (hj : j < L.length), j < i → L[j].l.length ≤ 9) ∧ wr = w) (fun iv _ => L.length - (Go.RowKit.intOf iv).toNat)
 case atStart => exact ⟨0, by omega, rfl, Lib.hid (fun j hj h => by omega), rfl⟩
 case round =>
  obtain ⟨i, hi, rfl, HJ, rfl⟩ := hrel
  by_cases hlt : i < L.length
  ·obtain ⟨ad, hA, hq, hr⟩ := HL.out i hlt
   subst hA
   obtain ⟨S, hSL⟩ : ∃ S, L[i] = S := ⟨_, rfl⟩
   rw [hSL] at hr
   have hcell := hr 23 (.slice S.A S.l.length S.c) rfl
   rw [zk4 _ (by decide)] at hcell
   have h1 : (i : Int) < (L.length : Int) := by omega
   have h0 : (0 : Int) ≤ (i : Int) := by omega
   have HI := Lib.hid hlt
   have e49 : IntKind.i64.wrap ((i : Int) + 1) = ((i + 1 : Nat) : Int) := by have := HL12.out; rw [IntWalk.i64_in _ (by omega)]; omega
   clear hr
   by_cases h9 : 9 < S.l.length
   ·have e1 : decide ((9 : Int) < (S.l.length : Int)) = true := decide_eq_true (by omega)
    have HF : Hid (fewB L = false) := Lib.hid (by
     unfold fewB
     rw [show L.all (fun S => decide (S.l.length ≤ 9)) = false from by
      rw [List.all_eq_false]
      exact ⟨L[i]'hlt, List.getElem_mem _, by rw [hSL]; simp; omega⟩]
     simp)
    clear h9 hSL hlt hi
    go_wp2_with fail
    go_ret
    exact ⟨by rw [HF.out]; rfl, za _⟩
   ·have e1 : decide ((9 : Int) < (S.l.length : Int)) = false := decide_eq_false (by omega)
    have H9 : Hid (∀ (h : i < L.length), (L[i]'h).l.length ≤ 9) := Lib.hid (fun _ => by rw [hSL]; omega)
    clear h9 hSL hlt hi
    go_wp2_with fail
    go_roundw
    case rel => exact ⟨i + 1, by have := HI.out; omega, by go_num, Lib.hid (fun j hj h => by
     by_cases e : j = i
     ·subst e; exact H9.out hj
     ·exact HJ.out j hj (by omega)), by first | rfl | trivial⟩
    case measure => have := HI.out; simp [Go.RowKit.intOf] <;> omega
  ·have HF : Hid (fewB L = true) := Lib.hid (by
    unfold fewB
    rw [decide_eq_true HL12.out, List.all_eq_true.2 (fun S hS => by
     obtain ⟨j, hj, rfl⟩ := List.getElem_of_mem hS
     exact decide_eq_true (HJ.out j hj (by omega)))]
    rfl)
   obtain rfl : i = L.length := by omega
   clear hlt
   go_wp2_with fail
   go_ret
   exact ⟨by rw [HF.out]; rfl, za _⟩
set_option maxRecDepth 100000 in
set_option maxHeartbeats 2000000 in
theorem zn0 (A : Option Addr) (c : Nat) (L : List SP) (hl : L.length ≤ 100000) (w : World) (hL : SpsG w A L) :
 Calls Tryz.prog 36 #[.slice A L.length c] w fun e w' => ∃ B c' M, e = .returned (.slice B L.length c') ∧ MvL L M ∧ Sps w' B M ∧ L.length ≤ c' ∧ c' ≤ maxLen ∧ (∀ ad, B = some ad → w.heap.size ≤ ad.block) ∧ (∀ S ∈ M, ∀ ad, S.A = some ad → S.l = [] ∨ w.heap.size ≤ ad.block) ∧ Grew w w' := by
 obtain ⟨i0, hi, hz0, hz1, hz2⟩ := info_parts kO
 have hut := Tryz.underlying169
 have HL := Lib.hid hL
 have hr := hL.rd
 clear hL
 go_enter Tryz.func36, Tryz.ntmps36
 go_wp2_with fail
 go_loopw [3, 4] (fun rv iv wr => ∃ (i : Nat) (M : List SP), i ≤ L.length ∧ iv = .int .i64 i ∧ MvL (L.take i) M ∧ (∀ S ∈ M, S.ok) ∧ (∀ S ∈ M, S.at wr) ∧ (∀ S ∈ M, ∀ ad, S.A = some ad → ∀ g, rv.ownBlock = some g → S.l = [] ∨ ad.block ≠ g) ∧ (∀ S ∈ M, ∀ ad, S.A = some ad → S.l = [] ∨ w.heap.size ≤ ad.block) ∧ wr.ownsRow w.heap.size 91 24 rv i (spL M).flatten ∧ Grew w wr) (fun _ i _ => L.length - (Go.RowKit.intOf i).toNat)
 case atStart => exact ⟨0, [], Nat.zero_le _, rfl, by simpa using MvL.nil, by simp, by simp, by simp, by simp, by simpa [spL] using World.ownsRow_nil _ _ _ _, Below.refl _ _⟩
 case round =>
  obtain ⟨i, M, hil, rfl, hmv, hok, hat, hne, hlow, hrow, hg⟩ := hrel
  by_cases hlt : i < L.length
  ·obtain ⟨ad, hA, hq, hm⟩ := (hr.gr hg) i hlt
   subst hA
   have hts : L.take (i + 1) = L.take i ++ [L[i]] := by rw [List.take_succ_eq_append_getElem hlt]
   have HTS := Lib.hid hts
   have hSok := HL.out.ok L[i] (List.getElem_mem hlt)
   have hSat := (HL.out.at_ L[i] (List.getElem_mem hlt)).gr hg
   clear hts
   have hi0 : (0 : Int) ≤ (i : Int) := by omega
   have hi1 : (i : Int) < (L.length : Int) := by omega
   have e4 : IntKind.i64.wrap ((i : Int) + 1) = (i : Int) + 1 := IntWalk.i64_in _ (by omega)
   generalize L[i] = S at *
   have SIS : Hid ((Tryz.prog.info? 169).map (·.size) = some S.C.toList.length) := Lib.hid zii
   have CCP := Lib.hid (zps S hSok wr hSat)
   have HOK := Lib.hid hok
   have HNE := Lib.hid hne
   have HLW := Lib.hid hlow
   have hwz := hg.size
   have HWZ := Lib.hid hwz
   have HMV := Lib.hid hmv
   have HAT := Lib.hid (fun S hS => hat S hS)
   have HSO := Lib.hid hSok
   clear hok hne hlow hmv hat hSok hSat hwz
   go_wp2_with (with_reducible refine kS rfl 169 (.tmp 14) rfl (ad.add (i * 24)) rfl S.C.toList _ hm hut rfl SIS.out ?_; simp only [Array.toArray_toList])
   refine (CCP.out).mono ?_
   rintro e w3 ⟨A2, c2, rfl, hat2, hfr2, gg⟩
   have G3 := zb hg gg
   have hrow3 := zi (S := fun _ => False) hrow (zw gg) (fun g _ h => h)
   have hsz3 := G3.size
   have hsz : (S.mv A2 c2).C.size = 24 := rfl
   have HAT3 := Lib.hid (fun T hT => (HAT.out T hT).gr gg)
   have HOB := Lib.hid (zL hrow)
   have hgz := gg.size
   have HFR : Hid (∀ ad, A2 = some ad → S.l = [] ∨ wr.heap.size ≤ ad.block) := Lib.hid (fun ad h => .inr (hfr2 ad h))
   clear hrow hm gg hg CCP HAT
   go_wp2_with (first
    | (at_builtin; rw [xh]; refine ya _ rfl (.tmp 11) (.tmp 17) 34 rfl w.heap.size 91 i0 (.agg (#[.int .u64 0, .int .i64 0, .int .i64 0, .int .i64 0, .int .i64 0, .int .u64 0, .int .u64 0, .int .u64 0, .int .u64 0, .int .u64 0, .int .u64 0, .int .u64 0, .int .u64 0, .int .u64 0, .int .u64 0, .int .u64 0, .int .u64 0, .int .u64 0, .int .u64 0, .int .u64 0, .int .u64 0, .int .u64 0, .int .u64 0, .slice none 0 0] : Array Value)) 24 208 Tryz.underlying34 hi hz0 hz1 hz2 rfl (by decide) _ _ _ rfl (hrow3.alloc _) ⟨w3.heap.size, 0, none⟩ 1 1 (S.mv A2 c2).C.toList rfl rfl (fun j u hj => yK w3 (S.mv A2 c2).C 91 j u hj) (S.mv A2 c2).one' (by unfold maxLen; omega) (by omega) (by simp; omega) ?_; intro v' w5 hown5 hgrow5 hob5))
   have ga := zc (za w3) (.cells (S.mv A2 c2).C 91)
   go_roundw
   case rel =>
    refine ⟨i + 1, M ++ [S.mv A2 c2], by omega, by go_num, by rw [HTS.out]; exact HMV.out.snoc S A2 c2, ?_, ?_, ?_, ?_, by rw [yL]; exact hown5, (zc G3 _).grown hgrow5 (by simp; omega) (zj hrow3)⟩
    ·intro T hT
     rcases List.mem_append.1 hT with h | h
     ·exact HOK.out T h
     ·obtain rfl : T = S.mv A2 c2 := by simpa using h
      exact SP.mv_ok HSO.out _ _
    ·intro T hT
     rcases List.mem_append.1 hT with h | h
     ·exact yH ((HAT3.out T h).gr ga) hgrow5 (fun ad e g hg => HNE.out T h ad e g hg)
     ·obtain rfl : T = S.mv A2 c2 := by simpa using h
      exact yH (hat2.gr ga) hgrow5 (fun ad e g hg => by
       rcases HFR.out ad e with h1 | h1
       ·exact .inl h1
       ·have := (HOB.out g hg).2
        exact .inr (by omega))
    ·intro T hT ad e g hg
     have hlt9 : T.l = [] ∨ ad.block < (w3.alloc (.cells (S.mv A2 c2).C 91)).heap.size := by
      rcases List.mem_append.1 hT with h | h
      ·exact at_lt ((HAT3.out T h).gr ga) ad e
      ·obtain rfl : T = S.mv A2 c2 := by simpa using h
       exact at_lt (hat2.gr ga) ad e
     rcases hob5 with h3 | h3
     ·rw [h3] at hg
      rcases List.mem_append.1 hT with h | h
      ·exact HNE.out T h ad e g hg
      ·obtain rfl : T = S.mv A2 c2 := by simpa using h
       rcases HFR.out ad e with h1 | h1
       ·exact .inl h1
       ·have := (HOB.out g hg).2
        exact .inr (by omega)
     ·rw [h3] at hg; injection hg with hg
      rcases hlt9 with h1 | h1
      ·exact .inl h1
      ·exact .inr (by omega)
    ·intro T hT ad e
     rcases List.mem_append.1 hT with h | h
     ·exact HLW.out T h ad e
     ·obtain rfl : T = S.mv A2 c2 := by simpa using h
      rcases HFR.out ad e with h1 | h1
      ·exact .inl h1
      ·exact .inr (Nat.le_trans HWZ.out h1)
   case measure => simp [Go.RowKit.intOf]; omega
  ·obtain rfl : i = L.length := by omega
   rw [List.take_length] at hmv
   obtain ⟨B, c', rfl, hB, hc1, hc2, hbB⟩ := yw hrow hmv.len
   go_wp2_with fail
   go_ret
   exact ⟨B, c', M, rfl, hmv, ⟨hB, hok, hat⟩, hc1, hc2, fun ad e => (hbB ad e).1, hlow, hg⟩
theorem zk5 {K : KP} {S : SP} (hK : K.ok) (hS : S.ok) (w : World) (hk : K.at w) (ha : S.at w) :
 Calls Tryz.prog 101 #[.agg K.C, .agg S.C] w fun e w' => e = .returned (.int .i64 (vaS K S)) ∧ Grew w w' :=
 zfk K.f hK.f K.R K.RA K.Rc K.h S.cm S.who S.at_ S.sw S.lf S.s S.A S.c S.l hS.cm hS.who hS.at_ hS.sw hS.lf hS.len hS.s hS.l hK.len w hk ha
/-- a row of one, made between lo and hi -/
structure OneR (w : World) (B lo hi : Nat) (cs : List Value) (v : Value) : Prop where
 out : ∃ g, v = .slice (some ⟨g, 0, none⟩) 1 1 ∧ Ag w g cs ∧ B ≤ lo ∧ lo ≤ g ∧ g < hi
theorem OneR.kp {P : Nat → Prop} {w w' : World} {B lo hi : Nat} {cs : List Value} {v : Value} (h : OneR w B lo hi cs v) (k : Kp P w w') (hp : ∀ g, P g → g < B) : OneR w' B lo hi cs v := by
 obtain ⟨q, h1, h2, h3, h4, h5⟩ := h.out
 exact ⟨q, h1, h2.kp k (fun h6 => by have := hp _ h6; omega), h3, h4, h5⟩
/-- what an append left -/
structure AppR (w : World) (base : Nat) (r : Value) (N0 n : Nat) (xs : List Value) (v : Value) : Prop where
 own : w.ownsRow base 169 24 v n xs
 blk : v.ownBlock = r.ownBlock ∨ ∃ g, v.ownBlock = some g ∧ N0 ≤ g
theorem AppR.gr {w w' : World} {base : Nat} {r : Value} {N0 n : Nat} {xs : List Value} {v : Value} (h : AppR w base r N0 n xs v) (g : Grew w w') : AppR w' base r N0 n xs v := ⟨zi (S := fun _ => False) h.own (zw g) (fun _ _ h => h), h.blk⟩
set_option maxRecDepth 100000 in
set_option maxHeartbeats 4000000 in
theorem zn1 (c : Cm) {K : KP} (hK : K.ok) (A : Option Addr) (cap : Nat) (L : List SP) (hl : L.length ≤ 100000) (w : World) (hk : K.at w) (hL : SpsG w A L) :
 Calls Tryz.prog 37 #[.agg K.C, .agg c.cells, .slice A L.length cap] w fun e w' => ∃ B k M, e = .returned (.tuple #[.agg (ctC (makeR K c L).1 B (makeR K c L).2.1.length k), .int .i64 (makeR K c L).2.2]) ∧ MvL (makeR K c L).2.1 M ∧ Sps w' B M ∧ Grew w w' := by
 have huk := Tryz.underlying24
 have huc := Tryz.underlying26
 have hut := Tryz.underlying29
 have hus := Tryz.underlying169
 have SIC : Hid ((Tryz.prog.info? 26).map (·.size) = some c.cells.toList.length) := Lib.hid (show _ = some 5 by kernel_rfl)
 have SIK : Hid ((Tryz.prog.info? 24).map (·.size) = some K.C.toList.length) := Lib.hid zbm
 have z0 := ((Ag.new w 24 K.C).grew (zc (za _) (.cells c.cells 26))).grew (zc (za _) (.cells ((#[.int .i64 0, .int .i64 0, .int .i64 0, .int .i64 0, .int .i64 0, .slice none 0 0] : Array Value)) 29))
 have z1 := (Ag.new (w.alloc (.cells K.C 24)) 26 c.cells).grew (zc (za _) (.cells ((#[.int .i64 0, .int .i64 0, .int .i64 0, .int .i64 0, .int .i64 0, .slice none 0 0] : Array Value)) 29))
 have z2 := Ag.new ((w.alloc (.cells K.C 24)).alloc (.cells c.cells 26)) 29 ((#[.int .i64 0, .int .i64 0, .int .i64 0, .int .i64 0, .int .i64 0, .slice none 0 0] : Array Value))
 rw [zo] at z1
 rw [zo, zo] at z2
 have G0 := zc (zc (zc (za w) (.cells K.C 24)) (.cells c.cells 26)) (.cells ((#[.int .i64 0, .int .i64 0, .int .i64 0, .int .i64 0, .int .i64 0, .slice none 0 0] : Array Value)) 29)
 have hcv : c.v = .agg c.cells := rfl
 have CC := Lib.hid (fun W => zhf c W)
 have HKA := Lib.hid hk
 have HLA := Lib.hid hL
 have hm1 := z1.cell
 have hbz := zno
 have bz : ∀ W, (Instr.build 29 #[]).run Tryz.prog W = .ok (.agg ((#[.int .i64 0, .int .i64 0, .int .i64 0, .int .i64 0, .int .i64 0, .slice none 0 0] : Array Value))) W := fun W => run_build W 29 _ _ hbz
 have HSI : Hid ((Tryz.prog.info? 29).map (·.size) = some ((#[.int .i64 0, .int .i64 0, .int .i64 0, .int .i64 0, .int .i64 0, .slice none 0 0] : Array Value)).size) := Lib.hid yb
 have HON : Hid (((#[.int .i64 0, .int .i64 0, .int .i64 0, .int .i64 0, .int .i64 0, .slice none 0 0] : Array Value)).all (·.oneCell') = true) := Lib.hid (by simp [Value.oneCell'])
 by_cases hc : okC c
 rotate_left
 ·have hck : chkC c = 1 := by unfold chkC; rw [if_neg hc]
  rw [hck, hcv] at CC
  rw [xE hc]
  clear hcv hck hc hk hL hbz
  go_enter Tryz.func37, Tryz.ntmps37
  go_wp2_with (with_reducible refine wpList_load_mid rfl 26 (.tmp 4) rfl (w.heap.size + 1) 0 rfl c.cells.toList _ hm1 huc rfl SIC.out ?_; simp only [Array.toArray_toList])
  refine (CC.out _).mono ?_
  rintro e w2 ⟨rfl, gg⟩
  have z3 := z2.grew gg
  have G2 := zb G0 gg
  have HTH : Hid (w2.there (w.heap.size + 1 + 1) 0 ((#[.int .i64 0, .int .i64 0, .int .i64 0, .int .i64 0, .int .i64 0, .slice none 0 0] : Array Value)).size) := Lib.hid (z3.thereN 6 rfl)
  have z4 := Ag.set (vs := ((#[.int .i64 0, .int .i64 0, .int .i64 0, .int .i64 0, .int .i64 0, .slice none 0 0] : Array Value)).toList) z3 rfl
  have G5 := ze (o := 0) (b := w.heap.size + 1 + 1) ((#[.int .i64 0, .int .i64 0, .int .i64 0, .int .i64 0, .int .i64 0, .slice none 0 0] : Array Value)).toList G2 (by omega)
  clear z0 z1 z2 hm1 z3 gg CC G0
  go_wp2_with (with_reducible refine wpList_store_mid rfl 29 (.tmp 6) (.tmp 17) rfl (w.heap.size + 1 + 1) 0 ((#[.int .i64 0, .int .i64 0, .int .i64 0, .int .i64 0, .int .i64 0, .slice none 0 0] : Array Value)) rfl rfl HTH.out HSI.out HON.out ?_)
  exact bodyPost_ret (zh Tryz.results37 _ _ (w.heap.size + 1 + 1) _ _ _ rfl rfl z4 hut rfl yb) rfl ⟨none, 0, [], rfl, MvL.nil, ko _, G5⟩
 have hck := xA hc
 rw [hck, hcv] at CC
 have cd := fun W => zhv c (km hc) W
 obtain ⟨D, hD⟩ : ∃ D, dgC c = D := ⟨_, rfl⟩
 rw [hcv, hD] at cd
 have CD := Lib.hid cd
 have HRF : Hid (enoughB K D L = false → makeR K c L = (Cm.zero, [], 8)) := Lib.hid (fun h => xi hc (by rw [hD]; exact h))
 have HRO : Hid (enoughB K D L = true → makeR K c L = (c, chosen K D L, 0)) := Lib.hid (fun h => by rw [xF hc (by rw [hD]; exact h), hD])
 have hf := hK.f
 have HK := Lib.hid hK
 have HLL := Lib.hid hl
 have CN : Hid (∀ W, Calls Tryz.prog 78 #[.int .i64 K.f] W fun e w' => e = .returned (.int .i64 (3 * K.f + 1)) ∧ Grew W w') := Lib.hid (fun W => (rn_ok K.f (by omega) W).mono (by rintro e z ⟨rfl, rfl⟩; exact ⟨rfl, za _⟩))
 have CQ : Hid (∀ W, Calls Tryz.prog 99 #[.int .i64 K.f] W fun e w' => e = .returned (.int .i64 (2 * K.f + 1)) ∧ Grew W w') := Lib.hid (fun W => (rq_ok K.f (by omega) W).mono (by rintro e z ⟨rfl, rfl⟩; exact ⟨rfl, za _⟩))
 have HF := Lib.hid hf
 clear hcv hck hc hk hL hbz cd hD hf hK hl
 go_enter Tryz.func37, Tryz.ntmps37
 go_wp2_with (with_reducible refine wpList_load_mid rfl 26 (.tmp 4) rfl (w.heap.size + 1) 0 rfl c.cells.toList _ hm1 huc rfl SIC.out ?_; simp only [Array.toArray_toList])
 refine (CC.out _).mono ?_
 rintro e w2 ⟨rfl, gg⟩
 have z0 := z0.grew gg
 have z1 := z1.grew gg
 have z2 := z2.grew gg
 have hm1' := hm1
 clear hm1
 have hm1 := z1.cell
 have G2 := zb G0 gg
 clear hm1' gg CC G0
 go_wp2_with (with_reducible refine wpList_load_mid rfl 26 (.tmp 4) rfl (w.heap.size + 1) 0 rfl c.cells.toList _ hm1 huc rfl SIC.out ?_; simp only [Array.toArray_toList])
 refine (CD.out w2).mono ?_
 rintro e w3 ⟨rfl, gg⟩
 have z0 := z0.grew gg
 have z1 := z1.grew gg
 have z2 := z2.grew gg
 have hm1' := hm1
 clear hm1
 have hm1 := z1.cell
 have G3 := zb G2 gg
 have HQW : Hid (w.heap.size + 3 ≤ w3.heap.size) := Lib.hid (by have := z2.lt; omega)
 clear hm1' gg CD G2
 obtain ⟨w4, hw4, ht4, g4, z4⟩ := y5 w3 29 ((#[.int .i64 0, .int .i64 0, .int .i64 0, .int .i64 0, .int .i64 0, .slice none 0 0] : Array Value)) (ctC c none 0 0) rfl
 have HW4 := Lib.hid hw4
 have HT4 := Lib.hid ht4
 have SI4 : Hid ((Tryz.prog.info? 29).map (·.size) = some (ctC c none 0 0).size) := Lib.hid yb
 have HO4 := Lib.hid (yj c none 0 0)
 have HBU := Lib.hid (zih c)
 have z0 := z0.grew g4
 have z2 := z2.grew g4
 have G4 := zb G3 g4
 have HQL : Hid (w3.heap.size < w4.heap.size) := Lib.hid z4.lt
 clear hw4 ht4 G3
 go_wp2_with (first
  | (with_reducible refine wpList_load_mid rfl 26 (.tmp 4) rfl (w.heap.size + 1) 0 rfl c.cells.toList _ hm1 huc rfl SIC.out ?_; simp only [Array.toArray_toList])
  | (with_reducible refine zE rfl 29 #[(0, .tmp 21)] rfl (ctC c none 0 0) ?_ ?_; · simpa [Act.eval, Act.put] using HBU.out)
  | (with_reducible refine wpList_store_mid rfl 29 (.tmp 10) (.tmp 22) rfl w3.heap.size 0 (ctC c none 0 0) rfl rfl HT4.out SI4.out HO4.out ?_; rw [HW4.out]))
 clear hm1 z1 HT4 HW4 SI4 HO4 HBU g4 SIC huc
 obtain ⟨q, hq⟩ : ∃ q, w3.heap.size = q := ⟨_, rfl⟩
 rw [hq] at z4 HQL HQW ⊢
 clear hq
 obtain ⟨N, hN⟩ : ∃ n : Nat, (3 * K.f + 1).toNat = n := ⟨_, rfl⟩
 obtain ⟨Q, hQ⟩ : ∃ n : Nat, (2 * K.f + 1).toNat = n := ⟨_, rfl⟩
 have eN : 3 * K.f + 1 = (N : Int) := by have := HF.out; omega
 have eQ : 2 * K.f + 1 = (Q : Int) := by have := HF.out; omega
 have HEN := Lib.hid eN
 have HN := Lib.hid hN
 have HQ := Lib.hid hQ
 rw [eN] at CN
 rw [eQ] at CQ
 obtain ⟨i0, hinf, hz0, hz1, hz2⟩ := info_parts zgp
 clear eN eQ hN hQ
 go_loopw [11] (fun vv wr => ∃ (v : Nat) (R : Value), v ≤ N ∧ vv = .int .i64 (v : Int) ∧ wr.ownsRow (q + 1) 169 24 R (pkS K D L v).length (spL (pkS K D L v)).flatten ∧ Ag wr q (c.cells.toList ++ [R]) ∧ Ag wr w.heap.size K.C.toList ∧ Ag wr (w.heap.size + 1 + 1) ((#[.int .i64 0, .int .i64 0, .int .i64 0, .int .i64 0, .int .i64 0, .slice none 0 0] : Array Value)).toList ∧ Grew w wr ∧ q < wr.heap.size) (fun vv _ => N - (Go.RowKit.intOf vv).toNat)
 case atStart => exact ⟨0, .slice none 0 0, Nat.zero_le _, rfl, World.ownsRow_nil _ _ _ _, z4, z0, z2, G4, HQL.out⟩
 case round =>
  clear z4 z0 z2 G4
  obtain ⟨v, R, hv, rfl, hrow, zq, zk, zz, hg, hqs⟩ := hrel
  have hPl := zpn K D L v
  rw [HQ.out] at hPl
  have HPL := Lib.hid hPl
  obtain ⟨P, hP⟩ : ∃ P, pkS K D L v = P := ⟨_, rfl⟩
  rw [hP] at hrow hPl HPL
  have HP := Lib.hid hP
  obtain ⟨B, pc, hR, -, -, hpm, -⟩ := yw hrow rfl
  subst hR
  have hcR : wr.cell? ⟨q, 5, none⟩ = some (.slice B P.length pc) := by simpa using zq.cell 5 _ rfl
  have hcF : wr.cell? ⟨w.heap.size, 0, none⟩ = some (.int .i64 K.f) := by simpa using zk.cell 0 _ rfl
  have HZQ := Lib.hid zq
  have HZK := Lib.hid zk
  have HZZ := Lib.hid zz
  have HG := Lib.hid hg
  have HROW := Lib.hid hrow
  have HQS := Lib.hid hqs
  have YR : ∀ y : Gr wr, y.val.cell? ⟨q, 5, none⟩ = some (.slice B P.length pc) := fun y => yN hcR y.ok
  have YF : ∀ y : Gr wr, y.val.cell? ⟨w.heap.size, 0, none⟩ = some (.int .i64 K.f) := fun y => yN hcF y.ok
  clear hP hcR hcF zq zk zz hg hrow hqs hPl hpm
  by_cases hvN : v < N
  rotate_left
  ·have e27 : decide (v < N) = false := decide_eq_false (by omega)
   have HE : Hid (P = chosen K D L) := Lib.hid (by rw [← HP.out, ← zgo HK.out, HN.out]; congr 1; omega)
   clear hvN hv
   go_upto_region 7 with fail
   refine zg (za wr) (by kernel_rfl) (by kernel_rfl) ?_
   repeat (go_big_quiet_step (first
    | (go_at_call 78; exact callG (CN.out _))
    | (go_at_call 99; exact callG (CQ.out _))))
   refine wpQuiet_nil ?_
   rintro wq ⟨⟨wq', gq⟩, rfl⟩
   try clear e35
   try clear e27
   have zq := HZQ.out.grew gq
   have zz := HZZ.out.grew gq
   have zk := HZK.out.grew gq
   have hg := zb HG.out gq
   have hrow := zi (S := fun _ => False) HROW.out (zw gq) (fun g _ h => h)
   have hcR : wq.cell? ⟨q, 5, none⟩ = some (.slice B P.length pc) := by simpa using zq.cell 5 _ rfl
   have hcF : wq.cell? ⟨w.heap.size, 0, none⟩ = some (.int .i64 K.f) := by simpa using zk.cell 0 _ rfl
   have YR2 : ∀ y : Gr wq, y.val.cell? ⟨q, 5, none⟩ = some (.slice B P.length pc) := fun y => yN hcR y.ok
   have YF2 : ∀ y : Gr wq, y.val.cell? ⟨w.heap.size, 0, none⟩ = some (.int .i64 K.f) := fun y => yN hcF y.ok
   obtain ⟨B2, k2, e2, hRd, -, -, hbB⟩ := yw hrow rfl
   injection e2 with e2 _ e3
   subst e2
   subst e3
   have hpe := za0 HK.out D L
   rw [← HE.out, HQ.out] at hpe
   have HSPM : Hid (Sps wq B P) := Lib.hid ⟨hRd, fun S hS => HLA.out.ok S (y6 (HE.out ▸ hS)), fun S hS => (HLA.out.at_ S (y6 (HE.out ▸ hS))).gr hg⟩
   have HBB := Lib.hid hbB
   clear YR YF hRd hbB hcR hcF hrow zk gq
   cases hen : enoughB K D L with
   | false =>
    have e85 : decide (P.length < Q) = true := by
     rw [hen] at hpe
     have : P.length < Q := of_decide_eq_true hpe
     exact decide_eq_true (by omega)
    have HMR := Lib.hid (HRF.out hen)
    clear hpe hen zq
    go_upto_region 14 with fail
    refine zg (za wq) (by kernel_rfl) (by kernel_rfl) ?_
    repeat (go_big_quiet_step (first
     | (go_at_call 99; exact callG (CQ.out _))))
    refine wpQuiet_nil ?_
    rintro wG ⟨⟨wG', gG⟩, rfl⟩
    have z3 := zz.grew gG
    have G6 := zb hg gG
    have HTH : Hid (wG.there (w.heap.size + 1 + 1) 0 ((#[.int .i64 0, .int .i64 0, .int .i64 0, .int .i64 0, .int .i64 0, .slice none 0 0] : Array Value)).size) := Lib.hid (z3.thereN 6 rfl)
    have z4 := Ag.set (vs := ((#[.int .i64 0, .int .i64 0, .int .i64 0, .int .i64 0, .int .i64 0, .slice none 0 0] : Array Value)).toList) z3 rfl
    have G5 := ze (o := 0) (b := w.heap.size + 1 + 1) ((#[.int .i64 0, .int .i64 0, .int .i64 0, .int .i64 0, .int .i64 0, .slice none 0 0] : Array Value)).toList G6 (by omega)
    clear z3 zz YR2 YF2
    go_wp2_with (with_reducible refine wpList_store_mid rfl 29 (.tmp 6) (.tmp 86) rfl (w.heap.size + 1 + 1) 0 ((#[.int .i64 0, .int .i64 0, .int .i64 0, .int .i64 0, .int .i64 0, .slice none 0 0] : Array Value)) rfl rfl HTH.out HSI.out HON.out ?_)
    exact bodyPost_ret (zh Tryz.results37 _ _ (w.heap.size + 1 + 1) _ _ _ rfl rfl z4 hut rfl yb) rfl ⟨none, ⟨0, by rw [HMR.out]; rfl⟩, [], by rw [HMR.out]; exact MvL.nil, ko _, G5⟩
   | true =>
    have e85 : decide (P.length < Q) = false := by
     rw [hen] at hpe
     have : ¬ P.length < Q := of_decide_eq_false hpe
     exact decide_eq_false (by omega)
    have HMR := Lib.hid (HRO.out hen)
    rw [← HE.out] at HMR
    clear hpe hen
    go_upto_region 14 with fail
    refine zg (za wq) (by kernel_rfl) (by kernel_rfl) ?_
    repeat (go_big_quiet_step (first
     | (go_at_call 99; exact callG (CQ.out _))))
    refine wpQuiet_nil ?_
    rintro wG ⟨⟨wG', gG⟩, rfl⟩
    have z3 := zz.grew gG
    have z7 := zq.grew gG
    have G6 := zb hg gG
    rw [show c.cells.toList ++ [Value.slice B P.length pc] = (ctC c B P.length pc).toList from rfl] at z7
    have hm7 := z7.cell
    have SI7 : Hid ((Tryz.prog.info? 29).map (·.size) = some (ctC c B P.length pc).toList.length) := Lib.hid yb
    have SI8 : Hid ((Tryz.prog.info? 29).map (·.size) = some (ctC c B P.length pc).size) := Lib.hid yb
    have HO8 := Lib.hid (yj c B P.length pc)
    have HTH : Hid (wG.there (w.heap.size + 1 + 1) 0 (ctC c B P.length pc).size) := Lib.hid (z3.thereN 6 rfl)
    have zf := Ag.set (vs := (ctC c B P.length pc).toList) z3 rfl
    have Gf := ze (o := 0) (b := w.heap.size + 1 + 1) (ctC c B P.length pc).toList G6 (by omega)
    have HSPS := Lib.hid ((HSPM.out.gr gG).kpx (zx (ctC c B P.length pc).toList (w.heap.size + 1 + 1) 0 wG) (fun ad h e => by have := (HBB.out ad h).1; have := HQW.out; have e' : ad.block = w.heap.size + 1 + 1 := e; omega) (fun S hS ad h => by
     rcases at_lt (HLA.out.at_ S (y6 (HE.out ▸ hS))) ad h with h1 | h1
     ·exact .inl h1
     ·exact .inr (fun e => by have e' : ad.block = w.heap.size + 1 + 1 := e; omega)))
    clear z3 zz zq YR2 YF2 z7
    go_wp2_with (first
     | (with_reducible refine wpList_load_mid rfl 29 (.tmp 10) rfl q 0 rfl (ctC c B P.length pc).toList _ hm7 hut rfl SI7.out ?_; simp only [Array.toArray_toList])
     | (with_reducible refine wpList_store_mid rfl 29 (.tmp 6) (.tmp 87) rfl (w.heap.size + 1 + 1) 0 (ctC c B P.length pc) rfl rfl HTH.out SI8.out HO8.out ?_))
    exact bodyPost_ret (zh Tryz.results37 _ _ (w.heap.size + 1 + 1) _ _ _ rfl rfl zf hut rfl yb) rfl ⟨B, ⟨pc, by rw [HMR.out]; rfl⟩, P, by rw [HMR.out]; exact zeh P, HSPS.out, Gf⟩
  by_cases hPQ : P.length < Q
  rotate_left
  ·have e27 : decide (v < N) = true := decide_eq_true (by omega)
   have e35 : decide (P.length < Q) = false := decide_eq_false (by omega)
   have HE : Hid (P = chosen K D L) := Lib.hid (by rw [← HP.out]; exact zpo HK.out D L v (by rw [HN.out]; omega) (by rw [HP.out, HQ.out]; omega))
   clear hvN hv hPQ
   go_upto_region 7 with fail
   refine zg (za wr) (by kernel_rfl) (by kernel_rfl) ?_
   repeat (go_big_quiet_step (first
    | (go_at_call 78; exact callG (CN.out _))
    | (go_at_call 99; exact callG (CQ.out _))))
   refine wpQuiet_nil ?_
   rintro wq ⟨⟨wq', gq⟩, rfl⟩
   try clear e35
   try clear e27
   have zq := HZQ.out.grew gq
   have zz := HZZ.out.grew gq
   have zk := HZK.out.grew gq
   have hg := zb HG.out gq
   have hrow := zi (S := fun _ => False) HROW.out (zw gq) (fun g _ h => h)
   have hcR : wq.cell? ⟨q, 5, none⟩ = some (.slice B P.length pc) := by simpa using zq.cell 5 _ rfl
   have hcF : wq.cell? ⟨w.heap.size, 0, none⟩ = some (.int .i64 K.f) := by simpa using zk.cell 0 _ rfl
   have YR2 : ∀ y : Gr wq, y.val.cell? ⟨q, 5, none⟩ = some (.slice B P.length pc) := fun y => yN hcR y.ok
   have YF2 : ∀ y : Gr wq, y.val.cell? ⟨w.heap.size, 0, none⟩ = some (.int .i64 K.f) := fun y => yN hcF y.ok
   obtain ⟨B2, k2, e2, hRd, -, -, hbB⟩ := yw hrow rfl
   injection e2 with e2 _ e3
   subst e2
   subst e3
   have hpe := za0 HK.out D L
   rw [← HE.out, HQ.out] at hpe
   have HSPM : Hid (Sps wq B P) := Lib.hid ⟨hRd, fun S hS => HLA.out.ok S (y6 (HE.out ▸ hS)), fun S hS => (HLA.out.at_ S (y6 (HE.out ▸ hS))).gr hg⟩
   have HBB := Lib.hid hbB
   clear YR YF hRd hbB hcR hcF hrow zk gq
   cases hen : enoughB K D L with
   | false =>
    have e85 : decide (P.length < Q) = true := by
     rw [hen] at hpe
     have : P.length < Q := of_decide_eq_true hpe
     exact decide_eq_true (by omega)
    have HMR := Lib.hid (HRF.out hen)
    clear hpe hen zq
    go_upto_region 14 with fail
    refine zg (za wq) (by kernel_rfl) (by kernel_rfl) ?_
    repeat (go_big_quiet_step (first
     | (go_at_call 99; exact callG (CQ.out _))))
    refine wpQuiet_nil ?_
    rintro wG ⟨⟨wG', gG⟩, rfl⟩
    have z3 := zz.grew gG
    have G6 := zb hg gG
    have HTH : Hid (wG.there (w.heap.size + 1 + 1) 0 ((#[.int .i64 0, .int .i64 0, .int .i64 0, .int .i64 0, .int .i64 0, .slice none 0 0] : Array Value)).size) := Lib.hid (z3.thereN 6 rfl)
    have z4 := Ag.set (vs := ((#[.int .i64 0, .int .i64 0, .int .i64 0, .int .i64 0, .int .i64 0, .slice none 0 0] : Array Value)).toList) z3 rfl
    have G5 := ze (o := 0) (b := w.heap.size + 1 + 1) ((#[.int .i64 0, .int .i64 0, .int .i64 0, .int .i64 0, .int .i64 0, .slice none 0 0] : Array Value)).toList G6 (by omega)
    clear z3 zz YR2 YF2
    go_wp2_with (with_reducible refine wpList_store_mid rfl 29 (.tmp 6) (.tmp 86) rfl (w.heap.size + 1 + 1) 0 ((#[.int .i64 0, .int .i64 0, .int .i64 0, .int .i64 0, .int .i64 0, .slice none 0 0] : Array Value)) rfl rfl HTH.out HSI.out HON.out ?_)
    exact bodyPost_ret (zh Tryz.results37 _ _ (w.heap.size + 1 + 1) _ _ _ rfl rfl z4 hut rfl yb) rfl ⟨none, ⟨0, by rw [HMR.out]; rfl⟩, [], by rw [HMR.out]; exact MvL.nil, ko _, G5⟩
   | true =>
    have e85 : decide (P.length < Q) = false := by
     rw [hen] at hpe
     have : ¬ P.length < Q := of_decide_eq_false hpe
     exact decide_eq_false (by omega)
    have HMR := Lib.hid (HRO.out hen)
    rw [← HE.out] at HMR
    clear hpe hen
    go_upto_region 14 with fail
    refine zg (za wq) (by kernel_rfl) (by kernel_rfl) ?_
    repeat (go_big_quiet_step (first
     | (go_at_call 99; exact callG (CQ.out _))))
    refine wpQuiet_nil ?_
    rintro wG ⟨⟨wG', gG⟩, rfl⟩
    have z3 := zz.grew gG
    have z7 := zq.grew gG
    have G6 := zb hg gG
    rw [show c.cells.toList ++ [Value.slice B P.length pc] = (ctC c B P.length pc).toList from rfl] at z7
    have hm7 := z7.cell
    have SI7 : Hid ((Tryz.prog.info? 29).map (·.size) = some (ctC c B P.length pc).toList.length) := Lib.hid yb
    have SI8 : Hid ((Tryz.prog.info? 29).map (·.size) = some (ctC c B P.length pc).size) := Lib.hid yb
    have HO8 := Lib.hid (yj c B P.length pc)
    have HTH : Hid (wG.there (w.heap.size + 1 + 1) 0 (ctC c B P.length pc).size) := Lib.hid (z3.thereN 6 rfl)
    have zf := Ag.set (vs := (ctC c B P.length pc).toList) z3 rfl
    have Gf := ze (o := 0) (b := w.heap.size + 1 + 1) (ctC c B P.length pc).toList G6 (by omega)
    have HSPS := Lib.hid ((HSPM.out.gr gG).kpx (zx (ctC c B P.length pc).toList (w.heap.size + 1 + 1) 0 wG) (fun ad h e => by have := (HBB.out ad h).1; have := HQW.out; have e' : ad.block = w.heap.size + 1 + 1 := e; omega) (fun S hS ad h => by
     rcases at_lt (HLA.out.at_ S (y6 (HE.out ▸ hS))) ad h with h1 | h1
     ·exact .inl h1
     ·exact .inr (fun e => by have e' : ad.block = w.heap.size + 1 + 1 := e; omega)))
    clear z3 zz zq YR2 YF2 z7
    go_wp2_with (first
     | (with_reducible refine wpList_load_mid rfl 29 (.tmp 10) rfl q 0 rfl (ctC c B P.length pc).toList _ hm7 hut rfl SI7.out ?_; simp only [Array.toArray_toList])
     | (with_reducible refine wpList_store_mid rfl 29 (.tmp 6) (.tmp 87) rfl (w.heap.size + 1 + 1) 0 (ctC c B P.length pc) rfl rfl HTH.out SI8.out HO8.out ?_))
    exact bodyPost_ret (zh Tryz.results37 _ _ (w.heap.size + 1 + 1) _ _ _ rfl rfl zf hut rfl yb) rfl ⟨B, ⟨pc, by rw [HMR.out]; rfl⟩, P, by rw [HMR.out]; exact zeh P, HSPS.out, Gf⟩
  have e27 : decide (v < N) = true := decide_eq_true (by omega)
  have e35 : decide (P.length < Q) = true := decide_eq_true (by omega)
  have HVN := Lib.hid hvN
  have HPQ := Lib.hid hPQ
  clear hvN hv hPQ
  go_upto_region 7 with fail
  refine zg (za wr) (by kernel_rfl) (by kernel_rfl) ?_
  repeat (go_big_quiet_step (first
   | (go_at_call 78; exact callG (CN.out _))
   | (go_at_call 99; exact callG (CQ.out _))))
  refine wpQuiet_nil ?_
  rintro wq ⟨⟨wq', gq⟩, rfl⟩
  have HGQ := Lib.hid gq
  clear gq YR YF
  generalize wr = wo at *
  go_wp2_with fail
  go_loopw [12] (fun iv wr => ∃ i : Nat, i ≤ L.length ∧ iv = .int .i64 (i : Int) ∧ Hid (∀ j (hj : j < L.length), j < i → fwB K D v L[j] = false) ∧ Grew wo wr) (fun iv _ => L.length - (Go.RowKit.intOf iv).toNat)
  case atStart => exact ⟨0, Nat.zero_le _, rfl, Lib.hid (fun j hj h => by omega), HGQ.out⟩
  case round =>
   obtain ⟨i, hi, rfl, HJ, gj⟩ := hrel
   by_cases hlt : i < L.length
   rotate_left
   ·obtain rfl : i = L.length := by omega
    have HPN : Hid (pkS K D L (v + 1) = P) := Lib.hid (by rw [znm (fun j hj => HJ.out j hj (by omega)), HP.out])
    have e9 : IntKind.i64.wrap ((v : Int) + 1) = ((v + 1 : Nat) : Int) := by have h2 := HVN.out; have h3 := HEN.out; have h4 := HF.out; rw [IntWalk.i64_in _ (by omega)]; omega
    clear hlt hi HJ
    go_wp2_with fail
    go_roundw
    case rel => exact ⟨v + 1, .slice B P.length pc, HVN.out, by go_num, by rw [HPN.out]; exact zi (S := fun _ => False) HROW.out (zw gj) (fun g _ h => h), HZQ.out.grew gj, HZK.out.grew gj, HZZ.out.grew gj, zb HG.out gj, Nat.lt_of_lt_of_le HQS.out gj.size⟩
    case measure => have := HVN.out; simp [Go.RowKit.intOf] <;> omega
   have h1 : (i : Int) < (L.length : Int) := by omega
   have h0 : (0 : Int) ≤ (i : Int) := by omega
   have HI := Lib.hid hlt
   have GJ := Lib.hid gj
   obtain ⟨ad, hA, hql, hr⟩ := HLA.out.rd i hlt
   have HYS : Hid (∀ y : Gr wr, ∀ j u, L[i].C.toList[j]? = some u → y.val.cell? ((ad.add (i * 24)).add j) = some u) := Lib.hid (fun y j u hj => ((zb HG.out (zb GJ.out y.ok)).cell (p := (ad.add (i * 24)).add j) (by rw [zG, zG]; exact hql)).trans (hr j u hj))
   have hs1 : ∀ y : Gr wr, y.val.cell? ⟨(ad.add (i * 24)).block, (ad.add (i * 24)).off + 1, none⟩ = some (.int .i64 L[i].who) := fun y => by
    have := HYS.out y 1 (.int .i64 L[i].who) rfl
    rwa [zk4 _ (by decide)] at this
   have hs0 : ∀ y : Gr wr, y.val.cell? (ad.add (i * 24)) = some (.int .u64 (L[i].cm : Int)) := fun y => by
    have := HYS.out y 0 (.int .u64 (L[i].cm : Int)) rfl
    rwa [show (ad.add (i * 24)).add 0 = ad.add (i * 24) from by simp [Addr.add]] at this
   have HADB := Lib.hid hql
   have HOK : Hid L[i].ok := Lib.hid (HLA.out.ok _ (List.getElem_mem _))
   have HAT : Hid (∀ y : Gr wr, L[i].at y.val) := Lib.hid (fun y => (HLA.out.at_ _ (List.getElem_mem _)).gr (zb HG.out (zb GJ.out y.ok)))
   have HNO : Hid (fwB K D v L[i] = false → ∀ j (hj : j < L.length), j < i + 1 → fwB K D v L[j] = false) := Lib.hid (fun h j hj hji => by
    by_cases e : j = i
    ·subst e; exact h
    ·exact HJ.out j hj (by omega))
   have HYES : Hid (fwB K D v L[i] = true → pkS K D L (v + 1) = P ++ [L[i]]) := Lib.hid (fun h => by
    have h9 := znl (by rw [HP.out, HQ.out]; exact HPQ.out) HI.out HJ.out h
    rw [HP.out] at h9
    exact h9)
   have e9i : IntKind.i64.wrap ((i : Int) + 1) = ((i + 1 : Nat) : Int) := by have := HLL.out; rw [IntWalk.i64_in _ (by omega)]; omega
   subst hA
   clear hr gj HJ hlt hi hql
   generalize L[i] = S at *
   have SIS : Hid ((Tryz.prog.info? 169).map (·.size) = some S.C.toList.length) := Lib.hid jO
   have YK : Hid (∀ y : Gr wr, y.val.rangeAt w.heap.size 0 K.C.toList) := Lib.hid (fun y => (HZK.out.grew (zb GJ.out y.ok)).cell)
   have CV : Hid (∀ y : Gr wr, Calls Tryz.prog 101 #[.agg K.C, .agg S.C] y.val fun e w' => e = .returned (.int .i64 (vaS K S)) ∧ Grew y.val w') := Lib.hid (fun y => zk5 HK.out HOK.out y.val (HKA.out.gr (zb HG.out (zb GJ.out y.ok))) (HAT.out y))
   by_cases hw : S.who = (v : Int)
   rotate_left
   ·have e51 : (S.who == (v : Int)) = false := by simpa using hw
    have HNN := Lib.hid (HNO.out (by unfold fwB; rw [decide_eq_false hw]; simp))
    clear hw
    go_upto_region 12 with fail
    refine zg (za wr) (by kernel_rfl) (by kernel_rfl) ?_
    repeat (first
     | (go_big_quiet_want; refine zu 24 (.tmp 3) rfl w.heap.size 0 rfl K.C.toList _ YK.out huk rfl SIK.out ?_; simp only [Act.put, List.setIfInBounds_toArray, List.set_cons_succ, List.set_cons_zero, Array.toArray_toList]; go_big_quiet_on)
     | (go_big_quiet_want; refine y9 169 (.tmp 65) rfl (ad.add (i * 24)) rfl S.C.toList _ HYS.out hus rfl SIS.out ?_; simp only [Act.put, List.setIfInBounds_toArray, List.set_cons_succ, List.set_cons_zero, Array.toArray_toList]; go_big_quiet_on)
     | (go_big_quiet_step (first
      | (go_at_call 101; exact callG (CV.out _)))))
    refine wpQuiet_nil ?_
    rintro wx ⟨⟨wx', gx⟩, rfl⟩
    have HWX := Lib.hid gx
    clear gx
    go_wp2_with fail
    go_roundw
    case rel => exact ⟨i + 1, HI.out, by go_num, HNN, zb GJ.out HWX.out⟩
    case measure => have := HI.out; simp [Go.RowKit.intOf] <;> omega
   by_cases hd : S.cm = D
   rotate_left
   ·have e51 : (S.who == (v : Int)) = true := by simpa using hw
    have e59 : ((S.cm : Int) == (D : Int)) = false := by simp; omega
    have HNN := Lib.hid (HNO.out (by unfold fwB fitB; rw [decide_eq_false hd]; simp))
    clear hw hd
    go_upto_region 12 with fail
    refine zg (za wr) (by kernel_rfl) (by kernel_rfl) ?_
    repeat (first
     | (go_big_quiet_want; refine zu 24 (.tmp 3) rfl w.heap.size 0 rfl K.C.toList _ YK.out huk rfl SIK.out ?_; simp only [Act.put, List.setIfInBounds_toArray, List.set_cons_succ, List.set_cons_zero, Array.toArray_toList]; go_big_quiet_on)
     | (go_big_quiet_want; refine y9 169 (.tmp 65) rfl (ad.add (i * 24)) rfl S.C.toList _ HYS.out hus rfl SIS.out ?_; simp only [Act.put, List.setIfInBounds_toArray, List.set_cons_succ, List.set_cons_zero, Array.toArray_toList]; go_big_quiet_on)
     | (go_big_quiet_step (first
      | (go_at_call 101; exact callG (CV.out _)))))
    refine wpQuiet_nil ?_
    rintro wx ⟨⟨wx', gx⟩, rfl⟩
    have HWX := Lib.hid gx
    clear gx
    go_wp2_with fail
    go_roundw
    case rel => exact ⟨i + 1, HI.out, by go_num, HNN, zb GJ.out HWX.out⟩
    case measure => have := HI.out; simp [Go.RowKit.intOf] <;> omega
   have e51 : (S.who == (v : Int)) = true := by simpa using hw
   have e59 : ((S.cm : Int) == (D : Int)) = true := by simp [hd]
   by_cases hva : vaS K S = 0
   rotate_left
   ·have e68 : (vaS K S == 0) = false := by simpa using hva
    have HNN := Lib.hid (HNO.out (by unfold fwB fitB; rw [decide_eq_false hva]; simp))
    clear hw hd hva
    go_upto_region 12 with fail
    refine zg (za wr) (by kernel_rfl) (by kernel_rfl) ?_
    repeat (first
     | (go_big_quiet_want; refine zu 24 (.tmp 3) rfl w.heap.size 0 rfl K.C.toList _ YK.out huk rfl SIK.out ?_; simp only [Act.put, List.setIfInBounds_toArray, List.set_cons_succ, List.set_cons_zero, Array.toArray_toList]; go_big_quiet_on)
     | (go_big_quiet_want; refine y9 169 (.tmp 65) rfl (ad.add (i * 24)) rfl S.C.toList _ HYS.out hus rfl SIS.out ?_; simp only [Act.put, List.setIfInBounds_toArray, List.set_cons_succ, List.set_cons_zero, Array.toArray_toList]; go_big_quiet_on)
     | (go_big_quiet_step (first
      | (go_at_call 101; exact callG (CV.out _)))))
    refine wpQuiet_nil ?_
    rintro wx ⟨⟨wx', gx⟩, rfl⟩
    have HWX := Lib.hid gx
    clear gx
    go_wp2_with fail
    go_roundw
    case rel => exact ⟨i + 1, HI.out, by go_num, HNN, zb GJ.out HWX.out⟩
    case measure => have := HI.out; simp [Go.RowKit.intOf] <;> omega
   have e68 : (vaS K S == 0) = true := by simpa using hva
   have HYE := Lib.hid (HYES.out (by unfold fwB fitB; rw [decide_eq_true hw, decide_eq_true hd, decide_eq_true hva]; rfl))
   clear hw hd hva
   go_upto_region 12 with fail
   refine zg (za wr) (by kernel_rfl) (by kernel_rfl) ?_
   repeat (first
    | (go_big_quiet_want; refine zu 24 (.tmp 3) rfl w.heap.size 0 rfl K.C.toList _ YK.out huk rfl SIK.out ?_; simp only [Act.put, List.setIfInBounds_toArray, List.set_cons_succ, List.set_cons_zero, Array.toArray_toList]; go_big_quiet_on)
    | (go_big_quiet_want; refine y9 169 (.tmp 65) rfl (ad.add (i * 24)) rfl S.C.toList _ HYS.out hus rfl SIS.out ?_; simp only [Act.put, List.setIfInBounds_toArray, List.set_cons_succ, List.set_cons_zero, Array.toArray_toList]; go_big_quiet_on)
    | (go_big_quiet_step (first
     | (go_at_call 101; exact callG (CV.out _)))))
   refine wpQuiet_nil ?_
   rintro wx ⟨⟨wx', gx⟩, rfl⟩
   have GX := Lib.hid (zb GJ.out gx)
   have HYX : Hid (∀ j u, S.C.toList[j]? = some u → wx.cell? ((ad.add (i * 24)).add j) = some u) := Lib.hid (HYS.out ⟨wx, gx⟩)
   have hcR : wx.cell? ⟨q, 5, none⟩ = some (.slice B P.length pc) := by simpa using (HZQ.out.grew GX.out).cell 5 _ rfl
   have hrow := zi (S := fun _ => False) HROW.out (zw GX.out) (fun g _ h => h)
   have hqb := Nat.lt_of_lt_of_le HQS.out GX.out.size
   have HRW := Lib.hid hrow
   have HCR := Lib.hid hcR
   have HQB := Lib.hid hqb
   have HLO := Lib.hid (zL hrow)
   have HPL5 : Hid (P.length ≤ 12) := Lib.hid (by have h1 := HPQ.out; have h2 := HF.out; have h3 := HQ.out; omega)
   clear gx hs0 hs1 YK CV hrow hcR hqb e51 e59 e68
   go_upto_region 13 with fail
   have HSB : Hid (∀ g, (fun j => (Value.slice B P.length pc).ownBlock = some j) g → g < wx.heap.size) := Lib.hid (fun g h => (HLO.out g h).2)
   have HSQ : Hid (¬ (fun j => (Value.slice B P.length pc).ownBlock = some j) q) := Lib.hid (fun h => by have := (HLO.out q h).1; omega)
   have HCY : Hid (∀ y, Kp (fun j => (Value.slice B P.length pc).ownBlock = some j) wx y → y.cell? ⟨q, 5, none⟩ = some (.slice B P.length pc)) := Lib.hid (fun y k => (World.cell?_of_block (k.block q (by have := HQB.out; omega) HSQ.out)).trans HCR.out)
   have HRY : Hid (∀ y, Kp (fun j => (Value.slice B P.length pc).ownBlock = some j) wx y → ∀ j u, S.C.toList[j]? = some u → y.cell? ((ad.add (i * 24)).add j) = some u) := Lib.hid (fun y k j u hj => (World.cell?_of_block (by rw [zG, zG]; exact k.block ad.block (by have := HADB.out; have := GX.out.size; have := HG.out.size; omega) (fun h => by have := (HLO.out ad.block h).1; have := HADB.out; have := HQW.out; omega))).trans (HYX.out j u hj))
   refine qi 9 7 (fun j => (Value.slice B P.length pc).ownBlock = some j) (fun ix9 => match ix9 with
    | 0 => fun v _ => v = .pointer (some ⟨q, 5, none⟩)
    | 1 => fun v _ => v = .slice B P.length pc
    | 2 => fun v _ => v = .slice (some ad) L.length cap
    | 3 => fun v _ => v = .int .i64 (i : Int)
    | 4 => fun v _ => v = .pointer (some (ad.add (i * 24)))
    | 5 => fun v _ => v = .agg S.C
    | 6 => fun _ _ => True
    | 7 => fun v W => AppR W (q + 1) (.slice B P.length pc) wx.heap.size (P.length + 1) ((spL P).flatten ++ S.C.toList) v
    | 8 => fun v _ => v = .pointer (some ⟨q, 5, none⟩)
    | _ => fun _ _ => True) (fun ix9 => match ix9 with
    | 6 => fun lo hi v w => OneR w wx.heap.size lo hi S.C.toList v
    | 7 => fun _ _ _ _ => True
    | _ => fun _ _ _ _ => True) (fun ix9 => match ix9 with
    | 7 => 6
    | ix8 => ix8) (fun ix9 => match ix9 with
    | 7 => 6
    | ix8 => ix8) (by kernel_rfl) (by kernel_rfl) (by kernel_rfl) ?_ ?_ ?_ ?_ ?_
   ·intro i v x y h hg
    match i, h with
    | 0, h | 1, h | 2, h | 3, h | 4, h | 5, h | 8, h => exact h
    | 6, h => exact h
    | 7, h => exact AppR.gr h hg
    | m + 9, _ => trivial
   ·intro i v x y hne hx h hg
    match i, h with
    | 0, h | 1, h | 2, h | 3, h | 4, h | 5, h | 8, h => exact h
    | 6, h => exact h
    | 7, h => exact absurd rfl hne
    | m + 9, _ => trivial
   ·refine ⟨?_, ?_, ?_, ?_, ?_, ?_, ?_, ?_, ?_, trivial⟩
    ·intro vs lo hi y hg hd hvia
     replace hg : Kp (fun j => (Value.slice B P.length pc).ownBlock = some j) wx y := hg
     clear hvia
     simp only [actOf, tk1, tk0, dr1, dr0, Act.put, si1, st1, st0, Nat.reduceAdd]
     go_wp2_with fail
     first | exact ⟨rfl, _, rfl, za _, rfl⟩ | exact ⟨rfl, _, rfl, za _, rfl, trivial⟩
    ·intro vs lo hi y hg hd hvia
     replace hg : Kp (fun j => (Value.slice B P.length pc).ownBlock = some j) wx y := hg
     obtain ⟨h0, _⟩ := hd
     replace h0 := h0 rfl
     clear hvia
     simp only [actOf, tk1, tk0, dr1, dr0, Act.put, si1, st1, st0, Nat.reduceAdd]
     rw [show vs 0 = _ from h0]
     have hc := HCY.out y hg
     go_wp2_with fail
     first | exact ⟨rfl, _, rfl, za _, rfl⟩ | exact ⟨rfl, _, rfl, za _, rfl, trivial⟩
    ·intro vs lo hi y hg hd hvia
     replace hg : Kp (fun j => (Value.slice B P.length pc).ownBlock = some j) wx y := hg
     clear hvia
     simp only [actOf, tk1, tk0, dr1, dr0, Act.put, si1, st1, st0, Nat.reduceAdd]
     go_wp2_with fail
     first | exact ⟨rfl, _, rfl, za _, rfl⟩ | exact ⟨rfl, _, rfl, za _, rfl, trivial⟩
    ·intro vs lo hi y hg hd hvia
     replace hg : Kp (fun j => (Value.slice B P.length pc).ownBlock = some j) wx y := hg
     clear hvia
     simp only [actOf, tk1, tk0, dr1, dr0, Act.put, si1, st1, st0, Nat.reduceAdd]
     go_wp2_with fail
     first | exact ⟨rfl, _, rfl, za _, rfl⟩ | exact ⟨rfl, _, rfl, za _, rfl, trivial⟩
    ·intro vs lo hi y hg hd hvia
     replace hg : Kp (fun j => (Value.slice B P.length pc).ownBlock = some j) wx y := hg
     obtain ⟨h2, h3, _⟩ := hd
     replace h2 := h2 rfl
     replace h3 := h3 rfl
     clear hvia
     simp only [actOf, tk1, tk0, dr1, dr0, Act.put, si1, st1, st0, Nat.reduceAdd]
     rw [show vs 2 = _ from h2, show vs 3 = _ from h3]
     go_wp2_with fail
     first | exact ⟨rfl, _, rfl, za _, rfl⟩ | exact ⟨rfl, _, rfl, za _, rfl, trivial⟩
    ·intro vs lo hi y hg hd hvia
     replace hg : Kp (fun j => (Value.slice B P.length pc).ownBlock = some j) wx y := hg
     obtain ⟨h4, _⟩ := hd
     replace h4 := h4 rfl
     clear hvia
     simp only [actOf, tk1, tk0, dr1, dr0, Act.put, si1, st1, st0, Nat.reduceAdd]
     rw [show vs 4 = _ from h4]
     have hm := HRY.out y hg
     go_wp2_with (with_reducible refine kS rfl 169 (.tmp 74) rfl (ad.add (i * 24)) rfl S.C.toList _ hm hus rfl SIS.out ?_; simp only [Array.toArray_toList])
     first | exact ⟨rfl, _, rfl, za _, rfl⟩ | exact ⟨rfl, _, rfl, za _, rfl, trivial⟩
    ·intro vs lo hi y hg hd hvia
     replace hg : Kp (fun j => (Value.slice B P.length pc).ownBlock = some j) wx y := hg
     obtain ⟨h5, _⟩ := hd
     replace h5 := h5 rfl
     clear hvia
     simp only [actOf, tk1, tk0, dr1, dr0, Act.put, si1, st1, st0, Nat.reduceAdd]
     rw [show vs 5 = _ from h5]
     have hgs24 : S.C.size = 24 := rfl
     go_wp2_with fail
     rw [xh]
     exact ⟨rfl, _, rfl, zc (za _) _, ⟨y.heap.size, rfl, Ag.new y 169 S.C, hg.size, Nat.le_refl _, by show y.heap.size < (y.alloc _).heap.size; simp⟩⟩
    ·intro vs lo hi y hg hd hvia
     replace hg : Grew wx y := hg
     obtain ⟨h1, h6, _⟩ := hd
     replace h1 := h1 rfl
     replace h6 := h6 rfl
     have hv9 : (fun lo hi v w => OneR w wx.heap.size lo hi S.C.toList v) (lo 6) (hi 6) (vs 6) y := hvia rfl
     clear hvia
     simp only [actOf, tk1, tk0, dr1, dr0, Act.put, si1, st1, st0, Nat.reduceAdd]
     rw [show vs 1 = _ from h1]
     obtain ⟨g9, e9, hz9, hb9, hl9, hh9⟩ := OneR.out hv9
     rw [e9]
     have hry := HRW.out
     have hpl9 := HPL5.out
     have hqb9 := HQB.out
     have hgs9 := hg.size
     have hcl9 : S.C.toList.length = 1 * 24 := rfl
     refine ya _ rfl (.tmp 71) (.tmp 76) 27 rfl (q + 1) 169 i0 (.agg (#[.int .u64 0, .int .i64 0, .int .i64 0, .int .i64 0, .int .i64 0, .int .u64 0, .int .u64 0, .int .u64 0, .int .u64 0, .int .u64 0, .int .u64 0, .int .u64 0, .int .u64 0, .int .u64 0, .int .u64 0, .int .u64 0, .int .u64 0, .int .u64 0, .int .u64 0, .int .u64 0, .int .u64 0, .int .u64 0, .int .u64 0, .slice none 0 0] : Array Value)) 24 208 Tryz.underlying27 hinf hz0 hz1 hz2 rfl (by decide) _ _ _ rfl (zi (S := fun _ => False) hry (zw hg) (fun g _ h => h)) ⟨g9, 0, none⟩ 1 1 S.C.toList rfl hcl9 (fun j u hj => by rw [add0]; simpa using hz9.cell j u hj) S.one' (by unfold maxLen; omega) (by omega) (by omega) ?_
     intro va z hva hga hoa
     go_wp2_with fail
     have hap : AppR z (q + 1) (.slice B P.length pc) wx.heap.size (P.length + 1) ((spL P).flatten ++ S.C.toList) va := ⟨hva, hoa.imp id (fun h => ⟨_, h, hg.size⟩)⟩
     first | exact ⟨rfl, _, rfl, yF (zK _ y) hga (fun g e => .inl e), hap, trivial⟩ | exact ⟨rfl, _, rfl, yF (zK _ y) hga (fun g e => .inl e), hap⟩
    ·intro vs lo hi y hg hd hvia
     replace hg : Kp (fun j => (Value.slice B P.length pc).ownBlock = some j) wx y := hg
     clear hvia
     simp only [actOf, tk1, tk0, dr1, dr0, Act.put, si1, st1, st0, Nat.reduceAdd]
     go_wp2_with fail
     first | exact ⟨rfl, _, rfl, za _, rfl⟩ | exact ⟨rfl, _, rfl, za _, rfl, trivial⟩
   ·intro i lo hi v x y hx h hg
    match i, h with
    | 6, h => exact OneR.kp h hg HSB.out
    | 7, _ => trivial
    | 0, _ => trivial
    | 1, _ => trivial
    | 2, _ => trivial
    | 3, _ => trivial
    | 4, _ => trivial
    | 5, _ => trivial
    | m + 8, _ => trivial
   ·intro vs lo hi w5 hg hJ hK hB hD
    replace hg : Kp (fun j => (Value.slice B P.length pc).ownBlock = some j) wx w5 := hg
    have k76 := hK 6 (by decide)
    have b76 := hB 6 (by decide)
    have k77 := hK 7 (by decide)
    have b77 := hB 7 (by decide)
    clear hK hB hD
    have j0 : vs 0 = .pointer (some ⟨q, 5, none⟩) := hJ 0 (by decide)
    have j1 : vs 1 = .slice B P.length pc := hJ 1 (by decide)
    have j2 : vs 2 = .slice (some ad) L.length cap := hJ 2 (by decide)
    have j3 : vs 3 = .int .i64 (i : Int) := hJ 3 (by decide)
    have j4 : vs 4 = .pointer (some (ad.add (i * 24))) := hJ 4 (by decide)
    have j5 : vs 5 = .agg S.C := hJ 5 (by decide)
    have j8 : vs 8 = .pointer (some ⟨q, 5, none⟩) := hJ 8 (by decide)
    have s76 := hJ 6 (by decide)
    have s77 := hJ 7 (by decide)
    clear hJ
    simp only [actOf, tk1, tk0, dr1, dr0, Act.put, si1, st1, st0, Nat.reduceAdd]
    have hown := s77.own
    rw [show (spL P).flatten ++ S.C.toList = (spL (P ++ [S])).flatten from (yL P S).symm] at hown
    obtain ⟨B', k', hv', -, -, -, -⟩ := yw (L := P ++ [S]) hown (by simp)
    rw [hv'] at hown ⊢
    have hzq := (HZQ.out.grew GX.out).kp hg HSQ.out
    have hc7 : w5.cell? ⟨q, 5, none⟩ = some (.slice B P.length pc) := ag_at hzq 5 rfl
    have fc7 := ag_fr hzq 5 (by simp [Cm.cells])
    have K8 := zV (S := fun j => j = q) (zK _ w5) (p := ⟨q, 5, none⟩) (.inl rfl) (.slice B' (P.length + 1) k')
    have HOWN := Lib.hid hown
    have HZQ7 := Lib.hid hzq
    have HK8 := Lib.hid K8
    have HKG := Lib.hid hg
    have h1w := HQW.out
    have h2w := HG.out.size
    have e9 : IntKind.i64.wrap ((v : Int) + 1) = ((v + 1 : Nat) : Int) := by have h2 := HVN.out; have h3 := HEN.out; have h4 := HF.out; rw [IntWalk.i64_in _ (by omega)]; omega
    have j8' : vs 8 = _ := j8
    rw [j8']
    clear hown hzq K8 hg s76 s77 b76 b77 k76 k77 j0 j1 j2 j3 j4 j5 j8 hv' j8' h1w h2w
    go_wp2_with fail
    go_roundw
    case rel =>
     refine ⟨v + 1, .slice B' (P.length + 1) k', HVN.out, by go_num, ?_, HZQ7.out.set1 5 (.slice B' (P.length + 1) k') (by simp [Cm.cells]), ?_, ?_, ?_, ?_⟩
     ·rw [HYE.out, List.length_append, List.length_singleton]
      exact zi HOWN.out HK8.out (fun g h e => by have h1 := zj HOWN.out g h; have e' : g = q := e; omega)
     ·have h1w := HQW.out
      exact ((HZK.out.grew GX.out).kp HKG.out (fun h => by have := (HLO.out _ h).1; omega)).kp HK8.out (fun e => by have e' : w.heap.size = q := e; omega)
     ·have h1w := HQW.out
      exact ((HZZ.out.grew GX.out).kp HKG.out (fun h => by have := (HLO.out _ h).1; omega)).kp HK8.out (fun e => by have e' : w.heap.size + 1 + 1 = q := e; omega)
     ·have h1w := HQW.out
      have g5 := zR (zb HG.out GX.out) HKG.out (zb HG.out GX.out).size (fun g h => by have := (HLO.out g h).1; omega)
      exact zR g5 HK8.out g5.size (fun g e => by have e' : g = q := e; omega)
     ·exact Nat.lt_of_lt_of_le (Nat.lt_of_lt_of_le HQB.out HKG.out.size) HK8.out.size
    case measure => have := HVN.out; simp [Go.RowKit.intOf] <;> omega
open Go.ChangeShapes Go.WideShapes Go.Deep
instance : Inhabited SP := ⟨⟨0, 0, 0, 0, 0, fun _ => 0, none, 0, []⟩⟩
section
variable {H : Type} {enc : TypeId × Value → H} {W : World}
set_option maxRecDepth 100000 in
theorem zp7 {n : Nat} {cs : List Value} {x : DataW H × List MemPlace} (h : DataW.trod enc Tryz.prog W 0 (fun _ => true) true n 169 cs = some x) :
 ∃ S : SP, cs = S.C.toList ∧ (S.l.length ≤ 1000 → S.ok) ∧ S.at W := by
 obtain ⟨xs, m, _, _, hl, hlen, hh⟩ := DataW.trod_struct Tryz.underlying169 h
 rw [show Tryz.prog.cellsOf 169 = 24 by kernel_rfl] at hl
 have ci : Tryz.prog.cellsOf 3 = 1 := by kernel_rfl
 have cj : Tryz.prog.cellsOf 2 = 1 := by kernel_rfl
 have cu : Tryz.prog.cellsOf 55 = 1 := by kernel_rfl
 have cg : Tryz.prog.cellsOf 132 = 21 := by kernel_rfl
 obtain ⟨y0, y1, y2, y3, rfl⟩ : ∃ a b c d, xs = [a, b, c, d] := by
  match xs, (show xs.length = 4 from hlen) with
  | [a, b, c, d], _ => exact ⟨a, b, c, d, rfl⟩
 have h0 : DataW.trod enc Tryz.prog W 0 (fun _ => true) true m 55 ((cs.drop 0).take (Tryz.prog.cellsOf 55)) = _ := hh 0 _ rfl
 have h1 : DataW.trod enc Tryz.prog W 0 (fun _ => true) true m 3 ((cs.drop 1).take (Tryz.prog.cellsOf 3)) = _ := hh 1 _ rfl
 have h2 : DataW.trod enc Tryz.prog W 0 (fun _ => true) true m 2 ((cs.drop 2).take (Tryz.prog.cellsOf 2)) = _ := hh 2 _ rfl
 have h3 : DataW.trod enc Tryz.prog W 0 (fun _ => true) true m 132 ((cs.drop 3).take (Tryz.prog.cellsOf 132)) = _ := hh 3 _ rfl
 simp only [ci, cj, cu, cg, List.getElem?_cons_zero, List.getElem?_cons_succ] at h0 h1 h2 h3
 obtain ⟨z, e0, _, i0⟩ := DataW.trod_int Tryz.underlying55 h0
 obtain ⟨wh, e1, _, i1⟩ := DataW.trod_int Tryz.underlying3 h1
 obtain ⟨at_, e2, _, i2⟩ := DataW.trod_int Tryz.underlying2 h2
 obtain ⟨who, lf, s, A, c, l, e3, w1, w2, hs, hc, hm, hr, hz⟩ := znz h3
 obtain ⟨cm, rfl, hcm⟩ := zbs i0
 refine ⟨⟨cm, wh, at_, who, lf, s, A, c, l⟩, ?_, fun h => ⟨hcm, wf_i64 i1, wf_i64 i2, w1, w2, hs, h, hz⟩, hr⟩
 have k0 := yS cs 0 1
 have k1 := yS cs 1 1
 have k2 := yS cs 2 1
 have k3 := yS cs 3 21
 rw [e0] at k0
 rw [e1] at k1
 rw [e2] at k2
 rw [e3, show cs.drop (3 + 21) = [] from List.drop_eq_nil_of_le (by omega)] at k3
 rw [show 2 + 1 = 3 from rfl, k3] at k2
 rw [show 1 + 1 = 2 from rfl, k2] at k1
 rw [show 0 + 1 = 1 from rfl, k1] at k0
 rw [List.drop_zero] at k0
 rw [k0]
 rfl
set_option maxRecDepth 100000 in
/-- a row of stamps that came in -/
theorem zn2 {r : Reach} {b0 : Nat} {v : Value} {d : DataW H} {ps : List MemPlace} (hval : Value.okWide Tryz.prog W r b0 27 v) (h : DataW.Trod enc Tryz.prog W 0 (fun _ => true) true 27 v d ps) :
 ∃ (A : Option Addr) (c : Nat) (L : List SP), v = .slice A L.length c ∧ L.length ≤ c ∧ c ≤ maxLen ∧ RdG W A L ∧ (∀ S ∈ L, S.l.length ≤ 1000 → S.ok) ∧ ∀ S ∈ L, S.at W := by
 obtain ⟨A, l, c, rfl⟩ := okWide_slice Tryz.underlying27 hval
 have hC : Tryz.prog.cellsOf 169 = 24 := by kernel_rfl
 obtain ⟨fuel, hf⟩ := h
 rw [show (Value.slice A l c).cells.toList = [Value.slice A l c] from rfl] at hf
 rcases Deep.open_slice Tryz.underlying27 hf with ⟨h1, _⟩ | ⟨a, len, cap, m, n, D, Pl, h1, hb, hl, hm, hmm, hx, hV⟩
 ·injection h1 with h1
  injection h1 with h1 h2 h3
  subst h1 h2 h3
  exact ⟨none, 0, [], rfl, Nat.zero_le _, Nat.zero_le _, fun k hk => absurd hk (by simp), by simp, by simp⟩
 ·injection h1 with h1
  injection h1 with h1 h3 h4
  subst h1 h3 h4
  have hlm : l ≤ m := by rw [hmm]; split <;> omega
  have key : ∀ i, i < l → ∃ S : SP, (∀ j v, S.C.toList[j]? = some v → W.cell? ((a.add (i * 24)).add j) = some v) ∧ (S.l.length ≤ 1000 → S.ok) ∧ S.at W := by
   intro i hi'
   obtain ⟨cs', hc, ht'⟩ := hV i (by omega)
   rw [hC] at hc
   obtain ⟨_, hcl, hat⟩ := World.cells?_some hc
   obtain ⟨S, rfl, w1, w2⟩ := zp7 ht'
   refine ⟨S, fun j v hv => ?_, w1, w2⟩
   have hj : j < 24 := (List.getElem?_eq_some_iff.1 hv).1
   have := hat j (by omega)
   rw [hv] at this
   exact this
  obtain ⟨L, hL⟩ := choose_lt (α := SP) (p := fun i S => (∀ j v, S.C.toList[j]? = some v → W.cell? ((a.add (i * 24)).add j) = some v) ∧ (S.l.length ≤ 1000 → S.ok) ∧ S.at W) key
  refine ⟨some a, c, (List.range l).map L, by simp, by simpa using hl, hm, ?_, ?_, ?_⟩
  ·intro k hk
   have hk' : k < l := by simpa using hk
   obtain ⟨h5, _⟩ := hL k hk'
   refine ⟨a, rfl, ?_, fun j v hv => h5 j v (by simpa using hv)⟩
   rcases Nat.lt_or_ge a.block W.heap.size with h' | h'
   ·exact h'
   ·have : W.heap[((a.add (k * 24)).add 0).block]? = none := by rw [zG, zG]; exact Array.getElem?_eq_none h'
    have h6 := h5 0 _ rfl
    simp only [World.cell?, this] at h6
    cases h6
  ·intro S hS
   obtain ⟨i, hi', rfl⟩ := List.mem_map.1 hS
   exact (hL i (by simpa using hi')).2.1
  ·intro S hS
   obtain ⟨i, hi', rfl⟩ := List.mem_map.1 hS
   exact (hL i (by simpa using hi')).2.2
end
end Go.Proofs.YtpppegnojmnicaaGreatDoor
