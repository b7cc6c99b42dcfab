/- key.parseUpTo; key.Parse of a signature's words. -/
import Derived.Test.YtpppegnojmnicaaGreatDoorUbg
import Derived.Test.YtpppegnojmnicaaGreatDoorUbh
import Derived.Test.YtpppegnojmnicaaGreatDoorUba
import Derived.Test.YtpppegnojmnicaaGreatDoorUbd
import Derived.Test.YtpppegnojmnicaaGreatDoorUaf
import Derived.Test.YtpppegnojmnicaaGreatDoorUaj
import Derived.Test.YtpppegnojmnicaaGreatDoorUan
import Derived.Maps.OwnSet
import Derived.Maps.OwnOps
import Derived.Maps.Views
import Derived.Test.YtpppegnojmnicaaGreatDoorProg
import Derived.Test.YtpppegnojmnicaaGreatDoorUbc
set_option linter.unusedSimpArgs false
set_option linter.unusedVariables false
namespace Go.Proofs.YtpppegnojmnicaaGreatDoor
open Go.RowKit
def uptoB (s : List UInt8) (m : Int) : Bool := decide ((pnum s).2 = 0 ∧ 0 ≤ (pnum s).1 ∧ (pnum s).1 ≤ m)
set_option maxRecDepth 100000 in
theorem qd (s : ByteArray) (hs : s.size ≤ 1048576) (m : Int) (w : World) (hS : Std w) :
 Calls Tryz.prog 213 #[.string s, .int .i64 m] w fun e w' => e = .returned (.tuple #[.int .i64 (pnum s.data.toList).1, .bool (uptoB s.data.toList m)]) ∧ Grew w w' := by
 have CP := Lib.hid (xI s (by omega) w hS)
 unfold uptoB
 obtain ⟨v, ev, hp⟩ : ∃ v ev, pnum s.data.toList = (v, ev) := ⟨_, _, rfl⟩
 rw [hp] at CP ⊢
 dsimp only at CP ⊢
 clear hp hS
 by_cases h1 : ev = 0
 ·have e1 : (ev == 0) = true := by simpa using h1
  by_cases h2 : 0 ≤ v
  ·by_cases h3 : v ≤ m
   ·rw [decide_eq_true ⟨h1, h2, h3⟩]
    clear h1
    go_enter Tryz.func213, Tryz.ntmps213
    go_wp2_with (go_at_call 143; refine (CP.out).mono ?_; rintro e w1 ⟨rfl, g1⟩)
    go_ret2
    exact ⟨rfl, g1⟩
   ·rw [decide_eq_false (fun h => h3 h.2.2)]
    have d3 : decide (v ≤ m) = false := decide_eq_false h3
    clear h1 h3
    go_enter Tryz.func213, Tryz.ntmps213
    go_wp2_with (go_at_call 143; refine (CP.out).mono ?_; rintro e w1 ⟨rfl, g1⟩)
    go_ret2
    exact ⟨rfl, g1⟩
  ·rw [decide_eq_false (fun h => h2 h.2.1)]
   clear h1
   go_enter Tryz.func213, Tryz.ntmps213
   go_wp2_with (go_at_call 143; refine (CP.out).mono ?_; rintro e w1 ⟨rfl, g1⟩)
   go_ret2
   exact ⟨rfl, g1⟩
 ·have e1 : (ev == 0) = false := by simpa using h1
  rw [decide_eq_false (fun h => h1 h.1)]
  clear h1
  go_enter Tryz.func213, Tryz.ntmps213
  go_wp2_with (go_at_call 143; refine (CP.out).mono ?_; rintro e w1 ⟨rfl, g1⟩)
  go_ret2
  exact ⟨rfl, g1⟩
theorem zff : ∀ x : Fin 16, hexDig x.val ≠ 44 := by decide
theorem zjx (n : Nat) : ∀ c ∈ hexL n, c ≠ 44 := by
 intro c hc
 obtain ⟨j, _, rfl⟩ := List.mem_map.1 hc
 exact zff ⟨n / 16 ^ (15 - j) % 16, Nat.mod_lt _ (by decide)⟩
/-- digests in words lead back -/
theorem zax (l : List Nat) (hb : ∀ n ∈ l, n < 18446744073709551616) : pdigs (digs l) = some l := by
 cases l with
 | nil => exact if_pos rfl
 | cons a l =>
  have hs : splitC (digs (a :: l)) = (a :: l).map hexL := jq _ (by simp) (fun x hx => by
   obtain ⟨n, _, rfl⟩ := List.mem_map.1 hx
   exact zjx n)
  have hne : digs (a :: l) ≠ [] := by
   intro h
   rw [h] at hs
   have h1 := congrArg List.length hs
   have h2 : ([] : List UInt8) = hexL a := by
    have := congrArg List.head? hs
    simpa [splitC] using this
   have := congrArg List.length h2
   rw [yd] at this
   simp at this
  rw [zau hne (by
   rw [hs]
   intro x hx
   obtain ⟨n, hn, rfl⟩ := List.mem_map.1 hx
   rw [kE n (hb n hn)]; exact fun h => by cases h), hs]
  congr 1
  unfold valsD
  rw [List.map_map]
  conv => rhs; rw [← List.map_id (a :: l)]
  apply List.map_congr_left
  intro n hn
  simp [kE n (hb n hn)]
set_option maxRecDepth 100000 in
set_option maxHeartbeats 1000000 in
theorem zfg (cm : Nat) (who at_ : Int) (hc : cm < 18446744073709551616) (hw : in64 who) (ha : in64 at_) (w : World) :
 Calls Tryz.prog 230 #[.int .u64 (cm : Nat), .int .i64 who, .int .i64 at_] w fun e w' => e = .returned (.string ⟨(stW cm who at_).toArray⟩) ∧ Grew w w' := by
 have hlen := qc cm who at_ hw ha
 have c0 := fun W => zlh (cm : Nat) ⟨by omega, by omega⟩ W
 simp only [Int.toNat_natCast] at c0
 have C0 := Lib.hid c0
 have C1 := Lib.hid (fun W => za8 who hw.1 hw.2 W)
 have C2 := Lib.hid (fun W => za8 at_ ha.1 ha.2 W)
 have CJ : Hid (∀ (A4 : Option Addr) (W : World), Rd W W.heap.size A4 (strL [⟨#[115, 116, 97, 109, 112]⟩, ⟨(hexL cm).toArray⟩, ⟨(Lib.itoa who).toArray⟩, ⟨(Lib.itoa at_).toArray⟩]) → Calls Tryz.prog 91 #[.slice A4 4 4] W fun e w' => e = .returned (.string ⟨(stW cm who at_).toArray⟩) ∧ Grew W w') := Lib.hid (fun A4 W hR => by
  have := zlq A4 4 [⟨#[115, 116, 97, 109, 112]⟩, ⟨(hexL cm).toArray⟩, ⟨(Lib.itoa who).toArray⟩, ⟨(Lib.itoa at_).toArray⟩] (by simp) (by simp only [stW] at hlen; simp [bys, tagStamp] at hlen ⊢; omega) W hR
  simpa [bys, stW, tagStamp] using this)
 clear hc hw ha hlen c0
 generalize (⟨(stW cm who at_).toArray⟩ : ByteArray) = tj at *
 generalize (⟨(hexL cm).toArray⟩ : ByteArray) = t0 at *
 generalize (⟨(Lib.itoa who).toArray⟩ : ByteArray) = t1 at *
 generalize (⟨(Lib.itoa at_).toArray⟩ : ByteArray) = t2 at *
 go_enter Tryz.func230, Tryz.ntmps230
 go_wp2_with fail
 refine (C0.out w).mono ?_
 rintro e w1 ⟨rfl, g1⟩
 go_wp2_with fail
 refine (C1.out w1).mono ?_
 rintro e w2 ⟨rfl, gg⟩
 have g2 := zb g1 gg
 clear g1 gg
 go_wp2_with fail
 refine (C2.out w2).mono ?_
 rintro e w3 ⟨rfl, gg⟩
 have g3 := zb g2 gg
 clear g2 gg
 go_wp2_with fail
 refine (CJ.out _ _ (xf w3 _ #[.string ⟨#[115, 116, 97, 109, 112]⟩, .string t0, .string t1, .string t2])).mono ?_
 rintro e w4 ⟨rfl, gg⟩
 have g4 := zb (zc g3 _) gg
 clear g3 gg
 go_wp2_with fail
 go_ret
 exact ⟨rfl, g4⟩
set_option maxRecDepth 100000 in
theorem zd5 (cm : Nat) (who at_ : Int) (hc : cm < 18446744073709551616) (hw : in64 who) (ha : in64 at_) (w : World) :
 Calls Tryz.prog 176 #[.int .u64 (cm : Nat), .int .i64 who, .int .i64 at_] w fun e w' => e = .returned (.int .u64 (stD cm who at_ : Nat)) ∧ Grew w w' := by
 have CW := Lib.hid (zfg cm who at_ hc hw ha w)
 have CH := Lib.hid (fun W => zb2 ⟨#[115, 116, 97, 109, 112]⟩ ⟨(stW cm who at_).toArray⟩ (by decide) (by have := qc cm who at_ hw ha; simp [ByteArray.size]; omega) W)
 have e1 : sumL (⟨#[115, 116, 97, 109, 112]⟩ : ByteArray).data.toList (⟨(stW cm who at_).toArray⟩ : ByteArray).data.toList = stD cm who at_ := by simp [stD, tagStamp]
 rw [e1] at CH
 clear e1 hc hw ha
 generalize stD cm who at_ = d at *
 generalize (⟨(stW cm who at_).toArray⟩ : ByteArray) = tj at *
 go_enter Tryz.func176, Tryz.ntmps176
 go_wp2_with fail
 refine (CW.out).mono ?_
 rintro e w1 ⟨rfl, g1⟩
 go_wp2_with fail
 refine (CH.out w1).mono ?_
 rintro e w2 ⟨rfl, g2⟩
 go_wp2_with fail
 go_ret
 exact ⟨rfl, zb g1 g2⟩
open Go.Maps
def heldR (v : Value) : Option (DataW Value × List MemPlace) := some (.held v, [])
section
variable {P : Program}
theorem xg (w : World) {ops : Array Oper} {rest : List Oper} {o : Oper} {a : Act} {Q : Exit → Act → World → Prop} (hg : o.guard = none) (m x : Operand) (t : TypeId) (hop : o.op = Op.lookup t m x true)
 (k e : TypeId) (K : Keyed P k) (ht : P.underlying t = some (.map k e)) {z : Value} (hz : (zeroValue e).run P w = .ok z w) (b n : Nat) (D : DataW Value)
 (hm : a.eval m = .map (some b)) (hown : w.ownsMap P k heldR b n D) (key : Value) (kl : Lit) (hx : a.eval x = key) (hkey : keyOf P k key = some kl)
 (u : Value) (hu : D.atKey kl (.held z) = .held u) (hb : Bool) (hh : Maps.has D kl = hb)
 (hK : wpList P ops Q rest (a.put o.dst (.tuple #[u, .bool hb])) w) : wpList P ops Q (o :: rest) a w :=
 wpList_lookup_own_ok w hg m x t hop k e K ht heldR hz (.held z) [] rfl b n D hm hown key kl hx hkey (fun v ps hv => by
  have h1 : DataW.held v = D.atKey kl (.held z) := by
   unfold heldR at hv; injection hv with hv; exact (Prod.mk.inj hv).1
  rw [hu] at h1; injection h1 with h1; subst h1; rw [hh]; exact hK)
theorem jL (w : World) {ops : Array Oper} {rest : List Oper} {o : Oper} {a : Act} {Q : Exit → Act → World → Prop} (hg : o.guard = none) (m x : Operand) (t : TypeId) (hop : o.op = Op.lookup t m x false)
 (k e : TypeId) (K : Keyed P k) (ht : P.underlying t = some (.map k e)) {z : Value} (hz : (zeroValue e).run P w = .ok z w) (b n : Nat) (D : DataW Value)
 (hm : a.eval m = .map (some b)) (hown : w.ownsMap P k heldR b n D) (key : Value) (kl : Lit) (hx : a.eval x = key) (hkey : keyOf P k key = some kl)
 (u : Value) (hu : D.atKey kl (.held z) = .held u)
 (hK : wpList P ops Q rest (a.put o.dst u) w) : wpList P ops Q (o :: rest) a w := by
 refine wpList_plain hg fun K' hK' => ?_
 obtain ⟨v, ps, hrun, hv⟩ := hown.lookup K ht hz (zd := .held z) (zp := []) rfl hkey
 have h1 : DataW.held v = D.atKey kl (.held z) := by
  unfold heldR at hv; injection hv with hv; exact (Prod.mk.inj hv).1
 rw [hu] at h1; injection h1 with h1; subst h1
 unfold Oper.wp
 simp [execOp, hop, hm, hx, hrun, Result.andThen]
 exact hK' _ _ hK
end
end Go.Proofs.YtpppegnojmnicaaGreatDoor
namespace Go.Proofs.YtpppegnojmnicaaGreatDoor
open Go.RowKit
end Go.Proofs.YtpppegnojmnicaaGreatDoor
