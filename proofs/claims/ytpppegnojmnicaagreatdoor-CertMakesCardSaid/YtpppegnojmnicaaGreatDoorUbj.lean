/- median.ranked at []int64, median.Of. -/
import Derived.Laws.MakeOwn
import Derived.Test.YtpppegnojmnicaaGreatDoorUbi
import Derived.Test.YtpppegnojmnicaaGreatDoorUab
import Derived.Test.YtpppegnojmnicaaGreatDoorUav
import Derived.Test.YtpppegnojmnicaaGreatDoorUbd
import Derived.Test.YtpppegnojmnicaaGreatDoorUau
import Derived.Test.YtpppegnojmnicaaGreatDoorUbb
set_option linter.unusedSimpArgs false
set_option linter.unusedVariables false
namespace Go.Proofs.YtpppegnojmnicaaGreatDoor
open Go.RowKit
set_option maxRecDepth 100000 in
theorem zo7 (x : Int) (w : World) : Calls Tryz.prog 119 #[.int .i64 x] w fun e w' => e = .returned (.int .i64 (id x)) ∧ Grew w w' := by
 go_enter Tryz.func119, Tryz.ntmps119
 go_wp2_with fail
 go_ret
 exact ⟨rfl, za _⟩
set_option maxRecDepth 100000 in
set_option maxHeartbeats 1000000 in
theorem znb (A : Option Addr) (c : Nat) (l : List Int) (hl : l.length ≤ 1048576) (hp : ∀ x ∈ l, in64 x) (w : World) (hr : Rd w w.heap.size A (i64L l)) :
 Calls Tryz.prog 186 #[.slice A l.length c, .func (.func 119) #[] #[]] w fun e w' => ∃ v, e = .returned v ∧ w'.ownsRow w.heap.size 2 1 v l.length ((l.map id).map (Value.int .i64)) ∧ Grew w w' := by
 obtain ⟨i0, hi, hz0, hz1, hz2⟩ := info_parts (show (Tryz.prog.info? 2).map (fun i => (i.zero, i.size, i.bytes)) = some (some (.int .i64 0), 1, 8) by kernel_rfl)
 have HPP := Lib.hid hp
 clear hp
 obtain ⟨w1, hmk, hown1, hgrow1⟩ := run_make_own (P := Tryz.prog) w w.heap.size 69 2 i0 (.int .i64 0) 1 Tryz.underlying69 hi hz0 hz1 .i64 .i64 l.length (by rw [hz2]; omega) (by unfold maxLen; omega) (Nat.le_refl _)
 have hg1 : Grew w w1 := (Below.refl _ w).grown hgrow1 (Nat.le_refl _) (fun j hj => by cases hj)
 clear hgrow1
 go_enter Tryz.func186, Tryz.ntmps186
 go_wp2_with fail
 clear hmk
 go_loopw [5, 7, 13] (fun rv xv iv wr => ∃ k : Nat, k ≤ l.length ∧ iv = .int .i64 k ∧ wr.ownsRow w.heap.size 2 1 rv k (((l.take k).map id).map (Value.int .i64)) ∧ Grew w wr) (fun _ _ iv _ => l.length - (intOf iv).toNat)
 case atStart => exact ⟨0, Nat.zero_le _, rfl, by simpa using hown1, hg1⟩
 case round =>
  obtain ⟨k, hk, rfl, hown, hg⟩ := hrel
  by_cases hlt : k < l.length
  ·obtain ⟨ad, rfl, hbl, hc0⟩ := y7 (hr.below hg) k hlt
   have hk0 : (0 : Int) ≤ (k : Int) := by omega
   have hk1 : (k : Int) < (l.length : Int) := by omega
   have e1 : IntKind.i64.wrap ((k : Int) + 1) = ((k + 1 : Nat) : Int) := by rw [IntWalk.i64_in _ (by omega)]; omega
   have HK := Lib.hid hlt
   have HT : Hid (((l.take (k + 1)).map id).map (Value.int .i64) = ((l.take k).map id).map (Value.int .i64) ++ [(Value.int .i64) (id l[k])]) := Lib.hid (by rw [List.take_succ_eq_append_getElem hlt, List.map_append, List.map_append]; rfl)
   have hpx := HPP.out l[k] (List.getElem_mem hlt)
   have cC := zo7 l[k] wr
   generalize l[k] = x at *
   have CC := Lib.hid cC
   have HPX := Lib.hid hpx
   clear cC hpx
   go_wp2_with (first
    | (go_at_call 119; refine (CC.out).mono ?_; rintro e w3 ⟨rfl, hg3⟩; have hown3 := zi (S := fun _ => False) hown (zw hg3) (fun g _ h => h); have hgg := zb hg hg3; have hz3 := hgg.size)
    | (at_builtin; refine zl rfl (.tmp 17) (.tmp 21) 69 rfl w.heap.size 2 i0 (.int .i64 0) 8 Tryz.underlying69 hi hz0 hz1 hz2 rfl _ k _ rfl (hown3.alloc _) (w3.heap.size + 1) (some ⟨w3.heap.size, 0, none⟩) 1 1 [(Value.int .i64) (id x)] rfl rfl (zQ w3 2 #[(Value.int .i64) (id x)] (0, 0)) (yv rfl) (by unfold maxLen; omega) (by omega) (by simp; omega) ?_; intro v6 w6 hown6 hgrow6 _; have hg6 := zX hgg hgrow6 (zj hown3)))
   go_roundw
   case rel => exact ⟨k + 1, by have := HK.out; omega, by go_num, by rw [HT.out]; exact hown6, hg6⟩
   case measure => have h9 := HK.out; simp [intOf]; omega
  ·obtain rfl : k = l.length := by omega
   rw [List.take_length] at hown
   go_wp2_with fail
   go_ret
   exact ⟨_, rfl, hown, hg⟩
theorem zo8 (l : List Int) : (l.map id).map (Value.int .i64) = i64L l := by simp [i64L]
set_option maxRecDepth 100000 in
set_option maxHeartbeats 1000000 in
theorem zjw (A : Option Addr) (c : Nat) (l : List Int) (i : Nat) (hl : l.length ≤ 1048576) (hi : i < l.length) (hp : ∀ x ∈ l, in64 x) (w : World) (hr : Rd w w.heap.size A (i64L l)) :
 Calls Tryz.prog 118 #[.slice A l.length c, .func (.func 119) #[] #[], .int .i64 (i : Int)] w fun e w' => e = .returned (.int .i64 (midZ l i)) ∧ Grew w w' := by
 have CM := Lib.hid (znb A c l hl hp w hr)
 have HI := Lib.hid hi
 clear hr hp hi
 go_enter Tryz.func118, Tryz.ntmps118
 go_wp2_with fail
 refine (CM.out).mono ?_
 rintro e w1 ⟨v, rfl, hrow, g1⟩
 rw [zo8] at hrow
 obtain ⟨D, dc, rfl, hdc, hdl, hD⟩ := zM hrow
 have HD := Lib.hid hD
 clear CM hrow hD
 go_wp2_with fail
 refine (zav D l.length dc w1).mono ?_
 rintro e w2 ⟨rfl, hw2⟩
 have g2 : Grew w1 w2 := by rw [hw2]; exact zc (za _) _
 have hs2 : w1.heap.size < w2.heap.size := by rw [hw2]; simp
 have hc2 : w2.cell? ⟨w1.heap.size, 0, none⟩ = some (.slice D l.length dc) := by rw [hw2]; simp
 have HD2 : Hid (Rd w2 w2.heap.size D (i64L l)) := Lib.hid ((HD.out.below g2).more g2.size)
 clear hw2 HD
 go_wp2_with fail
 refine (zaw w1.heap.size w2.heap.size D dc l hl w2 hs2 (Nat.le_refl _) hc2 HD2.out).mono ?_
 rintro e w3 ⟨v, rfl, hrow, hnil, g3⟩
 obtain ⟨E, ec, rfl, hec, hel, hE⟩ := zM hrow
 have hsl : (sortI l).length = l.length := jK l
 obtain ⟨ad, rfl, hbl, hc0⟩ := y7 (l := sortI l) hE i (by rw [hsl]; exact HI.out)
 have hm : (sortI l)[i]'(by rw [hsl]; exact HI.out) = midZ l i := by
  unfold midZ
  rw [List.getD_eq_getElem?_getD, List.getElem?_eq_getElem (show i < (sortZ l).length by rw [jw]; exact HI.out)]
  rfl
 rw [hm] at hc0
 have hi0 : (0 : Int) ≤ (i : Int) := by omega
 have hi1 : (i : Int) < (l.length : Int) := by have := HI.out; omega
 have G := zb g1 (zb g2 (g3.mono (by omega)))
 clear hm hrow hnil hE hc2 HD2
 go_wp2_with fail
 go_ret
 exact ⟨rfl, G⟩
/-- the middle one of as many as are needed -/
def mdV (f : Nat) (l : List Int) : Int := if l.length = 2 * f + 1 then midZ l f else 0
def mdE (f : Nat) (l : List Int) : Int := if l.length = 2 * f + 1 then 0 else 8
theorem zga {w : World} {b : Nat} {f : Int} (h : Ag w b (#[.int .i64 f] : Array Value).toList) : w.rangeAt b 0 [.int .i64 f] := h.cell
set_option maxRecDepth 100000 in
set_option maxHeartbeats 1000000 in
theorem zgb (f : Nat) (hf : 1 ≤ f ∧ f ≤ 3) (A : Option Addr) (c : Nat) (l : List Int) (hl : l.length ≤ 1048576) (hp : ∀ x ∈ l, in64 x) (w : World) (hr : Rd w w.heap.size A (i64L l)) :
 Calls Tryz.prog 38 #[.agg #[.int .i64 (f : Int)], .slice A l.length c] w fun e w' => e = .returned (.tuple #[.int .i64 (mdV f l), .int .i64 (mdE f l)]) ∧ Grew w w' := by
 have huf := Tryz.underlying47
 have HCF : Hid ((Tryz.prog.info? 47).map (·.size) = some [Value.int .i64 (f : Int)].length) := Lib.hid (by kernel_rfl)
 have CQ := Lib.hid (fun W => qq_ok (f : Int) (by omega) W)
 have zk := Ag.new w 47 #[.int .i64 (f : Int)]
 have G1 := zc (za w) (.cells #[.int .i64 (f : Int)] 47)
 have hm0 : (w.alloc (.cells #[.int .i64 (f : Int)] 47)).rangeAt w.heap.size 0 [.int .i64 (f : Int)] := zga zk
 have hc0 : (w.alloc (.cells #[.int .i64 (f : Int)] 47)).cell? ⟨w.heap.size, 0, none⟩ = some (.int .i64 (f : Int)) := by simp
 have hf0 : decide ((f : Int) < 0) = false := decide_eq_false (by omega)
 have HR := Lib.hid hr
 clear hr
 by_cases hq : l.length = 2 * f + 1
 ·have hV : Hid (mdV f l = midZ l f ∧ mdE f l = 0) := Lib.hid (by unfold mdV mdE; rw [if_pos hq, if_pos hq]; exact ⟨rfl, rfl⟩)
  have CR := Lib.hid (fun W hW => zjw A c l f hl (by omega) hp W hW)
  have e1 : decide (l.length ≤ f) = false := decide_eq_false (by omega)
  have e2 : ((l.length : Int) != 2 * (f : Int) + 1) = false := by simp; omega
  obtain ⟨nn, hnn⟩ : ∃ nn, 2 * (f : Int) + 1 = nn := ⟨_, rfl⟩
  rw [hnn] at CQ e2
  have hf0' : (f : Int) < (l.length : Int) := by omega
  clear hq hp hl hnn
  go_enter Tryz.func38, Tryz.ntmps38
  go_wp2_with (refine zn (by rfl) 47 (.tmp 2) rfl w.heap.size 0 rfl [.int .i64 (f : Int)] _ hm0 huf rfl HCF.out ?_)
  refine (CQ.out _).mono ?_
  rintro e w1 ⟨rfl, gg⟩
  have zk1 := zk.grew gg
  have G2 := zb G1 gg
  have hc1 : w1.cell? ⟨w.heap.size, 0, none⟩ = some (.int .i64 (f : Int)) := by simpa using zk1.cell 0 _ rfl
  clear hm0 hc0 zk zk1 gg CQ G1
  go_wp2_with fail
  refine (CR.out w1 (HR.out.gr G2)).mono ?_
  rintro e w2 ⟨rfl, gg⟩
  go_wp2_with fail
  go_ret2
  exact ⟨by rw [hV.out.1, hV.out.2]; rfl, zb G2 gg⟩
 ·have hV : Hid (mdV f l = 0 ∧ mdE f l = 8) := Lib.hid (by unfold mdV mdE; rw [if_neg hq, if_neg hq]; exact ⟨rfl, rfl⟩)
  by_cases hge : l.length ≤ f
  ·have e1 : decide (l.length ≤ f) = true := decide_eq_true (by omega)
   clear hq hp hl HR
   go_enter Tryz.func38, Tryz.ntmps38
   go_wp2_with fail
   go_ret2
   exact ⟨by rw [hV.out.1, hV.out.2]; rfl, G1⟩
  ·have e1 : decide (l.length ≤ f) = false := decide_eq_false (by omega)
   have e2 : ((l.length : Int) != 2 * (f : Int) + 1) = true := by simp; omega
   obtain ⟨nn, hnn⟩ : ∃ nn, 2 * (f : Int) + 1 = nn := ⟨_, rfl⟩
   rw [hnn] at CQ e2
   clear hq hp hl hnn hge HR
   go_enter Tryz.func38, Tryz.ntmps38
   go_wp2_with (refine zn (by rfl) 47 (.tmp 2) rfl w.heap.size 0 rfl [.int .i64 (f : Int)] _ hm0 huf rfl HCF.out ?_)
   refine (CQ.out _).mono ?_
   rintro e w1 ⟨rfl, gg⟩
   have G2 := zb G1 gg
   clear hm0 hc0 zk gg CQ G1
   go_wp2_with fail
   go_ret2
   exact ⟨by rw [hV.out.1, hV.out.2]; rfl, G2⟩
end Go.Proofs.YtpppegnojmnicaaGreatDoor
