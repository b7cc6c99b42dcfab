/- Trees: Path, Extends, Twin (mktrf.py). -/
import Derived.Test.YtbohmmcmlabcdaaDoorPay
import Derived.Test.YtbohmmcmlabcdaaDoorPar
import Derived.Test.YtbohmmcmlabcdaaDoorPas
import Derived.Laws.OwnMore
import Derived.Test.YtbohmmcmlabcdaaDoorPax
import Derived.Test.YtbohmmcmlabcdaaDoorPam
namespace Go.Proofs.YtbohmmcmlabcdaaDoor
set_option linter.unusedSimpArgs false
set_option linter.unusedVariables false
open Go.RowKit Go.Maps Go.Sort
set_option linter.unusedVariables false
set_option linter.unnecessarySimpa false
set_option linter.unusedSimpArgs false
theorem Way.inv {L : TL} {c : Nat} {s : List Nat} (h : Way L c (c :: s)) : (c = 0 ∧ s = []) ∨ (c ≠ 0 ∧ ∃ n, tget L c = some n ∧ Way L n.b.p s) := by
 cases h with
 | root h => exact .inl ⟨rfl, rfl⟩
 | step h1 h2 h3 => exact .inr ⟨h1, _, h2, h3⟩
theorem TreeS.lt {w : World} {t mb : Nat} {L : TL} (h : TreeS w t mb L) {d : Nat} {n : NB} (hg : tget L d = some n) : d < 18446744073709551616 := (h.ok _ (tget_mem hg)).1
theorem nb_field (n : NB) (W : World) : (Instr.field 33 (.agg #[.int .i64 n.b.v, .int .u64 n.b.p, .int .i64 n.b.qv, .int .u64 n.b.qb, .slice n.A 0 n.c, .int .i64 n.b.lo, .int .i64 n.b.hi, .slice n.A' 0 n.c']) 1).run Tryd.prog W = .ok (.int .u64 (n.b.p : Nat)) W := by kernel_rfl
set_option maxRecDepth 100000 in
set_option maxHeartbeats 1000000 in
theorem pclo_ok {t mb : Nat} {L : TL} (d : Nat) (n : NB) (hg : tget L d = some n) (bx : Nat) (w : World) (h : TreeS w t mb L) (hb : w.cell? ⟨bx, 0, none⟩ = some (.pointer (some ⟨t, 0, none⟩))) :
 Calls Tryd.prog 29 #[.int .u64 (d : Nat), .pointer (some ⟨bx, 0, none⟩)] w fun e w' => e = .returned (.tuple #[.int .u64 (n.b.p : Nat), .bool (decide (d ≠ 0))]) ∧ Grew w w' := by
 have hu := (h.look d).1
 rw [hg] at hu
 dsimp only [Option.getD] at hu
 have hc := h.cell
 have hown := h.own
 have hkey := dig_key d (h.lt hg)
 have hfd := fun W => nb_field n W
 have e1 : ((d : Int) != 0) = decide (d ≠ 0) := by by_cases hd : d = 0 <;> simp [hd]
 obtain ⟨zb, hzb⟩ : ∃ b, decide (d ≠ 0) = b := ⟨_, rfl⟩
 rw [hzb] at e1 ⊢
 clear h hg hzb
 go_enter Tryd.func29, Tryd.ntmps29
 go_wp2_with (at_lookup; refine wpList_lookup_held _ rfl _ _ 58 rfl 26 33 dig_law Tryd.underlying58 (nb_zero _) mb L.length _ rfl hown _ _ rfl hkey (.agg #[.int .i64 n.b.v, .int .u64 n.b.p, .int .i64 n.b.qv, .int .u64 n.b.qb, .slice n.A 0 n.c, .int .i64 n.b.lo, .int .i64 n.b.hi, .slice n.A' 0 n.c']) hu ?_)
 go_ret2
 exact ⟨rfl, grew_refl _⟩
def slLen : Value → Nat
 | .slice _ n _ => n
 | _ => 0
set_option maxRecDepth 100000 in
set_option maxHeartbeats 2000000 in
theorem walk_ok {t mb : Nat} {L : TL} (d : Nat) (l : List Nat) (hW : Way L d l) (hl : l.length ≤ 100000) (bx : Nat) (w : World) (h : TreeS w t mb L) (hb : w.cell? ⟨bx, 0, none⟩ = some (.pointer (some ⟨t, 0, none⟩))) :
 Calls Tryd.prog 28 #[.int .u64 (d : Nat), .func (.func 29) #[] #[.pointer (some ⟨bx, 0, none⟩)]] w fun e w' => ∃ v, e = .returned v ∧ w'.ownsRow w.heap.size 26 1 v l.length (u64L l) ∧ Grew w w' := by
 obtain ⟨i0, hi, hz0, hz1, hz2⟩ := info_parts infoD
 have HC : Hid (∀ W, Grew w W → ∀ c, (tget L c).isSome = true → Calls Tryd.prog 29 #[.int .u64 (c : Nat), .pointer (some ⟨bx, 0, none⟩)] W fun e w' => e = .returned (.tuple #[.int .u64 (((tget L c).getD bb0.z).b.p : Nat), .bool (decide (c ≠ 0))]) ∧ Grew W w') := Lib.hid (fun W g c hc => by
  cases hg : tget L c with
  | none => rw [hg] at hc; cases hc
  | some n =>
   refine pclo_ok c n hg bx W (h.gr g) ?_
   exact ltcell_gr hb g)
 have hown0 : (w.alloc (.cells #[.int .u64 (d : Nat)] 26)).ownsRow w.heap.size 26 1 (.slice (some ⟨w.heap.size, 0, none⟩) 1 1) 1 (u64L [d]) :=
  ⟨by simp [u64L], .inr ⟨w.heap.size, 1, #[.int .u64 (d : Nat)], rfl, Nat.le_refl _, heap_alloc_new w _, Nat.le_refl _, by unfold maxLen; omega, rfl, by simp [u64L]⟩⟩
 have G0 := grew_alloc (grew_refl w) (.cells #[.int .u64 (d : Nat)] 26)
 have CC := Lib.hid (HC.out _ G0 d hW.has)
 obtain ⟨pd, hpd⟩ : ∃ p, ((tget L d).getD bb0.z).b.p = p := ⟨_, rfl⟩
 obtain ⟨zb, hzb⟩ : ∃ b, decide (d ≠ 0) = b := ⟨_, rfl⟩
 rw [hpd, hzb] at CC
 have HPD := Lib.hid hpd
 have HZB := Lib.hid hzb
 have HL := Lib.hid hl
 have HW := Lib.hid hW
 clear h hb hW hl hpd hzb
 go_enter Tryd.func28, Tryd.ntmps28
 go_wp2_with fail
 refine (CC.out).mono ?_
 rintro e w1 ⟨rfl, g1⟩
 have G1 := grew_trans G0 g1
 have hown1 := ownsRow_gr hown0 g1
 clear CC G0 g1 hown0
 go_wp2_with fail
 go_loopw [5, 6, 7] (fun rv av bv wr => ∃ (p : Value) (r s : List Nat) (c : Nat) (b : Bool), p = rv ∧ l = r ++ s ∧ av = .int .u64 (c : Nat) ∧ bv = .bool b ∧ wr.ownsRow w.heap.size 26 1 p r.length (u64L r) ∧ Grew w wr ∧ (b = false → s = []) ∧ (b = true → Way L c s)) (fun rv _ _ _ => l.length - slLen rv)
 case atStart =>
  obtain ⟨s, hs⟩ := HW.out.head
  have hW := HW.out
  rw [hs] at hW
  refine ⟨_, [d], s, pd, zb, rfl, hs, rfl, rfl, hown1, G1, fun h => ?_, fun h => ?_⟩
  ·rw [← HZB.out] at h
   rcases hW.inv with ⟨_, h2⟩ | ⟨h1, _⟩
   ·exact h2
   ·exact absurd h1 (of_decide_eq_false h)
  ·rw [← HZB.out] at h
   rcases hW.inv with ⟨h1, _⟩ | ⟨_, n, h2, h3⟩
   ·exact absurd h1 (of_decide_eq_true h)
   ·rw [← HPD.out, h2]; exact h3
 case round =>
  clear hown1 G1
  obtain ⟨p, r, s, c, b, hp, hls, rfl, rfl, hrow, hg, hb0, hb1⟩ := hrel
  subst hp
  cases b
  ·have hs := hb0 rfl
   have hlr : l = r := by rw [hls, hs, List.append_nil]
   rw [← hlr] at hrow
   clear hls hb0 hb1 hs hlr
   go_wp2_with fail
   go_ret
   exact ⟨_, rfl, hrow, hg⟩
  ·have hW := hb1 rfl
   obtain ⟨s', hs⟩ := hW.head
   have hsome := hW.has
   rw [hs] at hW
   have hlen : l.length = r.length + (s'.length + 1) := by rw [hls, hs]; simp
   have HLN := Lib.hid hlen
   have HLS : Hid (l = (r ++ [c]) ++ s') := Lib.hid (by rw [hls, hs]; simp)
   have HWI := Lib.hid hW.inv
   have HSM := Lib.hid hsome
   have hrl : r.length < 100000 := by have := HL.out; omega
   clear hb0 hb1 hls hs hW hsome hlen
   have hsz := hg.size
   have HSL : Hid (slLen p = r.length) := Lib.hid (by obtain ⟨A2, c2, e2, _⟩ := own_rd hrow; rw [e2]; rfl)
   go_wp2_with (at_builtin; refine wpList_append_rd rfl (.tmp 23) (.tmp 25) 27 rfl w.heap.size 26 i0 (.int .u64 0) 8 Tryd.underlying27 hi hz0 hz1 hz2 rfl _ r.length _ rfl (hrow.alloc _) (wr.heap.size + 1) (some ⟨wr.heap.size, 0, none⟩) 1 1 [.int .u64 (c : Nat)] rfl rfl (rd_new wr 26 #[.int .u64 (c : Nat)] (0, 0)) (one_cell rfl) (by unfold maxLen; omega) (by omega) (by simp; omega) ?_; intro v' w5 hown5 hgrow5 _)
   have G5 := grew_put hg hgrow5 (own_base hrow)
   refine (HC.out _ G5 c HSM.out).mono ?_
   rintro e w6 ⟨rfl, g6⟩
   have hown6 := ownsRow_gr hown5 g6
   have G6 := grew_trans G5 g6
   clear hown5 hgrow5 hrow g6 G5 hg
   go_wp2_with fail
   go_roundw
   case rel =>
    refine ⟨_, r ++ [c], s', _, _, rfl, HLS.out, rfl, rfl, by simpa [u64L] using hown6, G6, fun h => ?_, fun h => ?_⟩
    ·rcases HWI.out with ⟨_, h2⟩ | ⟨h1, _⟩
     ·exact h2
     ·simp at h; exact absurd h h1
    ·rcases HWI.out with ⟨h1, _⟩ | ⟨_, n, h2, h3⟩
     ·simp at h; exact absurd h1 h
     ·rw [h2]; exact h3
   case measure =>
    obtain ⟨A1, c1, e1, _⟩ := own_rd hown6
    rw [e1, HSL.out]
    simp only [slLen]
    have := HLN.out
    omega
end Go.Proofs.YtbohmmcmlabcdaaDoor

namespace Go.Proofs.YtbohmmcmlabcdaaDoor
set_option linter.unusedSimpArgs false
set_option linter.unusedVariables false
open Go.RowKit Go.Maps Go.Sort
set_option linter.unusedVariables false
set_option linter.unnecessarySimpa false
set_option linter.unusedSimpArgs false
theorem own_openU {w : World} {base : Nat} {e : TypeId} {n g cap : Nat} {xs : List Value} (h : w.ownsRow base e 1 (.slice (some ⟨g, 0, none⟩) n cap) n xs) : base ≤ g ∧ ∃ cur, Bk w g e cur ∧ n ≤ cap ∧ cur.size = cap ∧ cur.toList.take n = xs := by
 obtain ⟨_, hq | ⟨g2, cap2, cur, hq, hg2, hbk, hk2, _, hcs, htk⟩⟩ := h
 ·cases hq.1
 ·injection hq with hq1 hq2 hq3
  injection hq1 with hq1
  injection hq1 with hq1
  subst hq1 hq3
  exact ⟨hg2, cur, hbk, hk2, by rw [hcs, Nat.mul_one], by rw [← htk, Nat.mul_one]⟩
theorem rev_rd {w w1 : World} {base g cap k : Nat} {l : List Nat} (h : w1.ownsRow base 26 1 (.slice (some ⟨g, 0, none⟩) l.length cap) l.length (u64L l)) :
 Holds digV w1 g 0 l.toArray ∧ Rd (putRow digV (Sort.ahead w1 k) g 0 l.reverse.toArray) (putRow digV (Sort.ahead w1 k) g 0 l.reverse.toArray).heap.size (some ⟨g, 0, none⟩) (u64L l.reverse) ∧ Kp (fun i => i = g) w1 (putRow digV (Sort.ahead w1 k) g 0 l.reverse.toArray) := by
 obtain ⟨hb, cur, hbk, hle, hcs, htk⟩ := own_openU h
 have hlt : g < w1.heap.size := hbk.lt
 replace hbk : w1.heap[g]? = some (.cells cur 26 (0, 0)) := hbk
 have hH : Holds digV w1 g 0 l.toArray := fun j hj => by
  have hj' : j < l.length := by simpa using hj
  have hjc : j < cur.size := by omega
  have e : cur[j]? = some (digV l[j]) := by
   have h1 : (cur.toList.take l.length)[j]? = (u64L l)[j]? := by rw [htk]
   rw [List.getElem?_take_of_lt hj'] at h1
   simpa [u64L, digV, hj'] using h1
  refine ⟨?_, by simp only [World.frozen?, hbk]; simp⟩
  simp only [World.cell?, hbk, Nat.zero_add, e]
  simp [hj']
 have hsz : (putRow digV (Sort.ahead w1 k) g 0 l.reverse.toArray).heap.size = w1.heap.size := by simp [putRow, mapBlock, Sort.ahead]
 refine ⟨hH, ?_, ?_⟩
 ·intro j hj
  have hj' : j < l.reverse.length := by simpa [u64L] using hj
  refine ⟨_, rfl, by rw [hsz]; exact hlt, ?_⟩
  have ha : (⟨g, 0, none⟩ : Addr).add j = ⟨g, 0 + j, none⟩ := by unfold Addr.add; split <;> simp_all
  rw [ha, cell?_putRow digV (Sort.ahead w1 k) g 0 l.toArray l.reverse.toArray (holds_ahead digV w1 k g 0 _ hH) (by simp) j (by simpa using hj')]
  have hj2 : j < l.length := by simpa using hj'
  simp [u64L, digV, hj2]
 ·refine ⟨rfl, rfl, rfl, by rw [hsz]; exact Nat.le_refl _, fun i hi hn => ?_⟩
  have hne : g ≠ i := fun e => hn e.symm
  simp [putRow, mapBlock, Sort.ahead, Array.getElem?_modify, hne]
set_option maxRecDepth 100000 in
set_option maxHeartbeats 1000000 in
theorem path_ok {t mb : Nat} {L : TL} (d : Nat) (l : List Nat) (hW : Way L d l) (hl : l.length ≤ 100000) (w : World) (h : TreeS w t mb L) :
 Calls Tryd.prog 13 #[.pointer (some ⟨t, 0, none⟩), .int .u64 (d : Nat)] w fun e w' => ∃ B c, e = .returned (.slice B l.length c) ∧ Rd w' w'.heap.size B (u64L l.reverse) ∧ l.length ≤ c ∧ Grew w w' := by
 have G0 := grew_alloc (grew_refl w) (.cells #[.pointer (some ⟨t, 0, none⟩)] 23)
 obtain ⟨nd, hnd⟩ := Option.isSome_iff_exists.1 hW.has
 have CH := Lib.hid (thas_ok d (h.lt hnd) _ (h.gr G0))
 rw [hnd] at CH
 dsimp only [Option.isSome] at CH
 have HW := Lib.hid hW
 have HL := Lib.hid hl
 have HT := Lib.hid (h.gr G0)
 have HB : Hid ((w.alloc (.cells #[.pointer (some ⟨t, 0, none⟩)] 23)).cell? ⟨w.heap.size, 0, none⟩ = some (.pointer (some ⟨t, 0, none⟩))) := Lib.hid (by simp)
 have hne : l.length ≠ 0 := fun e => hW.ne (List.length_eq_zero_iff.1 e)
 have HNE := Lib.hid hne
 clear h hnd hW hl hne
 go_enter Tryd.func13, Tryd.ntmps13
 go_wp2_with fail
 refine (CH.out).mono ?_
 rintro e w1 ⟨rfl, g1⟩
 have CW := Lib.hid (walk_ok d l HW.out HL.out w.heap.size w1 (HT.out.gr g1) (ltcell_gr HB.out g1))
 have G1 := grew_trans G0 g1
 clear CH HT HB G0 g1
 go_wp2_with fail
 refine (CW.out).mono ?_
 rintro e w2 ⟨v, rfl, hrow, g2⟩
 obtain ⟨g, cap, rfl⟩ : ∃ g cap, v = .slice (some ⟨g, 0, none⟩) l.length cap := by
  rcases hrow.2 with ⟨rfl, h0⟩ | ⟨g, cap, cur, rfl, _⟩
  ·exact absurd h0 HNE.out
  ·exact ⟨g, cap, rfl⟩
 have hgb := own_base hrow g rfl
 have G2 := grew_trans G1 g2
 have hcap : l.length ≤ cap := by obtain ⟨_, cur, _, hle, _⟩ := own_openU hrow; exact hle
 have CR := Lib.hid (rev_dig g 0 cap l w2 (rev_rd (w := w) (k := 0) hrow).1 (by have := HL.out; omega))
 have HROW := Lib.hid hrow
 have hs1 := G1.size
 clear CW hrow g2 G1
 go_wp2_with fail
 refine (CR.out).mono ?_
 rintro e w3 ⟨rfl, k, rfl⟩
 obtain ⟨_, hR, hK⟩ := rev_rd (w := w) (k := k) HROW.out
 have G3 : Grew w (putRow digV (Sort.ahead w2 k) g 0 l.reverse.toArray) := below_kp G2 hK G2.size (fun i e => by have e' : i = g := e; omega)
 clear CR HROW hK G2
 generalize putRow digV (Sort.ahead w2 k) g 0 l.reverse.toArray = w4 at *
 go_wp2_with fail
 go_ret
 exact ⟨_, _, rfl, hR, hcap, G3⟩
set_option maxRecDepth 100000 in
set_option maxHeartbeats 1000000 in
theorem index_ok (A : Option Addr) (c : Nat) (l : List Nat) (hl : l.length ≤ 100000) (x : Nat) (w : World) (hr : Rd w w.heap.size A (u64L l)) :
 Calls Tryd.prog 44 #[.slice A l.length c, .int .u64 (x : Nat)] w fun e w' => ∃ z : Int, e = .returned (.int .i64 z) ∧ decide (0 ≤ z) = decide (x ∈ l) ∧ Grew w w' := by
 go_enter Tryd.func44, Tryd.ntmps44
 go_wp2_with fail
 go_loopw [8] (fun iv wr => ∃ k : Nat, k ≤ l.length ∧ iv = .int .i64 (k : Int) ∧ x ∉ l.take k ∧ wr = w) (fun iv _ => l.length - (Go.RowKit.intOf iv).toNat)
 case atStart => exact ⟨0, Nat.zero_le _, rfl, by simp, rfl⟩
 case round =>
  obtain ⟨k, hk, rfl, hno, rfl⟩ := hrel
  by_cases hlt : k < l.length
  ·obtain ⟨ad, rfl, hbl, hc0⟩ := rd_u64 hr k hlt
   have hk0 : (0 : Int) ≤ (k : Int) := by omega
   have hk1 : (k : Int) < (l.length : Int) := by omega
   have e4 : IntKind.i64.wrap ((k : Int) + 1) = (k : Int) + 1 := IntWalk.i64_in _ (by omega)
   have HTS : Hid (l.take (k + 1) = l.take k ++ [l[k]]) := Lib.hid (by rw [List.take_succ_eq_append_getElem hlt])
   have HM : Hid (l[k] ∈ l) := Lib.hid (List.getElem_mem hlt)
   have HLT := Lib.hid hlt
   have HNO := Lib.hid hno
   generalize l[k] = y at *
   by_cases hxy : x = y
   ·have e1 : ((x : Int) == (y : Int)) = true := by simp [hxy]
    have HMX : Hid (decide (x ∈ l) = true) := Lib.hid (decide_eq_true (by rw [hxy]; exact HM.out))
    clear hxy hno hlt HTS HNO
    go_wp2_with fail
    go_ret
    exact ⟨(k : Int), rfl, by rw [HMX.out]; exact decide_eq_true hk0, grew_refl _⟩
   ·have e1 : ((x : Int) == (y : Int)) = false := by simp; omega
    have HXY := Lib.hid hxy
    clear hxy hno hlt
    go_wp2_with fail
    go_roundw
    case rel => exact ⟨k + 1, by have := HLT.out; omega, by go_num, by rw [HTS.out]; simp [HNO.out, HXY.out], by trivial⟩
    case measure => have := HLT.out; simp [Go.RowKit.intOf]; omega
  ·obtain rfl : k = l.length := by omega
   rw [List.take_length] at hno
   have HMX : Hid (decide (x ∈ l) = false) := Lib.hid (decide_eq_false hno)
   clear hno hlt
   go_wp2_with fail
   go_ret
   exact ⟨-1, rfl, by rw [HMX.out]; rfl, grew_refl _⟩
set_option maxRecDepth 100000 in
theorem contains_ok (A : Option Addr) (c : Nat) (l : List Nat) (hl : l.length ≤ 100000) (x : Nat) (w : World) (hr : Rd w w.heap.size A (u64L l)) :
 Calls Tryd.prog 27 #[.slice A l.length c, .int .u64 (x : Nat)] w fun e w' => e = .returned (.bool (decide (x ∈ l))) ∧ Grew w w' := by
 have CI := Lib.hid (index_ok A c l hl x w hr)
 generalize decide (x ∈ l) = b at *
 clear hr
 go_enter Tryd.func27, Tryd.ntmps27
 go_wp2_with fail
 refine (CI.out).mono ?_
 rintro e w1 ⟨z, rfl, hz, g1⟩
 go_wp2_with fail
 go_ret
 exact ⟨rfl, g1⟩
set_option maxRecDepth 100000 in
theorem ext_ok {t mb : Nat} {L : TL} (d x : Nat) (l : List Nat) (hW : Way L d l) (hl : l.length ≤ 100000) (w : World) (h : TreeS w t mb L) :
 Calls Tryd.prog 11 #[.pointer (some ⟨t, 0, none⟩), .int .u64 (d : Nat), .int .u64 (x : Nat)] w fun e w' => e = .returned (.bool (decide (x ∈ l))) ∧ Grew w w' := by
 have CP := Lib.hid (path_ok d l hW hl w h)
 have HL := Lib.hid hl
 have HE : Hid (decide (x ∈ l) = decide (x ∈ l.reverse)) := Lib.hid (by simp)
 rw [HE.out]
 clear h hW hl
 obtain ⟨b, hb⟩ : ∃ b, decide (x ∈ l.reverse) = b := ⟨_, rfl⟩
 rw [hb]
 have HBB := Lib.hid hb
 clear hb
 go_enter Tryd.func11, Tryd.ntmps11
 go_wp2_with fail
 refine (CP.out).mono ?_
 rintro e w1 ⟨B, c, rfl, hR, hc, g1⟩
 have CC := Lib.hid (contains_ok B c l.reverse (by have := HL.out; simpa using this) x w1 hR)
 rw [List.length_reverse, HBB.out] at CC
 clear CP hR
 go_wp2_with fail
 refine (CC.out).mono ?_
 rintro e w2 ⟨rfl, g2⟩
 have G2 := grew_trans g1 g2
 go_wp2_with fail
 go_ret
 exact ⟨rfl, G2⟩
set_option maxRecDepth 100000 in
set_option maxHeartbeats 1000000 in
theorem twin_ok {t mb : Nat} {L : TL} (w : World) (h : TreeS w t mb L) :
 Calls Tryd.prog 22 #[.pointer (some ⟨t, 0, none⟩)] w fun e w' => ∃ t2 mb2, e = .returned (.pointer (some ⟨t2, 0, none⟩)) ∧ TreeS w' t2 mb2 L ∧ w.heap.size ≤ t2 ∧ w.heap.size ≤ mb2 ∧ Grew w w' := by
 have hc := h.cell
 have CC := Lib.hid (clone_blk _ _ mb _ _ w h.own)
 have HTB : ∀ v, Hid (Tryd.prog.built 60 [(0, .map (some v))] = some #[.map (some v)]) := fun v => Lib.hid (by kernel_rfl)
 have HT := Lib.hid h
 clear h
 go_enter Tryd.func22, Tryd.ntmps22
 go_wp2_with fail
 refine (CC.out).mono ?_
 rintro e w1 ⟨rfl, ho1, ho2, g1⟩
 have hs1 := g1.size
 have hown3 := tr_ownsMap_gr ho1 (grew_alloc (grew_refl w1) (.cells #[.map (some w.heap.size)] 60))
 have zp := Ag.new w1 60 #[.map (some w.heap.size)]
 clear ho1 ho2 CC hc
 go_wp2_with (with_reducible refine ltbuild_is rfl 60 #[(0, .tmp 7)] rfl #[.map (some w.heap.size)] ?_ ?_; simpa [Act.eval, Act.put] using (HTB w.heap.size).out)
 go_ret
 exact ⟨w1.heap.size, w.heap.size, rfl, ⟨zp, hown3, HT.out.nd, HT.out.ok, HT.out.len⟩, hs1, Nat.le_refl _, grew_alloc g1 _⟩
end Go.Proofs.YtbohmmcmlabcdaaDoor

namespace Go.Proofs.YtbohmmcmlabcdaaDoor
set_option linter.unusedSimpArgs false
set_option linter.unusedVariables false
open Go.RowKit Go.Maps
set_option linter.unusedVariables false
set_option linter.unnecessarySimpa false
abbrev BL := List (Nat × BB)
def bl (L : TL) : BL := L.map fun x => (x.1, x.2.b)
def bget : BL → Nat → Option BB
 | [], _ => none
 | x :: r, d => if x.1 = d then some x.2 else bget r d
theorem bget_bl (L : TL) (d : Nat) : bget (bl L) d = (tget L d).map (·.b) := by
 induction L with
 | nil => rfl
 | cons x r ih =>
  show (if x.1 = d then some x.2.b else bget (bl r) d) = _
  simp only [tget]
  split
  ·rfl
  ·exact ih
/-- a tree has these blocks -/
def TreeB (w : World) (t mb : Nat) (K : BL) : Prop := ∃ L, TreeS w t mb L ∧ bl L = K
theorem TreeB.gr {w w' : World} {t mb : Nat} {K : BL} (h : TreeB w t mb K) (g : Grew w w') : TreeB w' t mb K := by
 obtain ⟨L, h1, h2⟩ := h
 exact ⟨L, h1.gr g, h2⟩
theorem TreeS.size_eq {w : World} {t mb : Nat} {L M : TL} (h : TreeS w t mb L) (h2 : TreeS w t mb M) : L.length = M.length := by
 have e1 := (trD_facts L h.nd).2.1
 have e2 := (trD_facts M h2.nd).2.1
 obtain ⟨es, ck, hb, F, _, hD⟩ := h.own
 obtain ⟨es2, ck2, hb2, F2, _, hD2⟩ := h2.own
 rw [hb] at hb2
 injection hb2 with hb2
 injection hb2 with e3 e4
 subst e3
 rw [← e1, ← e2, hD, hD2]
theorem TreeB.size_eq {w : World} {t mb : Nat} {K M : BL} (h : TreeB w t mb K) (h2 : TreeB w t mb M) : K.length = M.length := by
 obtain ⟨L1, a1, a2⟩ := h
 obtain ⟨L2, b1, b2⟩ := h2
 rw [← a2, ← b2]
 simp [bl, a1.size_eq b1]
theorem TreeB.ne {w : World} {t mb : Nat} {K : BL} (h : TreeB w t mb K) : t ≠ mb := by
 obtain ⟨L, h1, _⟩ := h
 intro e
 obtain ⟨es, ck, hb', _⟩ := h1.own
 have := h1.cell
 rw [e] at this
 simp [World.cell?, hb'] at this
theorem TreeB.lt {w : World} {t mb : Nat} {K : BL} (h : TreeB w t mb K) : t < w.heap.size ∧ mb < w.heap.size := by
 obtain ⟨L, h1, _⟩ := h
 exact ⟨h1.ptr.lt, h1.own.lt⟩
theorem TreeB.kp {w w' : World} {t mb : Nat} {K : BL} {S : Nat → Prop} (h : TreeB w t mb K) (k : Kp S w w') (h1 : ¬ S t) (h2 : ¬ S mb) : TreeB w' t mb K := by
 obtain ⟨L, h3, h4⟩ := h
 refine ⟨L, ⟨h3.ptr.kp k h1, ?_, h3.nd, h3.ok, h3.len⟩, h4⟩
 have hb := h3.own.lt
 obtain ⟨es, clock, e1, Ft, hs, hD⟩ := h3.own
 exact ⟨es, clock, (k.block mb hb h2).trans e1, Ft, hs, hD⟩
theorem bl_none {L : TL} {d : Nat} (h : bget (bl L) d = none) : tget L d = none := by
 rw [bget_bl] at h
 cases hg : tget L d with
 | none => rfl
 | some n => rw [hg] at h; cases h
theorem bl_some {L : TL} {d : Nat} {b : BB} (h : bget (bl L) d = some b) : ∃ n, tget L d = some n ∧ n.b = b := by
 rw [bget_bl] at h
 cases hg : tget L d with
 | none => rw [hg] at h; cases h
 | some n => rw [hg] at h; simp at h; exact ⟨n, rfl, h⟩
inductive WayB (K : BL) : Nat → List Nat → Prop
 | root : (bget K 0).isSome = true → WayB K 0 [0]
 | step {d : Nat} {b : BB} {l : List Nat} : d ≠ 0 → bget K d = some b → WayB K b.p l → WayB K d (d :: l)
theorem WayB.way {L : TL} {d : Nat} {l : List Nat} (h : WayB (bl L) d l) : Way L d l := by
 induction h with
 | root h =>
  refine .root ?_
  rw [bget_bl] at h
  cases hg : tget L 0 with
  | none => rw [hg] at h; cases h
  | some n => rfl
 | step h1 h2 _ ih =>
  obtain ⟨n, hn, rfl⟩ := bl_some h2
  exact .step h1 hn ih
theorem newB (w : World) : Calls Tryd.prog 7 #[] w fun e w' => ∃ t mb, e = .returned (.pointer (some ⟨t, 0, none⟩)) ∧ TreeB w' t mb [(0, bb0)] ∧ w.heap.size ≤ t ∧ w.heap.size ≤ mb ∧ Grew w w' :=
 (tnew_ok w).mono fun e w' ⟨t, mb, h1, h2, h3, h4, _, h5⟩ => ⟨t, mb, h1, ⟨_, h2, rfl⟩, h3, h4, h5⟩
theorem addB_yes {t mb : Nat} {K : BL} (n : NB) (hn : n.b.ok) (d : Nat) (hd : blkD n.b = d) (q : BB) (h1 : bget K d = none) (h2 : bget K n.b.p = some q) (h3 : q.v < n.b.v) (h4 : n.b.lo = q.hi) (hl : K.length < 100000) (w : World) (hS : Std w) (h : TreeB w t mb K) :
 Calls Tryd.prog 9 #[.pointer (some ⟨t, 0, none⟩), .agg n.C] w fun e w' => e = .returned (.int .i64 0) ∧ TreeB w' t mb (K ++ [(d, n.b)]) ∧ Kp (fun i => i = mb) w w' := by
 obtain ⟨L, hT, rfl⟩ := h
 have hE : addE L n.b = 0 := by
  unfold addE
  rw [hd, bl_none h1]
  obtain ⟨m, hm, rfl⟩ := bl_some h2
  rw [hm]
  dsimp only
  rw [if_neg (by omega), if_pos h4]
 refine (tadd_ok n hn (by simpa [bl] using hl) w hS hT).mono ?_
 rintro e w' ⟨m, hm, rfl, hT', hk⟩
 rw [hE] at hT' ⊢
 exact ⟨rfl, ⟨_, hT', by rw [show addL 0 L (blkD n.b, m) = L ++ [(blkD n.b, m)] from if_pos rfl]; simp [bl, hm, hd]⟩, hk⟩
theorem addB_no {t mb : Nat} {K : BL} (n : NB) (hn : n.b.ok) (d : Nat) (hd : blkD n.b = d) (E : Int) (hE0 : E ≠ 0)
 (hE : (∃ x, bget K d = some x ∧ E = 5) ∨ (bget K d = none ∧ bget K n.b.p = none ∧ E = 11) ∨ (∃ q, bget K d = none ∧ bget K n.b.p = some q ∧ n.b.v ≤ q.v ∧ E = 12) ∨ (∃ q, bget K d = none ∧ bget K n.b.p = some q ∧ q.v < n.b.v ∧ n.b.lo ≠ q.hi ∧ E = 10)) (hl : K.length < 100000) (w : World) (hS : Std w) (h : TreeB w t mb K) :
 Calls Tryd.prog 9 #[.pointer (some ⟨t, 0, none⟩), .agg n.C] w fun e w' => e = .returned (.int .i64 E) ∧ TreeB w' t mb K ∧ Kp (fun i => i = mb) w w' := by
 obtain ⟨L, hT, rfl⟩ := h
 have hE : addE L n.b = E := by
  unfold addE
  rw [hd]
  rcases hE with ⟨x, h1, h2⟩ | ⟨h1, h2, h3⟩ | ⟨q, h1, h2, h3, h4⟩ | ⟨q, h1, h2, h3, h4, h5⟩
  ·obtain ⟨m, hm, _⟩ := bl_some h1
   rw [hm]; exact h2.symm
  ·rw [bl_none h1, bl_none h2]; exact h3.symm
  ·obtain ⟨m, hm, rfl⟩ := bl_some h2
   rw [bl_none h1, hm]
   dsimp only
   rw [if_pos h3]; exact h4.symm
  ·obtain ⟨m, hm, rfl⟩ := bl_some h2
   rw [bl_none h1, hm]
   dsimp only
   rw [if_neg (by omega), if_neg h4]; exact h5.symm
 refine (tadd_ok n hn (by simpa [bl] using hl) w hS hT).mono ?_
 rintro e w' ⟨m, hm, rfl, hT', hk⟩
 rw [hE] at hT' ⊢
 exact ⟨rfl, ⟨_, hT', by rw [show addL E L (blkD n.b, m) = L from if_neg hE0]⟩, hk⟩
theorem extB {t mb : Nat} {K : BL} (d x : Nat) (l : List Nat) (hW : WayB K d l) (hl : l.length ≤ 100000) (w : World) (h : TreeB w t mb K) :
 Calls Tryd.prog 11 #[.pointer (some ⟨t, 0, none⟩), .int .u64 (d : Nat), .int .u64 (x : Nat)] w fun e w' => e = .returned (.bool (decide (x ∈ l))) ∧ Grew w w' := by
 obtain ⟨L, hT, rfl⟩ := h
 exact ext_ok d x l hW.way hl w hT
theorem pathB {t mb : Nat} {K : BL} (d : Nat) (l : List Nat) (hW : WayB K d l) (hl : l.length ≤ 100000) (w : World) (h : TreeB w t mb K) :
 Calls Tryd.prog 13 #[.pointer (some ⟨t, 0, none⟩), .int .u64 (d : Nat)] w fun e w' => ∃ B c, e = .returned (.slice B l.length c) ∧ Rd w' w'.heap.size B (u64L l.reverse) ∧ l.length ≤ c ∧ Grew w w' := by
 obtain ⟨L, hT, rfl⟩ := h
 exact path_ok d l hW.way hl w hT
theorem getB_some {t mb : Nat} {K : BL} (d : Nat) (hd : d < 18446744073709551616) (b : BB) (hg : bget K d = some b) (w : World) (h : TreeB w t mb K) :
 Calls Tryd.prog 21 #[.pointer (some ⟨t, 0, none⟩), .int .u64 (d : Nat)] w fun e w' => ∃ m : NB, m.b = b ∧ e = .returned (.tuple #[.agg m.C, .bool true]) ∧ Grew w w' := by
 obtain ⟨L, hT, rfl⟩ := h
 obtain ⟨n, hn, rfl⟩ := bl_some hg
 exact tget_some_ok d hd n hn w hT
theorem lenB {t mb : Nat} {K : BL} (w : World) (h : TreeB w t mb K) : Calls Tryd.prog 12 #[.pointer (some ⟨t, 0, none⟩)] w fun e w' => e = .returned (.int .i64 (K.length : Int)) ∧ Grew w w' := by
 obtain ⟨L, hT, rfl⟩ := h
 have := tlen_ok w hT
 rwa [show (bl L).length = L.length by simp [bl]]
theorem twinB {t mb : Nat} {K : BL} (w : World) (h : TreeB w t mb K) : Calls Tryd.prog 22 #[.pointer (some ⟨t, 0, none⟩)] w fun e w' => ∃ t2 mb2, e = .returned (.pointer (some ⟨t2, 0, none⟩)) ∧ TreeB w' t2 mb2 K ∧ w.heap.size ≤ t2 ∧ w.heap.size ≤ mb2 ∧ Grew w w' := by
 obtain ⟨L, hT, rfl⟩ := h
 exact (twin_ok w hT).mono fun e w' ⟨t2, mb2, h1, h2, h3⟩ => ⟨t2, mb2, h1, ⟨L, h2, rfl⟩, h3⟩
end Go.Proofs.YtbohmmcmlabcdaaDoor

namespace Go.Proofs.YtbohmmcmlabcdaaDoor
set_option linter.unusedSimpArgs false
set_option linter.unusedVariables false
open Go.RowKit Go.Maps
set_option linter.unusedVariables false
set_option linter.unnecessarySimpa false
set_option linter.unusedSimpArgs false
/-- the last three of a way -/
theorem rd_last3 {w : World} {B : Nat} {A : Option Addr} {d d1 d2 : Nat} {r : List Nat} (h : Rd w B A (u64L ((d :: d1 :: d2 :: r).reverse))) :
 ∃ ad, A = some ad ∧ ad.block < B ∧ w.cell? (ad.add (r.length + 2)) = some (.int .u64 (d : Nat)) ∧ w.cell? (ad.add (r.length + 1)) = some (.int .u64 (d1 : Nat)) ∧ w.cell? (ad.add r.length) = some (.int .u64 (d2 : Nat)) := by
 obtain ⟨ad, h1, h2, h3⟩ := rd_u64 h (r.length + 2) (by simp)
 obtain ⟨a1, k1, _, h4⟩ := rd_u64 h (r.length + 1) (by simp)
 obtain ⟨a2, k2, _, h5⟩ := rd_u64 h r.length (by simp)
 rw [h1] at k1 k2
 injection k1 with k1
 injection k2 with k2
 subst k1 k2
 refine ⟨ad, h1, h2, ?_, ?_, ?_⟩
 ·rw [h3]; simp
 ·rw [h4]; simp
 ·rw [h5]; simp
theorem cellA_gr {w w' : World} {a : Addr} {v : Value} (h : w.cell? a = some v) (hl : a.block < w.heap.size) (g : Grew w w') : w'.cell? a = some v := by
 rw [← h]
 exact World.cell?_of_block (g.block _ hl)
theorem addr_block (a : Addr) (k : Nat) : (a.add k).block = a.block := by unfold Addr.add; split <;> rfl
theorem nbc_head (n : NB) : n.C.toList[0]? = some (.int .i64 n.b.v) := rfl
theorem nbc_size (n : NB) : n.C.size = 8 := rfl
set_option maxRecDepth 100000 in
set_option maxHeartbeats 1000000 in
theorem commit_short {t mb : Nat} {L : TL} (d : Nat) (l : List Nat) (hW : Way L d l) (hl : l.length < 4) (w : World) (h : TreeS w t mb L) :
 Calls Tryd.prog 14 #[.pointer (some ⟨t, 0, none⟩), .int .u64 (d : Nat)] w fun e w' => e = .returned (.tuple #[.int .u64 0, .bool false]) ∧ Grew w w' := by
 have CP := Lib.hid (path_ok d l hW (by omega) w h)
 obtain ⟨N, hN⟩ : ∃ N, l.length = N := ⟨_, rfl⟩
 rw [hN] at CP hl
 have hl4 : (N : Int) < 4 := by omega
 clear h hW hN hl
 go_enter Tryd.func14, Tryd.ntmps14
 go_wp2_with fail
 refine (CP.out).mono ?_
 rintro e w1 ⟨B, c, rfl, hR, hc, g1⟩
 clear hR hc CP
 go_wp2_with fail
 go_ret2
 exact ⟨rfl, g1⟩
set_option maxRecDepth 100000 in
set_option maxHeartbeats 4000000 in
theorem commit_long {t mb : Nat} {L : TL} (d0 d1 d2 : Nat) (r : List Nat) (n0 n1 n2 : NB) (hW : Way L d0 (d0 :: d1 :: d2 :: r)) (hr : r ≠ []) (hl : r.length < 100000 - 3)
 (g0 : tget L d0 = some n0) (g1 : tget L d1 = some n1) (g2 : tget L d2 = some n2) (s1 : -1000000 ≤ n1.b.v ∧ n1.b.v ≤ 1000000) (s2 : -1000000 ≤ n2.b.v ∧ n2.b.v ≤ 1000000)
 (z : Bool) (hz : (decide (n0.b.v = n1.b.v + 1) && decide (n1.b.v = n2.b.v + 1)) = z) (w : World) (h : TreeS w t mb L) :
 Calls Tryd.prog 14 #[.pointer (some ⟨t, 0, none⟩), .int .u64 (d0 : Nat)] w fun e w' => e = .returned (.tuple #[.int .u64 ((bif z then d2 else 0 : Nat) : Nat), .bool z]) ∧ Grew w w' := by
 have CP := Lib.hid (path_ok d0 (d0 :: d1 :: d2 :: r) hW (by simp; omega) w h)
 have hr0 : r.length ≠ 0 := fun e => hr (List.length_eq_zero_iff.1 e)
 obtain ⟨N, hN⟩ : ∃ N, (d0 :: d1 :: d2 :: r).length = N := ⟨_, rfl⟩
 rw [hN] at CP
 have HRR := Lib.hid (fun (W : World) (B : Nat) (A : Option Addr) (h : Rd W B A (u64L ((d0 :: d1 :: d2 :: r).reverse))) => rd_last3 h)
 obtain ⟨i0, hi0⟩ : ∃ i, r.length + 2 = i := ⟨_, rfl⟩
 obtain ⟨i1, hi1⟩ : ∃ i, r.length + 1 = i := ⟨_, rfl⟩
 obtain ⟨i2, hi2⟩ : ∃ i, r.length = i := ⟨_, rfl⟩
 rw [hi0, hi1, hi2] at HRR
 have hN' : N = r.length + 3 := by rw [← hN]; simp
 have hn4 : ¬ (N : Int) < 4 := by omega
 have HN4 := Lib.hid hn4
 have HE0 : Hid (IntKind.i64.wrap ((N : Int) - 1) = (i0 : Int)) := Lib.hid (by rw [IntWalk.i64_in _ (by omega)]; omega)
 have HE1 : Hid (IntKind.i64.wrap ((N : Int) - 2) = (i1 : Int)) := Lib.hid (by rw [IntWalk.i64_in _ (by omega)]; omega)
 have HE2 : Hid (IntKind.i64.wrap ((N : Int) - 3) = (i2 : Int)) := Lib.hid (by rw [IntWalk.i64_in _ (by omega)]; omega)
 have HP0 : Hid ((0 : Int) ≤ (i0 : Int)) := Lib.hid (by omega)
 have HP1 : Hid ((0 : Int) ≤ (i1 : Int)) := Lib.hid (by omega)
 have HP2 : Hid ((0 : Int) ≤ (i2 : Int)) := Lib.hid (by omega)
 have HL0 : Hid ((i0 : Int) < (N : Int)) := Lib.hid (by omega)
 have HL1 : Hid ((i1 : Int) < (N : Int)) := Lib.hid (by omega)
 have HL2 : Hid ((i2 : Int) < (N : Int)) := Lib.hid (by omega)
 have HK0 := Lib.hid (dig_key d0 (h.lt g0))
 have HK1 := Lib.hid (dig_key d1 (h.lt g1))
 have HK2 := Lib.hid (dig_key d2 (h.lt g2))
 have HU0 : Hid ((trD L).atKey (.int .u64 (d0 : Nat)) (.held (.agg bb0.z.C)) = .held (.agg n0.C)) := Lib.hid (by have := (h.look d0).1; rwa [g0] at this)
 have HU1 : Hid ((trD L).atKey (.int .u64 (d1 : Nat)) (.held (.agg bb0.z.C)) = .held (.agg n1.C)) := Lib.hid (by have := (h.look d1).1; rwa [g1] at this)
 have HU2 : Hid ((trD L).atKey (.int .u64 (d2 : Nat)) (.held (.agg bb0.z.C)) = .held (.agg n2.C)) := Lib.hid (by have := (h.look d2).1; rwa [g2] at this)
 have HS0 := Lib.hid (nbc_size n0)
 have HS1 := Lib.hid (nbc_size n1)
 have HS2 := Lib.hid (nbc_size n2)
 have HON0 := Lib.hid n0.one
 have HON1 := Lib.hid n1.one
 have HON2 := Lib.hid n2.one
 have HH0 := Lib.hid (nbc_head n0)
 have HH1 := Lib.hid (nbc_head n1)
 have HH2 := Lib.hid (nbc_head n2)
 have HIN0 : Hid ((Tryd.prog.info? 33).map (·.size) = some n0.C.size) := Lib.hid nb_info
 have HIN1 : Hid ((Tryd.prog.info? 33).map (·.size) = some n1.C.size) := Lib.hid nb_info
 have HIN2 : Hid ((Tryd.prog.info? 33).map (·.size) = some n2.C.size) := Lib.hid nb_info
 generalize n0.C = c0 at *
 generalize n1.C = c1 at *
 generalize n2.C = c2 at *
 generalize n0.b.v = v0 at *
 generalize n1.b.v = v1 at *
 generalize n2.b.v = v2 at *
 have HW1 : Hid (IntKind.i64.wrap (v1 + 1) = v1 + 1) := Lib.hid (IntWalk.i64_in _ (by omega))
 have HW2 : Hid (IntKind.i64.wrap (v2 + 1) = v2 + 1) := Lib.hid (IntWalk.i64_in _ (by omega))
 have HZ := Lib.hid hz
 have HT := Lib.hid h
 clear h hW hr hr0 hN hN' hi0 hi1 hi2 g0 g1 g2 s1 s2 hz hl hn4
 go_enter Tryd.func14, Tryd.ntmps14
 go_wp2_with fail
 refine (CP.out).mono ?_
 rintro e w1 ⟨B, c, rfl, hR, hc, g1⟩
 obtain ⟨ad, rfl, hab, k0, k1, k2⟩ := HRR.out _ _ _ hR
 have HT1 := Lib.hid (HT.out.gr g1)
 have HG1 := Lib.hid g1
 have HCT : Hid (∀ y, Grew w1 y → y.cell? ⟨t, 0, none⟩ = some (.map (some mb))) := Lib.hid (fun y g => (HT1.out.gr g).cell)
 have HOW : Hid (∀ y, Grew w1 y → y.ownsMap Tryd.prog 26 heldR mb L.length (trD L)) := Lib.hid (fun y g => (HT1.out.gr g).own)
 have HCD0 : Hid (∀ y, Grew w1 y → y.cell? (ad.add i0) = some (.int .u64 (d0 : Nat))) := Lib.hid (fun y g => cellA_gr k0 (by rw [addr_block]; exact hab) g)
 have HCD1 : Hid (∀ y, Grew w1 y → y.cell? (ad.add i1) = some (.int .u64 (d1 : Nat))) := Lib.hid (fun y g => cellA_gr k1 (by rw [addr_block]; exact hab) g)
 have HCD2 : Hid (∀ y, Grew w1 y → y.cell? (ad.add i2) = some (.int .u64 (d2 : Nat))) := Lib.hid (fun y g => cellA_gr k2 (by rw [addr_block]; exact hab) g)
 clear HRR hR hc k0 k1 k2 hab CP HT g1 HT1
 have hn4 := HN4.out
 go_upto_region 5 with fail
 clear hn4
 refine wp_region_mk 35 30 33 3 (#[.int .i64 0, .int .u64 0, .int .i64 0, .int .u64 0, .slice none 0 0, .int .i64 0, .int .i64 0, .slice none 0 0] : Array Value) 33 (fun ix9 => match ix9 with
  | 0 => c0.toList
  | 1 => c1.toList
  | _ => c2.toList) (fun ix9 => match ix9 with
  | 0 => fun v _ => v = .pointer (some ⟨t, 0, none⟩)
  | 1 => fun v _ => v = .pointer (some ⟨t, 0, none⟩)
  | 2 => fun v _ => v = .pointer (some ⟨t, 0, none⟩)
  | 3 => fun v _ => v = .map (some mb)
  | 4 => fun v _ => v = .slice (some ad) N c
  | 5 => fun v _ => v = .int .i64 (N : Int)
  | 6 => fun v _ => v = .int .i64 (i0 : Int)
  | 7 => fun v _ => v = .pointer (some (ad.add i0))
  | 8 => fun v _ => v = .int .u64 (d0 : Nat)
  | 9 => fun v _ => v = .agg c0
  | 10 => fun v _ => v = .pointer (some ⟨t, 0, none⟩)
  | 11 => fun v _ => v = .pointer (some ⟨t, 0, none⟩)
  | 12 => fun v _ => v = .pointer (some ⟨t, 0, none⟩)
  | 13 => fun v _ => v = .map (some mb)
  | 14 => fun v _ => v = .slice (some ad) N c
  | 15 => fun v _ => v = .int .i64 (N : Int)
  | 16 => fun v _ => v = .int .i64 (i1 : Int)
  | 17 => fun v _ => v = .pointer (some (ad.add i1))
  | 18 => fun v _ => v = .int .u64 (d1 : Nat)
  | 19 => fun v _ => v = .agg c1
  | 20 => fun v _ => v = .pointer (some ⟨t, 0, none⟩)
  | 21 => fun v _ => v = .pointer (some ⟨t, 0, none⟩)
  | 22 => fun v _ => v = .pointer (some ⟨t, 0, none⟩)
  | 23 => fun v _ => v = .map (some mb)
  | 24 => fun v _ => v = .slice (some ad) N c
  | 25 => fun v _ => v = .int .i64 (N : Int)
  | 26 => fun v _ => v = .int .i64 (i2 : Int)
  | 27 => fun v _ => v = .pointer (some (ad.add i2))
  | 28 => fun v _ => v = .int .u64 (d2 : Nat)
  | 29 => fun v _ => v = .agg c2
  | _ => fun _ _ => True) (by kernel_rfl) (by kernel_rfl) (by decide) ?_ ?_ ?_ ?_ ?_
 ·intro x
  match x with
  | 0 => simp [HS0.out]
  | 1 => simp [HS1.out]
  | x + 2 => simp [HS2.out]
 ·intro i v x y h hg
  match i, h with
  | 0, h | 1, h | 2, h | 3, h | 4, h | 5, h | 6, h | 7, h | 8, h | 9, h | 10, h | 11, h | 12, h | 13, h | 14, h | 15, h | 16, h | 17, h | 18, h | 19, h | 20, h | 21, h | 22, h | 23, h | 24, h | 25, h | 26, h | 27, h | 28, h | 29, h => exact h
  | 30, _ => trivial
  | 31, _ => trivial
  | 32, _ => trivial
  | 33, _ => trivial
  | 34, _ => trivial
  | m + 35, _ => trivial
 ·intro i hi hk v x
  match i, hi, hk with
  | 0, _, hk => exact absurd rfl hk
  | 1, _, hk => exact absurd rfl hk
  | 2, _, hk => exact absurd rfl hk
  | 3, _, hk => exact absurd rfl hk
  | 4, _, hk => exact absurd rfl hk
  | 5, _, hk => exact absurd rfl hk
  | 6, _, hk => exact absurd rfl hk
  | 7, _, hk => exact absurd rfl hk
  | 8, _, hk => exact absurd rfl hk
  | 9, _, hk => exact absurd rfl hk
  | 10, _, hk => exact absurd rfl hk
  | 11, _, hk => exact absurd rfl hk
  | 12, _, hk => exact absurd rfl hk
  | 13, _, hk => exact absurd rfl hk
  | 14, _, hk => exact absurd rfl hk
  | 15, _, hk => exact absurd rfl hk
  | 16, _, hk => exact absurd rfl hk
  | 17, _, hk => exact absurd rfl hk
  | 18, _, hk => exact absurd rfl hk
  | 19, _, hk => exact absurd rfl hk
  | 20, _, hk => exact absurd rfl hk
  | 21, _, hk => exact absurd rfl hk
  | 22, _, hk => exact absurd rfl hk
  | 23, _, hk => exact absurd rfl hk
  | 24, _, hk => exact absurd rfl hk
  | 25, _, hk => exact absurd rfl hk
  | 26, _, hk => exact absurd rfl hk
  | 27, _, hk => exact absurd rfl hk
  | 28, _, hk => exact absurd rfl hk
  | 29, _, hk => exact absurd rfl hk
  | 30, _, _ => trivial
  | 31, _, _ => trivial
  | 32, _, _ => trivial
  | 33, _, _ => trivial
  | 34, _, _ => trivial
  | m + 35, hi, _ => omega
 ·refine ⟨?_, ?_, ?_, ?_, ?_, ?_, ?_, ?_, ?_, ?_, ?_, ?_, ?_, ?_, ?_, ?_, ?_, ?_, ?_, ?_, ?_, ?_, ?_, ?_, ?_, ?_, ?_, ?_, ?_, ?_, ?_, ?_, ?_, ?_, ?_, trivial⟩
  ·refine mk0 rfl ?_
   intro vs y hg hd
   replace hg : Grew w1 y := below_kp (grew_refl _) hg (Nat.le_refl _) (fun i h => h)
   simp only [actOf, tk1, tk0, dr1, dr0, Act.put, si1, st1, st0, Nat.reduceAdd]
   go_wp2_with fail
   exact ⟨rfl, _, rfl, grew_refl _, rfl⟩
  ·refine mk0 rfl ?_
   intro vs y hg hd
   replace hg : Grew w1 y := below_kp (grew_refl _) hg (Nat.le_refl _) (fun i h => h)
   obtain ⟨h0, _⟩ := hd
   replace h0 := h0 rfl
   simp only [actOf, tk1, tk0, dr1, dr0, Act.put, si1, st1, st0, Nat.reduceAdd]
   rw [show vs 0 = _ from h0]
   go_wp2_with fail
   exact ⟨rfl, _, rfl, grew_refl _, rfl⟩
  ·refine mk0 rfl ?_
   intro vs y hg hd
   replace hg : Grew w1 y := below_kp (grew_refl _) hg (Nat.le_refl _) (fun i h => h)
   obtain ⟨h1, _⟩ := hd
   replace h1 := h1 rfl
   simp only [actOf, tk1, tk0, dr1, dr0, Act.put, si1, st1, st0, Nat.reduceAdd]
   rw [show vs 1 = _ from h1]
   go_wp2_with fail
   exact ⟨rfl, _, rfl, grew_refl _, rfl⟩
  ·refine mk0 rfl ?_
   intro vs y hg hd
   replace hg : Grew w1 y := below_kp (grew_refl _) hg (Nat.le_refl _) (fun i h => h)
   obtain ⟨h2, _⟩ := hd
   replace h2 := h2 rfl
   simp only [actOf, tk1, tk0, dr1, dr0, Act.put, si1, st1, st0, Nat.reduceAdd]
   rw [show vs 2 = _ from h2]
   have hc := HCT.out y hg
   go_wp2_with fail
   exact ⟨rfl, _, rfl, grew_refl _, rfl⟩
  ·refine mk0 rfl ?_
   intro vs y hg hd
   replace hg : Grew w1 y := below_kp (grew_refl _) hg (Nat.le_refl _) (fun i h => h)
   simp only [actOf, tk1, tk0, dr1, dr0, Act.put, si1, st1, st0, Nat.reduceAdd]
   go_wp2_with fail
   exact ⟨rfl, _, rfl, grew_refl _, rfl⟩
  ·refine mk0 rfl ?_
   intro vs y hg hd
   replace hg : Grew w1 y := below_kp (grew_refl _) hg (Nat.le_refl _) (fun i h => h)
   simp only [actOf, tk1, tk0, dr1, dr0, Act.put, si1, st1, st0, Nat.reduceAdd]
   go_wp2_with fail
   exact ⟨rfl, _, rfl, grew_refl _, rfl⟩
  ·refine mk0 rfl ?_
   intro vs y hg hd
   replace hg : Grew w1 y := below_kp (grew_refl _) hg (Nat.le_refl _) (fun i h => h)
   obtain ⟨h5, _⟩ := hd
   replace h5 := h5 rfl
   simp only [actOf, tk1, tk0, dr1, dr0, Act.put, si1, st1, st0, Nat.reduceAdd]
   rw [show vs 5 = _ from h5]
   have hx0 := HE0.out
   go_wp2_with fail
   exact ⟨rfl, _, rfl, grew_refl _, rfl⟩
  ·refine mk0 rfl ?_
   intro vs y hg hd
   replace hg : Grew w1 y := below_kp (grew_refl _) hg (Nat.le_refl _) (fun i h => h)
   obtain ⟨h4, h6, _⟩ := hd
   replace h4 := h4 rfl
   replace h6 := h6 rfl
   simp only [actOf, tk1, tk0, dr1, dr0, Act.put, si1, st1, st0, Nat.reduceAdd]
   rw [show vs 4 = _ from h4, show vs 6 = _ from h6]
   have hx0 := HP0.out
   have hx1 := HL0.out
   go_wp2_with fail
   exact ⟨rfl, _, rfl, grew_refl _, rfl⟩
  ·refine mk0 rfl ?_
   intro vs y hg hd
   replace hg : Grew w1 y := below_kp (grew_refl _) hg (Nat.le_refl _) (fun i h => h)
   obtain ⟨h7, _⟩ := hd
   replace h7 := h7 rfl
   simp only [actOf, tk1, tk0, dr1, dr0, Act.put, si1, st1, st0, Nat.reduceAdd]
   rw [show vs 7 = _ from h7]
   have hc := HCD0.out y hg
   go_wp2_with fail
   exact ⟨rfl, _, rfl, grew_refl _, rfl⟩
  ·refine mk0 rfl ?_
   intro vs y hg hd
   replace hg : Grew w1 y := below_kp (grew_refl _) hg (Nat.le_refl _) (fun i h => h)
   obtain ⟨h3, h8, _⟩ := hd
   replace h3 := h3 rfl
   replace h8 := h8 rfl
   simp only [actOf, tk1, tk0, dr1, dr0, Act.put, si1, st1, st0, Nat.reduceAdd]
   rw [show vs 3 = _ from h3, show vs 8 = _ from h8]
   have hown := HOW.out y hg
   go_wp2_with (at_lookup; refine wpList_lookup_held _ rfl _ _ 58 rfl 26 33 dig_law Tryd.underlying58 (nb_zero _) mb L.length _ rfl hown _ _ rfl HK0.out (.agg c0) HU0.out ?_)
   exact ⟨rfl, _, rfl, grew_refl _, rfl⟩
  ·refine mk0 rfl ?_
   intro vs y hg hd
   replace hg : Grew w1 y := below_kp (grew_refl _) hg (Nat.le_refl _) (fun i h => h)
   simp only [actOf, tk1, tk0, dr1, dr0, Act.put, si1, st1, st0, Nat.reduceAdd]
   go_wp2_with fail
   exact ⟨rfl, _, rfl, grew_refl _, rfl⟩
  ·refine mk0 rfl ?_
   intro vs y hg hd
   replace hg : Grew w1 y := below_kp (grew_refl _) hg (Nat.le_refl _) (fun i h => h)
   obtain ⟨h10, _⟩ := hd
   replace h10 := h10 rfl
   simp only [actOf, tk1, tk0, dr1, dr0, Act.put, si1, st1, st0, Nat.reduceAdd]
   rw [show vs 10 = _ from h10]
   go_wp2_with fail
   exact ⟨rfl, _, rfl, grew_refl _, rfl⟩
  ·refine mk0 rfl ?_
   intro vs y hg hd
   replace hg : Grew w1 y := below_kp (grew_refl _) hg (Nat.le_refl _) (fun i h => h)
   obtain ⟨h11, _⟩ := hd
   replace h11 := h11 rfl
   simp only [actOf, tk1, tk0, dr1, dr0, Act.put, si1, st1, st0, Nat.reduceAdd]
   rw [show vs 11 = _ from h11]
   go_wp2_with fail
   exact ⟨rfl, _, rfl, grew_refl _, rfl⟩
  ·refine mk0 rfl ?_
   intro vs y hg hd
   replace hg : Grew w1 y := below_kp (grew_refl _) hg (Nat.le_refl _) (fun i h => h)
   obtain ⟨h12, _⟩ := hd
   replace h12 := h12 rfl
   simp only [actOf, tk1, tk0, dr1, dr0, Act.put, si1, st1, st0, Nat.reduceAdd]
   rw [show vs 12 = _ from h12]
   have hc := HCT.out y hg
   go_wp2_with fail
   exact ⟨rfl, _, rfl, grew_refl _, rfl⟩
  ·refine mk0 rfl ?_
   intro vs y hg hd
   replace hg : Grew w1 y := below_kp (grew_refl _) hg (Nat.le_refl _) (fun i h => h)
   simp only [actOf, tk1, tk0, dr1, dr0, Act.put, si1, st1, st0, Nat.reduceAdd]
   go_wp2_with fail
   exact ⟨rfl, _, rfl, grew_refl _, rfl⟩
  ·refine mk0 rfl ?_
   intro vs y hg hd
   replace hg : Grew w1 y := below_kp (grew_refl _) hg (Nat.le_refl _) (fun i h => h)
   simp only [actOf, tk1, tk0, dr1, dr0, Act.put, si1, st1, st0, Nat.reduceAdd]
   go_wp2_with fail
   exact ⟨rfl, _, rfl, grew_refl _, rfl⟩
  ·refine mk0 rfl ?_
   intro vs y hg hd
   replace hg : Grew w1 y := below_kp (grew_refl _) hg (Nat.le_refl _) (fun i h => h)
   obtain ⟨h15, _⟩ := hd
   replace h15 := h15 rfl
   simp only [actOf, tk1, tk0, dr1, dr0, Act.put, si1, st1, st0, Nat.reduceAdd]
   rw [show vs 15 = _ from h15]
   have hx0 := HE1.out
   go_wp2_with fail
   exact ⟨rfl, _, rfl, grew_refl _, rfl⟩
  ·refine mk0 rfl ?_
   intro vs y hg hd
   replace hg : Grew w1 y := below_kp (grew_refl _) hg (Nat.le_refl _) (fun i h => h)
   obtain ⟨h14, h16, _⟩ := hd
   replace h14 := h14 rfl
   replace h16 := h16 rfl
   simp only [actOf, tk1, tk0, dr1, dr0, Act.put, si1, st1, st0, Nat.reduceAdd]
   rw [show vs 14 = _ from h14, show vs 16 = _ from h16]
   have hx0 := HP1.out
   have hx1 := HL1.out
   go_wp2_with fail
   exact ⟨rfl, _, rfl, grew_refl _, rfl⟩
  ·refine mk0 rfl ?_
   intro vs y hg hd
   replace hg : Grew w1 y := below_kp (grew_refl _) hg (Nat.le_refl _) (fun i h => h)
   obtain ⟨h17, _⟩ := hd
   replace h17 := h17 rfl
   simp only [actOf, tk1, tk0, dr1, dr0, Act.put, si1, st1, st0, Nat.reduceAdd]
   rw [show vs 17 = _ from h17]
   have hc := HCD1.out y hg
   go_wp2_with fail
   exact ⟨rfl, _, rfl, grew_refl _, rfl⟩
  ·refine mk0 rfl ?_
   intro vs y hg hd
   replace hg : Grew w1 y := below_kp (grew_refl _) hg (Nat.le_refl _) (fun i h => h)
   obtain ⟨h13, h18, _⟩ := hd
   replace h13 := h13 rfl
   replace h18 := h18 rfl
   simp only [actOf, tk1, tk0, dr1, dr0, Act.put, si1, st1, st0, Nat.reduceAdd]
   rw [show vs 13 = _ from h13, show vs 18 = _ from h18]
   have hown := HOW.out y hg
   go_wp2_with (at_lookup; refine wpList_lookup_held _ rfl _ _ 58 rfl 26 33 dig_law Tryd.underlying58 (nb_zero _) mb L.length _ rfl hown _ _ rfl HK1.out (.agg c1) HU1.out ?_)
   exact ⟨rfl, _, rfl, grew_refl _, rfl⟩
  ·refine mk0 rfl ?_
   intro vs y hg hd
   replace hg : Grew w1 y := below_kp (grew_refl _) hg (Nat.le_refl _) (fun i h => h)
   simp only [actOf, tk1, tk0, dr1, dr0, Act.put, si1, st1, st0, Nat.reduceAdd]
   go_wp2_with fail
   exact ⟨rfl, _, rfl, grew_refl _, rfl⟩
  ·refine mk0 rfl ?_
   intro vs y hg hd
   replace hg : Grew w1 y := below_kp (grew_refl _) hg (Nat.le_refl _) (fun i h => h)
   obtain ⟨h20, _⟩ := hd
   replace h20 := h20 rfl
   simp only [actOf, tk1, tk0, dr1, dr0, Act.put, si1, st1, st0, Nat.reduceAdd]
   rw [show vs 20 = _ from h20]
   go_wp2_with fail
   exact ⟨rfl, _, rfl, grew_refl _, rfl⟩
  ·refine mk0 rfl ?_
   intro vs y hg hd
   replace hg : Grew w1 y := below_kp (grew_refl _) hg (Nat.le_refl _) (fun i h => h)
   obtain ⟨h21, _⟩ := hd
   replace h21 := h21 rfl
   simp only [actOf, tk1, tk0, dr1, dr0, Act.put, si1, st1, st0, Nat.reduceAdd]
   rw [show vs 21 = _ from h21]
   go_wp2_with fail
   exact ⟨rfl, _, rfl, grew_refl _, rfl⟩
  ·refine mk0 rfl ?_
   intro vs y hg hd
   replace hg : Grew w1 y := below_kp (grew_refl _) hg (Nat.le_refl _) (fun i h => h)
   obtain ⟨h22, _⟩ := hd
   replace h22 := h22 rfl
   simp only [actOf, tk1, tk0, dr1, dr0, Act.put, si1, st1, st0, Nat.reduceAdd]
   rw [show vs 22 = _ from h22]
   have hc := HCT.out y hg
   go_wp2_with fail
   exact ⟨rfl, _, rfl, grew_refl _, rfl⟩
  ·refine mk0 rfl ?_
   intro vs y hg hd
   replace hg : Grew w1 y := below_kp (grew_refl _) hg (Nat.le_refl _) (fun i h => h)
   simp only [actOf, tk1, tk0, dr1, dr0, Act.put, si1, st1, st0, Nat.reduceAdd]
   go_wp2_with fail
   exact ⟨rfl, _, rfl, grew_refl _, rfl⟩
  ·refine mk0 rfl ?_
   intro vs y hg hd
   replace hg : Grew w1 y := below_kp (grew_refl _) hg (Nat.le_refl _) (fun i h => h)
   simp only [actOf, tk1, tk0, dr1, dr0, Act.put, si1, st1, st0, Nat.reduceAdd]
   go_wp2_with fail
   exact ⟨rfl, _, rfl, grew_refl _, rfl⟩
  ·refine mk0 rfl ?_
   intro vs y hg hd
   replace hg : Grew w1 y := below_kp (grew_refl _) hg (Nat.le_refl _) (fun i h => h)
   obtain ⟨h25, _⟩ := hd
   replace h25 := h25 rfl
   simp only [actOf, tk1, tk0, dr1, dr0, Act.put, si1, st1, st0, Nat.reduceAdd]
   rw [show vs 25 = _ from h25]
   have hx0 := HE2.out
   go_wp2_with fail
   exact ⟨rfl, _, rfl, grew_refl _, rfl⟩
  ·refine mk0 rfl ?_
   intro vs y hg hd
   replace hg : Grew w1 y := below_kp (grew_refl _) hg (Nat.le_refl _) (fun i h => h)
   obtain ⟨h24, h26, _⟩ := hd
   replace h24 := h24 rfl
   replace h26 := h26 rfl
   simp only [actOf, tk1, tk0, dr1, dr0, Act.put, si1, st1, st0, Nat.reduceAdd]
   rw [show vs 24 = _ from h24, show vs 26 = _ from h26]
   have hx0 := HP2.out
   have hx1 := HL2.out
   go_wp2_with fail
   exact ⟨rfl, _, rfl, grew_refl _, rfl⟩
  ·refine mk0 rfl ?_
   intro vs y hg hd
   replace hg : Grew w1 y := below_kp (grew_refl _) hg (Nat.le_refl _) (fun i h => h)
   obtain ⟨h27, _⟩ := hd
   replace h27 := h27 rfl
   simp only [actOf, tk1, tk0, dr1, dr0, Act.put, si1, st1, st0, Nat.reduceAdd]
   rw [show vs 27 = _ from h27]
   have hc := HCD2.out y hg
   go_wp2_with fail
   exact ⟨rfl, _, rfl, grew_refl _, rfl⟩
  ·refine mk0 rfl ?_
   intro vs y hg hd
   replace hg : Grew w1 y := below_kp (grew_refl _) hg (Nat.le_refl _) (fun i h => h)
   obtain ⟨h23, h28, _⟩ := hd
   replace h23 := h23 rfl
   replace h28 := h28 rfl
   simp only [actOf, tk1, tk0, dr1, dr0, Act.put, si1, st1, st0, Nat.reduceAdd]
   rw [show vs 23 = _ from h23, show vs 28 = _ from h28]
   have hown := HOW.out y hg
   go_wp2_with (at_lookup; refine wpList_lookup_held _ rfl _ _ 58 rfl 26 33 dig_law Tryd.underlying58 (nb_zero _) mb L.length _ rfl hown _ _ rfl HK2.out (.agg c2) HU2.out ?_)
   exact ⟨rfl, _, rfl, grew_refl _, rfl⟩
  ·refine mk1 rfl ?_
   intro vs y
   simp only [actOf, tk1, tk0, dr1, dr0, Act.put, si1, st1, st0, Nat.reduceAdd]
   go_wp2_with fail
   exact ⟨rfl, _, rfl, rfl, rfl⟩
  ·refine mk1 rfl ?_
   intro vs y
   simp only [actOf, tk1, tk0, dr1, dr0, Act.put, si1, st1, st0, Nat.reduceAdd]
   go_wp2_with fail
   exact ⟨rfl, _, rfl, rfl, rfl⟩
  ·refine mk1 rfl ?_
   intro vs y
   simp only [actOf, tk1, tk0, dr1, dr0, Act.put, si1, st1, st0, Nat.reduceAdd]
   go_wp2_with fail
   exact ⟨rfl, _, rfl, rfl, rfl⟩
  ·refine mk2 rfl ⟨rfl, ?_⟩
   intro vs y b hv ha hd
   replace hv : vs 30 = .pointer (some ⟨b, 0, none⟩) := hv
   have hth : Hid (y.there b 0 8) := Lib.hid (ha.thereN 8 rfl)
   clear ha
   obtain ⟨_, h9, _⟩ := hd
   replace h9 := h9 rfl
   simp only [actOf, tk1, tk0, dr1, dr0, Act.put, si1, st1, st0, Nat.reduceAdd]
   rw [hv]
   rw [show vs 9 = _ from h9]
   have hth2 : Hid (y.there b 0 c0.size) := Lib.hid (by rw [HS0.out]; exact hth.out)
   go_wp2_with (with_reducible refine wpList_store_mid rfl 33 (.tmp 8) (.tmp 27) rfl b 0 c0 rfl rfl hth2.out HIN0.out HON0.out ?_)
   exact ⟨rfl, .bool false, rfl, rfl⟩
  ·refine mk2 rfl ⟨rfl, ?_⟩
   intro vs y b hv ha hd
   replace hv : vs 31 = .pointer (some ⟨b, 0, none⟩) := hv
   have hth : Hid (y.there b 0 8) := Lib.hid (ha.thereN 8 rfl)
   clear ha
   obtain ⟨_, h19, _⟩ := hd
   replace h19 := h19 rfl
   simp only [actOf, tk1, tk0, dr1, dr0, Act.put, si1, st1, st0, Nat.reduceAdd]
   rw [hv]
   rw [show vs 19 = _ from h19]
   have hth2 : Hid (y.there b 0 c1.size) := Lib.hid (by rw [HS1.out]; exact hth.out)
   go_wp2_with (with_reducible refine wpList_store_mid rfl 33 (.tmp 9) (.tmp 37) rfl b 0 c1 rfl rfl hth2.out HIN1.out HON1.out ?_)
   exact ⟨rfl, .bool false, rfl, rfl⟩
 ·intro dn vs y hI hdn hdf
  have j0 : vs 0 = .pointer (some ⟨t, 0, none⟩) := hI.v 0 (by decide) (hdn 0 (by decide)) rfl
  have j1 : vs 1 = .pointer (some ⟨t, 0, none⟩) := hI.v 1 (by decide) (hdn 1 (by decide)) rfl
  have j2 : vs 2 = .pointer (some ⟨t, 0, none⟩) := hI.v 2 (by decide) (hdn 2 (by decide)) rfl
  have j3 : vs 3 = .map (some mb) := hI.v 3 (by decide) (hdn 3 (by decide)) rfl
  have j4 : vs 4 = .slice (some ad) N c := hI.v 4 (by decide) (hdn 4 (by decide)) rfl
  have j5 : vs 5 = .int .i64 (N : Int) := hI.v 5 (by decide) (hdn 5 (by decide)) rfl
  have j6 : vs 6 = .int .i64 (i0 : Int) := hI.v 6 (by decide) (hdn 6 (by decide)) rfl
  have j7 : vs 7 = .pointer (some (ad.add i0)) := hI.v 7 (by decide) (hdn 7 (by decide)) rfl
  have j8 : vs 8 = .int .u64 (d0 : Nat) := hI.v 8 (by decide) (hdn 8 (by decide)) rfl
  have j9 : vs 9 = .agg c0 := hI.v 9 (by decide) (hdn 9 (by decide)) rfl
  have j10 : vs 10 = .pointer (some ⟨t, 0, none⟩) := hI.v 10 (by decide) (hdn 10 (by decide)) rfl
  have j11 : vs 11 = .pointer (some ⟨t, 0, none⟩) := hI.v 11 (by decide) (hdn 11 (by decide)) rfl
  have j12 : vs 12 = .pointer (some ⟨t, 0, none⟩) := hI.v 12 (by decide) (hdn 12 (by decide)) rfl
  have j13 : vs 13 = .map (some mb) := hI.v 13 (by decide) (hdn 13 (by decide)) rfl
  have j14 : vs 14 = .slice (some ad) N c := hI.v 14 (by decide) (hdn 14 (by decide)) rfl
  have j15 : vs 15 = .int .i64 (N : Int) := hI.v 15 (by decide) (hdn 15 (by decide)) rfl
  have j16 : vs 16 = .int .i64 (i1 : Int) := hI.v 16 (by decide) (hdn 16 (by decide)) rfl
  have j17 : vs 17 = .pointer (some (ad.add i1)) := hI.v 17 (by decide) (hdn 17 (by decide)) rfl
  have j18 : vs 18 = .int .u64 (d1 : Nat) := hI.v 18 (by decide) (hdn 18 (by decide)) rfl
  have j19 : vs 19 = .agg c1 := hI.v 19 (by decide) (hdn 19 (by decide)) rfl
  have j20 : vs 20 = .pointer (some ⟨t, 0, none⟩) := hI.v 20 (by decide) (hdn 20 (by decide)) rfl
  have j21 : vs 21 = .pointer (some ⟨t, 0, none⟩) := hI.v 21 (by decide) (hdn 21 (by decide)) rfl
  have j22 : vs 22 = .pointer (some ⟨t, 0, none⟩) := hI.v 22 (by decide) (hdn 22 (by decide)) rfl
  have j23 : vs 23 = .map (some mb) := hI.v 23 (by decide) (hdn 23 (by decide)) rfl
  have j24 : vs 24 = .slice (some ad) N c := hI.v 24 (by decide) (hdn 24 (by decide)) rfl
  have j25 : vs 25 = .int .i64 (N : Int) := hI.v 25 (by decide) (hdn 25 (by decide)) rfl
  have j26 : vs 26 = .int .i64 (i2 : Int) := hI.v 26 (by decide) (hdn 26 (by decide)) rfl
  have j27 : vs 27 = .pointer (some (ad.add i2)) := hI.v 27 (by decide) (hdn 27 (by decide)) rfl
  have j28 : vs 28 = .int .u64 (d2 : Nat) := hI.v 28 (by decide) (hdn 28 (by decide)) rfl
  have j29 : vs 29 = .agg c2 := hI.v 29 (by decide) (hdn 29 (by decide)) rfl
  have hkp := hI.kp
  obtain ⟨b0, e0, h0, l0, a0⟩ := hI.b 0 (by decide) (hdn 30 (by decide))
  obtain ⟨b1, e1, h1, l1, a1⟩ := hI.b 1 (by decide) (hdn 31 (by decide))
  obtain ⟨b2, e2, h2, l2, a2⟩ := hI.b 2 (by decide) (hdn 32 (by decide))
  have ne02 := hI.ne 0 2 (by decide) (by decide) (by decide) (hdn 30 (by decide)) (hdn 32 (by decide))
  have ne12 := hI.ne 1 2 (by decide) (by decide) (by decide) (hdn 31 (by decide)) (hdn 32 (by decide))
  replace e0 : vs 30 = .pointer (some ⟨b0, 0, none⟩) := e0
  replace e1 : vs 31 = .pointer (some ⟨b1, 0, none⟩) := e1
  replace e2 : vs 32 = .pointer (some ⟨b2, 0, none⟩) := e2
  replace ne02 : vs 30 ≠ vs 32 := ne02
  replace ne12 : vs 31 ≠ vs 32 := ne12
  rw [e0, e2] at ne02
  rw [e1, e2] at ne12
  have n02 : b0 ≠ b2 := fun e => ne02 (by rw [e])
  have n12 : b1 ≠ b2 := fun e => ne12 (by rw [e])
  rw [if_pos (show dn (33 + 0) = true from hdn 33 (by decide))] at a0
  rw [if_pos (show dn (33 + 1) = true from hdn 34 (by decide))] at a1
  rw [if_neg (show ¬ dn (33 + 2) = true from by rw [show dn (33 + 2) = false from hdf 35 (by decide)]; decide)] at a2
  replace a0 : Ag y b0 c0.toList := a0
  replace a1 : Ag y b1 c1.toList := a1
  have hg : Grew w1 y := below_kp (grew_refl _) hkp (Nat.le_refl _) (fun i h => h)
  have HTH : Hid (y.there b2 0 c2.size) := Lib.hid (by rw [HS2.out]; exact a2.thereN 8 rfl)
  have a2' := Ag.set (vs := c2.toList) a2 (by simp [HS2.out])
  have k2 := setCells_kp c2.toList b2 0 y
  have a0' := a0.kp k2 n02
  have a1' := a1.kp k2 n12
  have GY : Grew w (y.setCells b2 0 c2.toList) := setCells_grew (o := 0) (b := b2) _ (grew_trans HG1.out hg) (Nat.le_trans HG1.out.size h2)
  have KD2 : Hid (∀ W, Grew w1 W → W.cell? (ad.add i2) = some (.int .u64 (d2 : Nat))) := HCD2
  have GY1 : Grew w1 (y.setCells b2 0 c2.toList) := setCells_grew (o := 0) (b := b2) _ hg h2
  have hd2 := HCD2.out _ GY1
  have x0 : (y.setCells b2 0 c2.toList).cell? ⟨b0, 0, none⟩ = some (.int .i64 v0) := by have := a0'.cell 0 _ HH0.out; simpa using this
  have x1 : (y.setCells b2 0 c2.toList).cell? ⟨b1, 0, none⟩ = some (.int .i64 v1) := by have := a1'.cell 0 _ HH1.out; simpa using this
  have x2 : (y.setCells b2 0 c2.toList).cell? ⟨b2, 0, none⟩ = some (.int .i64 v2) := by have := a2'.cell 0 _ HH2.out; simpa using this
  have HGY := Lib.hid GY
  simp only [actOf, tk1, tk0, dr1, dr0, Act.put, si1, st1, st0, Nat.reduceAdd]
  rw [e0, e1, e2, j29]
  clear hI hdn hdf a0 a1 a2 a0' a1' a2' k2 GY GY1 ne02 ne12 n02 n12 hkp hg KD2 h0 h1 h2 l0 l1 l2 e0 e1 e2 j0 j1 j2 j3 j4 j5 j6 j7 j8 j9 j10 j11 j12 j13 j14 j15 j16 j17 j18 j19 j20 j21 j22 j23 j24 j25 j26 j27 j28 j29
  generalize hY : y.setCells b2 0 c2.toList = Y at *
  have HY := Lib.hid hY
  clear hY
  have w1e := HW1.out
  have w2e := HW2.out
  by_cases q1 : v0 = v1 + 1
  ·have q1b : (v0 != v1 + 1) = false := by simp [q1]
   by_cases q2 : v1 = v2 + 1
   ·have q2b : (v1 != v2 + 1) = false := by simp [q2]
    have hz : z = true := by rw [← HZ.out]; simp [q1, q2]
    subst hz
    have e3 := HE2.out
    have p3 := HP2.out
    have l3 := HL2.out
    clear q1 q2
    go_wp2_with (with_reducible refine wpList_store_mid rfl 33 (.tmp 10) (.tmp 47) rfl b2 0 c2 rfl rfl HTH.out HIN2.out HON2.out ?_; rw [HY.out])
    go_ret2
    exact ⟨rfl, HGY.out⟩
   ·have q2b : (v1 != v2 + 1) = true := by simp [q2]
    have hz : z = false := by rw [← HZ.out]; simp [q2]
    subst hz
    clear q1 q2
    go_wp2_with (with_reducible refine wpList_store_mid rfl 33 (.tmp 10) (.tmp 47) rfl b2 0 c2 rfl rfl HTH.out HIN2.out HON2.out ?_; rw [HY.out])
    go_ret2
    exact ⟨rfl, HGY.out⟩
  ·have q1b : (v0 != v1 + 1) = true := by simp [q1]
   have hz : z = false := by rw [← HZ.out]; simp [q1]
   subst hz
   clear q1
   go_wp2_with (with_reducible refine wpList_store_mid rfl 33 (.tmp 10) (.tmp 47) rfl b2 0 c2 rfl rfl HTH.out HIN2.out HON2.out ?_; rw [HY.out])
   go_ret2
   exact ⟨rfl, HGY.out⟩
theorem bl_get {L : TL} {d : Nat} {b : BB} (h : bget (bl L) d = some b) : ∃ n, tget L d = some n ∧ n.b.v = b.v := by
 obtain ⟨n, h1, h2⟩ := bl_some h
 exact ⟨n, h1, by rw [h2]⟩
theorem commitB_short {t mb : Nat} {K : BL} (d : Nat) (l : List Nat) (hW : WayB K d l) (hl : l.length < 4) (w : World) (h : TreeB w t mb K) :
 Calls Tryd.prog 14 #[.pointer (some ⟨t, 0, none⟩), .int .u64 (d : Nat)] w fun e w' => e = .returned (.tuple #[.int .u64 0, .bool false]) ∧ Grew w w' := by
 obtain ⟨L, hT, rfl⟩ := h
 exact commit_short d l hW.way hl w hT
theorem commitB_long {t mb : Nat} {K : BL} (d0 d1 d2 : Nat) (r : List Nat) (b0 b1 b2 : BB) (hW : WayB K d0 (d0 :: d1 :: d2 :: r)) (hr : r ≠ []) (hl : r.length < 100000 - 3)
 (g0 : bget K d0 = some b0) (g1 : bget K d1 = some b1) (g2 : bget K d2 = some b2) (s1 : -1000000 ≤ b1.v ∧ b1.v ≤ 1000000) (s2 : -1000000 ≤ b2.v ∧ b2.v ≤ 1000000)
 (z : Bool) (hz : (decide (b0.v = b1.v + 1) && decide (b1.v = b2.v + 1)) = z) (w : World) (h : TreeB w t mb K) :
 Calls Tryd.prog 14 #[.pointer (some ⟨t, 0, none⟩), .int .u64 (d0 : Nat)] w fun e w' => e = .returned (.tuple #[.int .u64 ((bif z then d2 else 0 : Nat) : Nat), .bool z]) ∧ Grew w w' := by
 obtain ⟨L, hT, rfl⟩ := h
 obtain ⟨n0, k0, f0⟩ := bl_get g0
 obtain ⟨n1, k1, f1⟩ := bl_get g1
 obtain ⟨n2, k2, f2⟩ := bl_get g2
 exact commit_long d0 d1 d2 r n0 n1 n2 hW.way hr hl k0 k1 k2 (by rw [f1]; exact s1) (by rw [f2]; exact s2) z (by rw [f0, f1, f2]; exact hz) w hT
end Go.Proofs.YtbohmmcmlabcdaaDoor

namespace Go.Proofs.YtbohmmcmlabcdaaDoor
set_option linter.unusedSimpArgs false
set_option linter.unusedVariables false
open Go.RowKit Go.Maps
set_option linter.unusedVariables false
set_option linter.unnecessarySimpa false
set_option linter.unusedSimpArgs false
theorem bbB_ok {v : Int} {p : Nat} {lo hi : Int} (h1 : in64 v) (h2 : p < 18446744073709551616) (h3 : in64 lo) (h4 : in64 hi) : (bbB v p lo hi).ok := ⟨h1, h2, by constructor <;> simp [bbB], h2, h3, h4⟩
structure D17 (a b c d e x y : Nat) : Prop where
 ha : blkD (bbB 1 0 0 5) = a
 hb : blkD (bbB 2 a 5 9) = b
 hc : blkD (bbB 3 b 9 12) = c
 hd : blkD (bbB 3 a 5 7) = d
 he : blkD (bbB 5 c 12 13) = e
 hx : blkD (bbB 1 a 5 6) = x
 hy : blkD (bbB 9 a 6 7) = y
 nd : [0, a, b, c, d, e, x, y].Nodup
 la : a < 18446744073709551616
 lb : b < 18446744073709551616
 lc : c < 18446744073709551616
 ld : d < 18446744073709551616
 le : e < 18446744073709551616
 lx : x < 18446744073709551616
 ly : y < 18446744073709551616
 n_a0 : a ≠ 0
 n_b0 : b ≠ 0
 n_c0 : c ≠ 0
 n_d0 : d ≠ 0
 n_e0 : e ≠ 0
 n_x0 : x ≠ 0
 n_y0 : y ≠ 0
 n_bd : b ≠ d
 n_ba : b ≠ a
set_option maxRecDepth 20000 in
theorem d17 : ∃ a b c d e x y, D17 a b c d e x y := ⟨3515922187238252777, 10259852832537416713, 14701683749170986741, 85269892179537992, 16070208864198968256, 15800283372918010036, 7056641645609381088, by rw [blkD_C]; decide +kernel, by rw [blkD_C]; decide +kernel, by rw [blkD_C]; decide +kernel, by rw [blkD_C]; decide +kernel, by rw [blkD_C]; decide +kernel, by rw [blkD_C]; decide +kernel, by rw [blkD_C]; decide +kernel, by decide +kernel, by decide, by decide, by decide, by decide, by decide, by decide, by decide, by decide +kernel, by decide +kernel, by decide +kernel, by decide +kernel, by decide +kernel, by decide +kernel, by decide +kernel, by decide +kernel, by decide +kernel⟩
def K17 (a b c d e : Nat) : BL := [(0, bb0), (a, bbB 1 0 0 5), (b, bbB 2 a 5 9), (c, bbB 3 b 9 12), (d, bbB 3 a 5 7), (e, bbB 5 c 12 13)]
theorem way17_0 (a b c d e : Nat) : WayB (K17 a b c d e) 0 [0] := .root (by simp [K17, bget])
section
variable {a b c d e x y : Nat} (H : D17 a b c d e x y) {t mb : Nat}
include H
theorem add17_0 (w : World) (hS : Std w) (h : TreeB w t mb ((K17 a b c d e).take 1)) : Calls Tryd.prog 9 #[.pointer (some ⟨t, 0, none⟩), .agg (bbB 2 a 5 9).z.C] w fun e9 w' => e9 = .returned (.int .i64 11) ∧ TreeB w' t mb ((K17 a b c d e).take 1) ∧ Kp (fun i => i = mb) w w' := by
 have hn := H.nd
 simp at hn
 exact addB_no (K := (K17 a b c d e).take 1) (bbB 2 a 5 9).z (bbB_ok (by simp [in64]) H.la (by simp [in64]) (by simp [in64])) b H.hb 11 (by decide) (.inr (.inl ⟨by simp [K17, bget, hn], by simp [K17, bget, bbB, BB.z, hn], rfl⟩)) (by simp [K17]) w hS h
theorem add17_1 (w : World) (hS : Std w) (h : TreeB w t mb ((K17 a b c d e).take 1)) : Calls Tryd.prog 9 #[.pointer (some ⟨t, 0, none⟩), .agg (bbB 1 0 0 5).z.C] w fun e9 w' => e9 = .returned (.int .i64 0) ∧ TreeB w' t mb ((K17 a b c d e).take 2) ∧ Kp (fun i => i = mb) w w' := by
 have hn := H.nd
 simp at hn
 exact addB_yes (K := (K17 a b c d e).take 1) (bbB 1 0 0 5).z (bbB_ok (by simp [in64]) (by decide) (by simp [in64]) (by simp [in64])) a H.ha bb0 (by simp [K17, bget, hn]) (by simp [K17, bget, bbB, BB.z, hn]) (by show (0 : Int) < 1; decide) rfl (by simp [K17]) w hS h
theorem add17_2 (w : World) (hS : Std w) (h : TreeB w t mb ((K17 a b c d e).take 2)) : Calls Tryd.prog 9 #[.pointer (some ⟨t, 0, none⟩), .agg (bbB 2 a 5 9).z.C] w fun e9 w' => e9 = .returned (.int .i64 0) ∧ TreeB w' t mb ((K17 a b c d e).take 3) ∧ Kp (fun i => i = mb) w w' := by
 have hn := H.nd
 simp at hn
 exact addB_yes (K := (K17 a b c d e).take 2) (bbB 2 a 5 9).z (bbB_ok (by simp [in64]) H.la (by simp [in64]) (by simp [in64])) b H.hb (bbB 1 0 0 5) (by simp [K17, bget, hn]) (by simp [K17, bget, bbB, BB.z, hn]) (by show (1 : Int) < 2; decide) rfl (by simp [K17]) w hS h
theorem add17_3 (w : World) (hS : Std w) (h : TreeB w t mb ((K17 a b c d e).take 3)) : Calls Tryd.prog 9 #[.pointer (some ⟨t, 0, none⟩), .agg (bbB 3 b 9 12).z.C] w fun e9 w' => e9 = .returned (.int .i64 0) ∧ TreeB w' t mb ((K17 a b c d e).take 4) ∧ Kp (fun i => i = mb) w w' := by
 have hn := H.nd
 simp at hn
 exact addB_yes (K := (K17 a b c d e).take 3) (bbB 3 b 9 12).z (bbB_ok (by simp [in64]) H.lb (by simp [in64]) (by simp [in64])) c H.hc (bbB 2 a 5 9) (by simp [K17, bget, hn]) (by simp [K17, bget, bbB, BB.z, hn]) (by show (2 : Int) < 3; decide) rfl (by simp [K17]) w hS h
theorem add17_4 (w : World) (hS : Std w) (h : TreeB w t mb ((K17 a b c d e).take 4)) : Calls Tryd.prog 9 #[.pointer (some ⟨t, 0, none⟩), .agg (bbB 3 a 5 7).z.C] w fun e9 w' => e9 = .returned (.int .i64 0) ∧ TreeB w' t mb ((K17 a b c d e).take 5) ∧ Kp (fun i => i = mb) w w' := by
 have hn := H.nd
 simp at hn
 exact addB_yes (K := (K17 a b c d e).take 4) (bbB 3 a 5 7).z (bbB_ok (by simp [in64]) H.la (by simp [in64]) (by simp [in64])) d H.hd (bbB 1 0 0 5) (by simp [K17, bget, hn]) (by simp [K17, bget, bbB, BB.z, hn]) (by show (1 : Int) < 3; decide) rfl (by simp [K17]) w hS h
theorem add17_5 (w : World) (hS : Std w) (h : TreeB w t mb ((K17 a b c d e).take 5)) : Calls Tryd.prog 9 #[.pointer (some ⟨t, 0, none⟩), .agg (bbB 5 c 12 13).z.C] w fun e9 w' => e9 = .returned (.int .i64 0) ∧ TreeB w' t mb (K17 a b c d e) ∧ Kp (fun i => i = mb) w w' := by
 have hn := H.nd
 simp at hn
 exact addB_yes (K := (K17 a b c d e).take 5) (bbB 5 c 12 13).z (bbB_ok (by simp [in64]) H.lc (by simp [in64]) (by simp [in64])) e H.he (bbB 3 b 9 12) (by simp [K17, bget, hn]) (by simp [K17, bget, bbB, BB.z, hn]) (by show (3 : Int) < 5; decide) rfl (by simp [K17]) w hS h
theorem add17_6 (w : World) (hS : Std w) (h : TreeB w t mb (K17 a b c d e)) : Calls Tryd.prog 9 #[.pointer (some ⟨t, 0, none⟩), .agg (bbB 1 0 0 5).z.C] w fun e9 w' => e9 = .returned (.int .i64 5) ∧ TreeB w' t mb (K17 a b c d e) ∧ Kp (fun i => i = mb) w w' := by
 have hn := H.nd
 simp at hn
 exact addB_no (K := (K17 a b c d e)) (bbB 1 0 0 5).z (bbB_ok (by simp [in64]) (by decide) (by simp [in64]) (by simp [in64])) a H.ha 5 (by decide) (.inl ⟨bbB 1 0 0 5, by simp [K17, bget, hn], rfl⟩) (by simp [K17]) w hS h
theorem add17_7 (w : World) (hS : Std w) (h : TreeB w t mb (K17 a b c d e)) : Calls Tryd.prog 9 #[.pointer (some ⟨t, 0, none⟩), .agg (bbB 1 a 5 6).z.C] w fun e9 w' => e9 = .returned (.int .i64 12) ∧ TreeB w' t mb (K17 a b c d e) ∧ Kp (fun i => i = mb) w w' := by
 have hn := H.nd
 simp at hn
 exact addB_no (K := (K17 a b c d e)) (bbB 1 a 5 6).z (bbB_ok (by simp [in64]) H.la (by simp [in64]) (by simp [in64])) x H.hx 12 (by decide) (.inr (.inr (.inl ⟨bbB 1 0 0 5, by simp [K17, bget, hn], by simp [K17, bget, bbB, BB.z, hn], by show (1 : Int) ≤ 1; decide, rfl⟩))) (by simp [K17]) w hS h
theorem add17_8 (w : World) (hS : Std w) (h : TreeB w t mb (K17 a b c d e)) : Calls Tryd.prog 9 #[.pointer (some ⟨t, 0, none⟩), .agg (bbB 9 a 6 7).z.C] w fun e9 w' => e9 = .returned (.int .i64 10) ∧ TreeB w' t mb (K17 a b c d e) ∧ Kp (fun i => i = mb) w w' := by
 have hn := H.nd
 simp at hn
 exact addB_no (K := (K17 a b c d e)) (bbB 9 a 6 7).z (bbB_ok (by simp [in64]) H.la (by simp [in64]) (by simp [in64])) y H.hy 10 (by decide) (.inr (.inr (.inr ⟨bbB 1 0 0 5, by simp [K17, bget, hn], by simp [K17, bget, bbB, BB.z, hn], by show (1 : Int) < 9; decide, by show (6 : Int) ≠ 5; decide, rfl⟩))) (by simp [K17]) w hS h
theorem way17_a : WayB (K17 a b c d e) a [a, 0] := .step (b := bbB 1 0 0 5) H.n_a0 (by have hn := H.nd; simp at hn; simp [K17, bget, hn]) (way17_0 a b c d e)
theorem way17_b : WayB (K17 a b c d e) b [b, a, 0] := .step (b := bbB 2 a 5 9) H.n_b0 (by have hn := H.nd; simp at hn; simp [K17, bget, hn]) (way17_a H)
theorem way17_c : WayB (K17 a b c d e) c [c, b, a, 0] := .step (b := bbB 3 b 9 12) H.n_c0 (by have hn := H.nd; simp at hn; simp [K17, bget, hn]) (way17_b H)
theorem way17_d : WayB (K17 a b c d e) d [d, a, 0] := .step (b := bbB 3 a 5 7) H.n_d0 (by have hn := H.nd; simp at hn; simp [K17, bget, hn]) (way17_a H)
theorem way17_e : WayB (K17 a b c d e) e [e, c, b, a, 0] := .step (b := bbB 5 c 12 13) H.n_e0 (by have hn := H.nd; simp at hn; simp [K17, bget, hn]) (way17_c H)
theorem get17_a : bget (K17 a b c d e) a = some (bbB 1 0 0 5) := by have hn := H.nd; simp at hn; simp [K17, bget, hn]
theorem get17_b : bget (K17 a b c d e) b = some (bbB 2 a 5 9) := by have hn := H.nd; simp at hn; simp [K17, bget, hn]
theorem get17_c : bget (K17 a b c d e) c = some (bbB 3 b 9 12) := by have hn := H.nd; simp at hn; simp [K17, bget, hn]
theorem get17_d : bget (K17 a b c d e) d = some (bbB 3 a 5 7) := by have hn := H.nd; simp at hn; simp [K17, bget, hn]
theorem get17_e : bget (K17 a b c d e) e = some (bbB 5 c 12 13) := by have hn := H.nd; simp at hn; simp [K17, bget, hn]
theorem com17_c (w : World) (h : TreeB w t mb (K17 a b c d e)) : Calls Tryd.prog 14 #[.pointer (some ⟨t, 0, none⟩), .int .u64 (c : Nat)] w fun e9 w' => e9 = .returned (.tuple #[.int .u64 (a : Nat), .bool true]) ∧ Grew w w' :=
 commitB_long c b a [0] _ _ _ (way17_c H) (by simp) (by decide) (get17_c H) (get17_b H) (get17_a H) (by simp [bbB]) (by simp [bbB]) true (by simp [bbB]) w h
theorem com17_e (w : World) (h : TreeB w t mb (K17 a b c d e)) : Calls Tryd.prog 14 #[.pointer (some ⟨t, 0, none⟩), .int .u64 (e : Nat)] w fun e9 w' => e9 = .returned (.tuple #[.int .u64 0, .bool false]) ∧ Grew w w' :=
 commitB_long e c b [a, 0] _ _ _ (way17_e H) (by simp) (by simp) (get17_e H) (get17_c H) (get17_b H) (by simp [bbB]) (by simp [bbB]) false (by simp [bbB]) w h
theorem gt17_d (w : World) (h : TreeB w t mb (K17 a b c d e)) : Calls Tryd.prog 21 #[.pointer (some ⟨t, 0, none⟩), .int .u64 (d : Nat)] w fun e9 w' => ∃ m : Array Value, m.size = 8 ∧ m.all (·.oneCell') = true ∧ m.toList[6]? = some (.int .i64 7) ∧ e9 = .returned (.tuple #[.agg m, .bool true]) ∧ Grew w w' :=
 (getB_some d H.ld _ (get17_d H) w h).mono fun e9 w' ⟨m, h1, h2, h3⟩ => ⟨m.C, rfl, m.one, by show some (Value.int .i64 m.b.hi) = _; rw [h1]; rfl, h2, h3⟩
theorem pth17_c (w : World) (h : TreeB w t mb (K17 a b c d e)) : Calls Tryd.prog 13 #[.pointer (some ⟨t, 0, none⟩), .int .u64 (c : Nat)] w fun e9 w' => ∃ ad cp, e9 = .returned (.slice (some ad) 4 cp) ∧ ad.block < w'.heap.size ∧ w'.cell? (ad.add 0) = some (.int .u64 0) ∧ w'.cell? (ad.add 3) = some (.int .u64 (c : Nat)) ∧ Grew w w' := by
 refine (pathB c _ (way17_c H) (by simp) w h).mono ?_
 rintro e9 w' ⟨B, cp, h1, h2, _, h4⟩
 obtain ⟨ad, k1, k2, k3⟩ := rd_u64 h2 0 (by simp)
 obtain ⟨ad2, j1, _, j3⟩ := rd_u64 h2 3 (by simp)
 rw [k1] at j1
 injection j1 with j1
 subst j1
 refine ⟨ad, cp, by rw [h1, k1]; rfl, k2, by simpa using k3, by simpa using j3, h4⟩
theorem ext17_1 (w : World) (h : TreeB w t mb (K17 a b c d e)) : Calls Tryd.prog 11 #[.pointer (some ⟨t, 0, none⟩), .int .u64 (c : Nat), .int .u64 (a : Nat)] w fun e9 w' => e9 = .returned (.bool true) ∧ Grew w w' := by
 have := extB c a _ (way17_c H) (by simp) w h
 rwa [show decide (a ∈ [c, b, a, 0]) = true by simp] at this
theorem ext17_2 (w : World) (h : TreeB w t mb (K17 a b c d e)) : Calls Tryd.prog 11 #[.pointer (some ⟨t, 0, none⟩), .int .u64 (d : Nat), .int .u64 (b : Nat)] w fun e9 w' => e9 = .returned (.bool false) ∧ Grew w w' := by
 have := extB d b _ (way17_d H) (by simp) w h
 rwa [show decide (b ∈ [d, a, 0]) = false by simp [H.n_bd, H.n_ba, H.n_b0]] at this
theorem ext17_3 (w : World) (h : TreeB w t mb (K17 a b c d e)) : Calls Tryd.prog 11 #[.pointer (some ⟨t, 0, none⟩), .int .u64 (d : Nat), .int .u64 0] w fun e9 w' => e9 = .returned (.bool true) ∧ Grew w w' := by
 have := extB d 0 _ (way17_d H) (by simp) w h
 rwa [show decide (0 ∈ [d, a, 0]) = true by simp] at this
end
theorem len17 {a b c d e t mb : Nat} (w : World) (h : TreeB w t mb (K17 a b c d e)) : Calls Tryd.prog 12 #[.pointer (some ⟨t, 0, none⟩)] w fun e9 w' => e9 = .returned (.int .i64 6) ∧ Grew w w' := lenB w h
theorem bdig17 {n : BB} (hn : n.ok) {d : Nat} (hd : blkD n = d) (w : World) (hS : Std w) : Calls Tryd.prog 10 #[.agg n.z.C] w fun e w' => e = .returned (.int .u64 (d : Nat)) ∧ Grew w w' := by
 have := bdigest_ok n.z hn w hS
 rwa [show blkD n.z.b = d from hd] at this
/-- the tree, and blocks that lie about -/
structure S17 (w0 W : World) (t mb : Nat) (K : BL) (L : List (Nat × BB)) : Prop where
 T : TreeB W t mb K
 G : Grew w0 W
 hm : w0.heap.size ≤ mb
 A : ∀ x ∈ L, Ag W x.1 x.2.z.C.toList ∧ x.1 ≠ mb
theorem S17.gr {w0 W W' : World} {t mb : Nat} {K : BL} {L : List (Nat × BB)} (h : S17 w0 W t mb K L) (g : Grew W W') : S17 w0 W' t mb K L := ⟨h.T.gr g, grew_trans h.G g, h.hm, fun x hx => ⟨(h.A x hx).1.grew g, (h.A x hx).2⟩⟩
theorem S17.kp {w0 W W' : World} {t mb : Nat} {K K' : BL} {L : List (Nat × BB)} (h : S17 w0 W t mb K L) (k : Kp (fun i => i = mb) W W') (T' : TreeB W' t mb K') : S17 w0 W' t mb K' L :=
 ⟨T', below_kp h.G k h.G.size (fun i e => by have e' : i = mb := e; have := h.hm; omega), h.hm, fun x hx => ⟨(h.A x hx).1.kp k (h.A x hx).2, (h.A x hx).2⟩⟩
theorem S17.put {w0 W : World} {t mb : Nat} {K : BL} {L : List (Nat × BB)} (h : S17 w0 W t mb K L) (b : BB) :
 ∃ W', (W.alloc (.cells (#[.int .i64 0, .int .u64 0, .int .i64 0, .int .u64 0, .slice none 0 0, .int .i64 0, .int .i64 0, .slice none 0 0] : Array Value) 33)).setCells W.heap.size 0 b.z.C.toList = W' ∧ (W.alloc (.cells (#[.int .i64 0, .int .u64 0, .int .i64 0, .int .u64 0, .slice none 0 0, .int .i64 0, .int .i64 0, .slice none 0 0] : Array Value) 33)).there W.heap.size 0 b.z.C.size ∧ S17 w0 W' t mb K ((W.heap.size, b) :: L) ∧ Grew W W' := by
 obtain ⟨W', h1, h2, h3, h4⟩ := ltput_any W 33 (#[.int .i64 0, .int .u64 0, .int .i64 0, .int .u64 0, .slice none 0 0, .int .i64 0, .int .i64 0, .slice none 0 0] : Array Value) b.z.C rfl
 have hs := h.gr h3
 refine ⟨W', h1, h2, ⟨hs.T, hs.G, hs.hm, fun x hx => ?_⟩, h3⟩
 rcases List.mem_cons.1 hx with rfl | hx
 ·exact ⟨h4, by have := h.T.lt.2; show W.heap.size ≠ mb; omega⟩
 ·exact hs.A x hx
theorem S17.std {w0 W : World} {t mb : Nat} {K : BL} {L : List (Nat × BB)} (h : S17 w0 W t mb K L) (hS : Std w0) : Std W := hS.grew h.G
theorem S17.cell {w0 W : World} {t mb : Nat} {K : BL} {L : List (Nat × BB)} (h : S17 w0 W t mb K L) {q : Nat} {b : BB} (hx : (q, b) ∈ L) : W.rangeAt q 0 b.z.C.toList := (h.A _ hx).1.cell
end Go.Proofs.YtbohmmcmlabcdaaDoor

namespace Go.Proofs.YtbohmmcmlabcdaaDoor
set_option linter.unusedSimpArgs false
set_option linter.unusedVariables false
open Go.RowKit Go.Maps
set_option linter.unusedVariables false
set_option linter.unnecessarySimpa false
set_option linter.unusedSimpArgs false
theorem bget_noneO {K : BL} {d : Nat} (h : ∀ x ∈ K, x.1 ≠ d) : bget K d = none := by
 induction K with
 | nil => rfl
 | cons y r ih =>
  simp only [bget]
  rw [if_neg (h y (by simp))]
  exact ih (fun x hx => h x (by simp [hx]))
section
variable {t mb : Nat}
end
end Go.Proofs.YtbohmmcmlabcdaaDoor

namespace Go.Proofs.YtbohmmcmlabcdaaDoor
set_option linter.unusedSimpArgs false
set_option linter.unusedVariables false
open Go.RowKit Go.Maps
set_option linter.unusedVariables false
set_option linter.unnecessarySimpa false
set_option linter.unusedSimpArgs false
def stmP : Nat → BB
 | 0 => bb0
 | i + 1 => stmB i
theorem stmP_v (i : Nat) : (stmP i).v = i := by cases i <;> simp [stmP, stmB, bb0]
theorem stmP_hi (i : Nat) : (stmP i).hi = 10 * i := by cases i <;> simp [stmP, stmB, bb0]; omega
theorem fs_lt (i : Nat) (hi : i < 8) : fs i < 18446744073709551616 := by
 have hl : fsT.length = 8 := rfl
 refine fk_lt.1 _ ?_
 unfold fs
 rw [List.getD_eq_getElem?_getD, List.getElem?_eq_getElem (by omega)]
 exact List.getElem_mem _
theorem stm_dig (i : Nat) (hi : i < 7) : blkD (stmB i) = fs (i + 1) := by rw [blkD_C]; exact fs_step i hi
theorem stm_ok (i : Nat) (hi : i < 7) : (stmB i).ok := by
 have h := fs_lt i (by omega)
 constructor <;> simp [stmB, in64] <;> omega
def oneQP (s : Nat) : Nat → BB
 | 0 => stmP s
 | i + 1 => oneB s i
theorem oneQP_v (s i : Nat) : (oneQP s (i + 1)).v = s + 1 + 2 * i := by simp [oneQP, oneB]
theorem oneQP_hi (s i : Nat) : (oneQP s i).hi = 10 * s + 3 * i := by
 cases i with
 | zero => show (stmP s).hi = _; rw [stmP_hi]; simp
 | succ i => simp [oneQP, oneB]; omega
theorem oneQP_lt (s i : Nat) : (oneQP s i).v < s + 1 + 2 * i := by
 cases i with
 | zero => show (stmP s).v < _; rw [stmP_v]; omega
 | succ i => rw [oneQP_v]; omega
theorem oneQ_dig (s i : Nat) (hs : s < 8) (hi : i < 6) : blkD (oneB s i) = f1 s (i + 1) := by rw [blkD_C]; exact f1_step s hs i hi
theorem oneQ_lt (s i : Nat) (hs : s < 8) (hi : i < 7) : f1 s i < 18446744073709551616 := by
 have hl := (fk_len.2 s hs).1
 refine (fk_lt.2 s hs).1 _ ?_
 unfold f1
 generalize f1T.getD s [] = L at hl ⊢
 rw [List.getD_eq_getElem?_getD, List.getElem?_eq_getElem (by omega)]
 exact List.getElem_mem _
theorem oneQ_ok (s i : Nat) (hs : s < 8) (hi : i < 6) : (oneB s i).ok := by
 have h := oneQ_lt s i hs (by omega)
 constructor <;> simp [oneB, in64] <;> omega
def twoQP (s : Nat) : Nat → BB
 | 0 => stmP s
 | i + 1 => twoB s i
theorem twoQP_v (s i : Nat) : (twoQP s (i + 1)).v = s + 2 + 2 * i := by simp [twoQP, twoB]
theorem twoQP_hi (s i : Nat) : (twoQP s i).hi = 10 * s + 4 * i := by
 cases i with
 | zero => show (stmP s).hi = _; rw [stmP_hi]; simp
 | succ i => simp [twoQP, twoB]; omega
theorem twoQP_lt (s i : Nat) : (twoQP s i).v < s + 2 + 2 * i := by
 cases i with
 | zero => show (stmP s).v < _; rw [stmP_v]; omega
 | succ i => rw [twoQP_v]; omega
theorem twoQ_dig (s i : Nat) (hs : s < 8) (hi : i < 6) : blkD (twoB s i) = f2 s (i + 1) := by rw [blkD_C]; exact f2_step s hs i hi
theorem twoQ_lt (s i : Nat) (hs : s < 8) (hi : i < 7) : f2 s i < 18446744073709551616 := by
 have hl := (fk_len.2 s hs).2
 refine (fk_lt.2 s hs).2 _ ?_
 unfold f2
 generalize f2T.getD s [] = L at hl ⊢
 rw [List.getD_eq_getElem?_getD, List.getElem?_eq_getElem (by omega)]
 exact List.getElem_mem _
theorem twoQ_ok (s i : Nat) (hs : s < 8) (hi : i < 6) : (twoB s i).ok := by
 have h := twoQ_lt s i hs (by omega)
 constructor <;> simp [twoB, in64] <;> omega
/-- the tree: the stem, p of the one branch, q of the other -/
def KF (s p q : Nat) : BL := ((List.range (s + 1)).map fun i => (fs i, stmP i)) ++ ((List.range p).map fun i => (f1 s (i + 1), oneB s i)) ++ ((List.range q).map fun i => (f2 s (i + 1), twoB s i))
theorem KF_len (s p q : Nat) : (KF s p q).length = 1 + s + p + q := by simp [KF]; omega
theorem KF_keys (s p q : Nat) : (KF s p q).map (·.1) = (List.range (s + 1)).map fs ++ (List.range p).map (fun i => f1 s (i + 1)) ++ (List.range q).map (fun i => f2 s (i + 1)) := by simp [KF, Function.comp_def]
theorem kf_nd : ∀ s, s < 8 → ∀ p, p < 7 → ∀ q, q < 7 → ((List.range (s + 1)).map fs ++ (List.range p).map (fun i => f1 s (i + 1)) ++ (List.range q).map (fun i => f2 s (i + 1))).Nodup := by decide +kernel
theorem KF_nd (s p q : Nat) (hs : s < 8) (hp : p < 7) (hq : q < 7) : ((KF s p q).map (·.1)).Nodup := by rw [KF_keys]; exact kf_nd s hs p hp q hq
theorem bget_mem {K : BL} (hn : (K.map (·.1)).Nodup) {d : Nat} {b : BB} (h : (d, b) ∈ K) : bget K d = some b := by
 induction K with
 | nil => simp at h
 | cons y r ih =>
  rw [List.map_cons, List.nodup_cons] at hn
  rcases List.mem_cons.1 h with rfl | h
  ·simp [bget]
  ·have hne : y.1 ≠ d := fun e => hn.1 (e ▸ List.mem_map.2 ⟨_, h, rfl⟩)
   simp only [bget]
   rw [if_neg hne]
   exact ih hn.2 h
theorem kf_stm (s p q i : Nat) (hs : s < 8) (hp : p < 7) (hq : q < 7) (hi : i ≤ s) : bget (KF s p q) (fs i) = some (stmP i) :=
 bget_mem (KF_nd s p q hs hp hq) (by unfold KF; refine List.mem_append_left _ (List.mem_append_left _ (List.mem_map.2 ⟨i, List.mem_range.2 (by omega), rfl⟩)))
theorem kf_one (s p q i : Nat) (hs : s < 8) (hp : p < 7) (hq : q < 7) (hi : i ≤ p) : bget (KF s p q) (f1 s i) = some (oneQP s i) := by
 cases i with
 | zero => rw [f1_zero s hs]; exact kf_stm s p q s hs hp hq (Nat.le_refl _)
 | succ i => exact bget_mem (KF_nd s p q hs hp hq) (by unfold KF; refine List.mem_append_left _ (List.mem_append_right _ (List.mem_map.2 ⟨i, List.mem_range.2 (by omega), rfl⟩)))
theorem kf_two (s p q i : Nat) (hs : s < 8) (hp : p < 7) (hq : q < 7) (hi : i ≤ q) : bget (KF s p q) (f2 s i) = some (twoQP s i) := by
 cases i with
 | zero => rw [f2_zero s hs]; exact kf_stm s p q s hs hp hq (Nat.le_refl _)
 | succ i => exact bget_mem (KF_nd s p q hs hp hq) (by unfold KF; refine List.mem_append_right _ (List.mem_map.2 ⟨i, List.mem_range.2 (by omega), rfl⟩))
/-- what is added next is not there -/
theorem new_none {K : BL} {x : Nat × BB} (hn : ((K ++ [x]).map (·.1)).Nodup) : bget K x.1 = none := bget_noneO fun y hy e => by
 rw [List.map_append] at hn
 exact (List.nodup_append.1 hn).2.2 _ (List.mem_map.2 ⟨_, hy, rfl⟩) _ (by simp) e
theorem KF_stem (s : Nat) : KF (s + 1) 0 0 = KF s 0 0 ++ [(fs (s + 1), stmB s)] := by
 unfold KF
 rw [List.range_succ (n := s + 1)]
 simp [stmP]
theorem KF_one (s p : Nat) : KF s (p + 1) 0 = KF s p 0 ++ [(f1 s (p + 1), oneB s p)] := by
 unfold KF
 rw [List.range_succ (n := p)]
 simp
theorem KF_two (s p q : Nat) : KF s p (q + 1) = KF s p q ++ [(f2 s (q + 1), twoB s q)] := by
 unfold KF
 rw [List.range_succ (n := q)]
 simp
section
variable {t mb : Nat}
theorem addF_stem (s : Nat) (hs : s < 7) (w : World) (hS : Std w) (h : TreeB w t mb (KF s 0 0)) : Calls Tryd.prog 9 #[.pointer (some ⟨t, 0, none⟩), .agg (stmB s).z.C] w fun e w' => e = .returned (.int .i64 0) ∧ TreeB w' t mb (KF (s + 1) 0 0) ∧ Kp (fun i => i = mb) w w' := by
 have hn := KF_nd (s + 1) 0 0 (by omega) (by decide) (by decide)
 rw [KF_stem] at hn
 have := addB_yes (stmB s).z (stm_ok s hs) (fs (s + 1)) (stm_dig s hs) (stmP s) (new_none hn) (kf_stm s 0 0 s (by omega) (by decide) (by decide) (Nat.le_refl _)) (by show (stmP s).v < (s : Int) + 1; rw [stmP_v]; omega) (by show (10 * (s : Int)) = (stmP s).hi; rw [stmP_hi]) (by rw [KF_len]; omega) w hS h
 rwa [show KF s 0 0 ++ [(fs (s + 1), (stmB s).z.b)] = KF (s + 1) 0 0 from (KF_stem s).symm] at this
theorem addF_one (s p : Nat) (hs : s < 8) (hp : p < 6) (w : World) (hS : Std w) (h : TreeB w t mb (KF s p 0)) : Calls Tryd.prog 9 #[.pointer (some ⟨t, 0, none⟩), .agg (oneB s p).z.C] w fun e w' => e = .returned (.int .i64 0) ∧ TreeB w' t mb (KF s (p + 1) 0) ∧ Kp (fun i => i = mb) w w' := by
 have hn := KF_nd s (p + 1) 0 hs (by omega) (by decide)
 rw [KF_one] at hn
 have := addB_yes (oneB s p).z (oneQ_ok s p hs hp) (f1 s (p + 1)) (oneQ_dig s p hs hp) (oneQP s p) (new_none hn) (kf_one s p 0 p hs (by omega) (by decide) (Nat.le_refl _)) (by show (oneQP s p).v < (s : Int) + 1 + 2 * (p : Int); exact oneQP_lt s p) (by show (10 * (s : Int) + 3 * (p : Int)) = (oneQP s p).hi; rw [oneQP_hi]) (by rw [KF_len]; omega) w hS h
 rwa [show KF s p 0 ++ [(f1 s (p + 1), (oneB s p).z.b)] = KF s (p + 1) 0 from (KF_one s p).symm] at this
theorem addF_two (s p q : Nat) (hs : s < 8) (hp : p < 7) (hq : q < 6) (w : World) (hS : Std w) (h : TreeB w t mb (KF s p q)) : Calls Tryd.prog 9 #[.pointer (some ⟨t, 0, none⟩), .agg (twoB s q).z.C] w fun e w' => e = .returned (.int .i64 0) ∧ TreeB w' t mb (KF s p (q + 1)) ∧ Kp (fun i => i = mb) w w' := by
 have hn := KF_nd s p (q + 1) hs hp (by omega)
 rw [KF_two] at hn
 have := addB_yes (twoB s q).z (twoQ_ok s q hs hq) (f2 s (q + 1)) (twoQ_dig s q hs hq) (twoQP s q) (new_none hn) (kf_two s p q q hs hp (by omega) (Nat.le_refl _)) (by show (twoQP s q).v < (s : Int) + 2 + 2 * (q : Int); exact twoQP_lt s q) (by show (10 * (s : Int) + 4 * (q : Int)) = (twoQP s q).hi; rw [twoQP_hi]) (by rw [KF_len]; omega) w hS h
 rwa [show KF s p q ++ [(f2 s (q + 1), (twoB s q).z.b)] = KF s p (q + 1) from (KF_two s p q).symm] at this
/-! the ways -/
def wf : Nat → List Nat
 | 0 => [0]
 | i + 1 => fs (i + 1) :: wf i
def wg (s : Nat) (f : Nat → Nat) : Nat → List Nat
 | 0 => wf s
 | i + 1 => f (i + 1) :: wg s f i
theorem wf_len (s : Nat) : (wf s).length = s + 1 := by induction s with
 | zero => rfl
 | succ s ih => simp [wf, ih]
theorem wg_len (s : Nat) (f : Nat → Nat) (i : Nat) : (wg s f i).length = 1 + s + i := by induction i with
 | zero => show (wf s).length = _; rw [wf_len]; omega
 | succ i ih => simp [wg, ih]; omega
theorem wf_mem (s i : Nat) (h : i ≤ s) : fs i ∈ wf s := by
 induction s with
 | zero => obtain rfl : i = 0 := by omega
           simp [wf, fs, fsT]
 | succ s ih =>
  by_cases hi : i = s + 1
  ·subst hi; simp [wf]
  ·simp [wf, ih (by omega)]
theorem wg_mem (s : Nat) (f : Nat → Nat) (k i : Nat) (h : i ≤ s) : fs i ∈ wg s f k := by
 induction k with
 | zero => exact wf_mem s i h
 | succ k ih => simp [wg, ih]
theorem wf_in (s x : Nat) (h : x ∈ wf s) : ∃ i, i ≤ s ∧ x = fs i := by
 induction s with
 | zero => simp [wf] at h; exact ⟨0, by omega, by rw [h]; rfl⟩
 | succ s ih =>
  rcases List.mem_cons.1 h with rfl | h
  ·exact ⟨s + 1, by omega, rfl⟩
  ·obtain ⟨i, h1, h2⟩ := ih h; exact ⟨i, by omega, h2⟩
theorem wg_in (s : Nat) (f : Nat → Nat) (k x : Nat) (h : x ∈ wg s f k) : (∃ i, i ≤ s ∧ x = fs i) ∨ ∃ i, i < k ∧ x = f (i + 1) := by
 induction k with
 | zero => exact .inl (wf_in s x h)
 | succ k ih =>
  rcases List.mem_cons.1 h with rfl | h
  ·exact .inr ⟨k, by omega, rfl⟩
  ·rcases ih h with h | ⟨i, h1, h2⟩
   ·exact .inl h
   ·exact .inr ⟨i, by omega, h2⟩
theorem fs_ne0 : ∀ i, i < 7 → fs (i + 1) ≠ 0 := by decide +kernel
theorem fork_ne (s p q : Nat) (hs : s < 8) (hp : p < 7) (hq : q < 7) :
 (∀ i, i < s → fs (i + 1) ≠ 0) ∧ (∀ i, i < p → f1 s (i + 1) ≠ 0) ∧ (∀ i, i < q → f2 s (i + 1) ≠ 0) ∧ (∀ i j, i ≤ s → j < q → fs i ≠ f2 s (j + 1)) ∧ (∀ i j, i ≤ s → j < p → fs i ≠ f1 s (j + 1)) ∧ (∀ i j, i < p → j < q → f1 s (i + 1) ≠ f2 s (j + 1)) := by
 have hn := kf_nd s hs p hp q hq
 have h12 := List.nodup_append.1 hn
 have h01 := List.nodup_append.1 h12.1
 have z0 : fs 0 = 0 := rfl
 refine ⟨fun i hi e => ?_, fun i hi e => ?_, fun i hi e => ?_, fun i j hi hj e => ?_, fun i j hi hj e => ?_, fun i j hi hj e => ?_⟩
 ·exact fs_ne0 i (by omega) e
 ·exact h01.2.2 (fs 0) (List.mem_map.2 ⟨0, by simp, rfl⟩) (f1 s (i + 1)) (List.mem_map.2 ⟨i, by simp [hi], rfl⟩) (by rw [e]; rfl)
 ·exact h12.2.2 (fs 0) (List.mem_append_left _ (List.mem_map.2 ⟨0, by simp, rfl⟩)) (f2 s (i + 1)) (List.mem_map.2 ⟨i, by simp [hi], rfl⟩) (by rw [e]; rfl)
 ·exact h12.2.2 (fs i) (List.mem_append_left _ (List.mem_map.2 ⟨i, by simp; omega, rfl⟩)) (f2 s (j + 1)) (List.mem_map.2 ⟨j, by simp [hj], rfl⟩) e
 ·exact h01.2.2 (fs i) (List.mem_map.2 ⟨i, by simp; omega, rfl⟩) (f1 s (j + 1)) (List.mem_map.2 ⟨j, by simp [hj], rfl⟩) e
 ·exact h12.2.2 (f1 s (i + 1)) (List.mem_append_right _ (List.mem_map.2 ⟨i, by simp [hi], rfl⟩)) (f2 s (j + 1)) (List.mem_map.2 ⟨j, by simp [hj], rfl⟩) e
theorem way_f (s p q k : Nat) (hs : s < 8) (hp : p < 7) (hq : q < 7) (hk : k ≤ s) : WayB (KF s p q) (fs k) (wf k) := by
 induction k with
 | zero => exact .root (by rw [show (0 : Nat) = fs 0 from rfl, kf_stm s p q 0 hs hp hq (by omega)]; rfl)
 | succ k ih => exact .step ((fork_ne s p q hs hp hq).1 k (by omega)) (kf_stm s p q (k + 1) hs hp hq hk) (ih (by omega))
theorem way_1 (s p q k : Nat) (hs : s < 8) (hp : p < 7) (hq : q < 7) (hk : k ≤ p) : WayB (KF s p q) (f1 s k) (wg s (f1 s) k) := by
 induction k with
 | zero => rw [f1_zero s hs]; exact way_f s p q s hs hp hq (Nat.le_refl _)
 | succ k ih => exact .step ((fork_ne s p q hs hp hq).2.1 k (by omega)) (kf_one s p q (k + 1) hs hp hq hk) (ih (by omega))
theorem way_2 (s p q k : Nat) (hs : s < 8) (hp : p < 7) (hq : q < 7) (hk : k ≤ q) : WayB (KF s p q) (f2 s k) (wg s (f2 s) k) := by
 induction k with
 | zero => rw [f2_zero s hs]; exact way_f s p q s hs hp hq (Nat.le_refl _)
 | succ k ih => exact .step ((fork_ne s p q hs hp hq).2.2.1 k (by omega)) (kf_two s p q (k + 1) hs hp hq hk) (ih (by omega))
/-! what the calls come to -/
theorem extF_12 {s p q : Nat} (hs : s < 8) (hp1 : 0 < p) (hp : p < 7) (hq1 : 0 < q) (hq : q < 7) (w : World) (h : TreeB w t mb (KF s p q)) : Calls Tryd.prog 11 #[.pointer (some ⟨t, 0, none⟩), .int .u64 (f1 s p : Nat), .int .u64 (f2 s q : Nat)] w fun e w' => e = .returned (.bool false) ∧ Grew w w' := by
 have := extB (f1 s p) (f2 s q) _ (way_1 s p q p hs hp hq (Nat.le_refl _)) (by rw [wg_len]; omega) w h
 rwa [show decide (f2 s q ∈ wg s (f1 s) p) = false from decide_eq_false (fun hm => by
  have hne := (fork_ne s p q hs hp hq).2.2.2
  obtain ⟨j, rfl⟩ : ∃ j, q = j + 1 := ⟨q - 1, by omega⟩
  rcases wg_in _ _ _ _ hm with ⟨i, h1, h2⟩ | ⟨i, h1, h2⟩
  ·exact hne.1 i j h1 (by omega) h2.symm
  ·exact hne.2.2 i j h1 (by omega) h2.symm)] at this
theorem extF_21 {s p q : Nat} (hs : s < 8) (hp1 : 0 < p) (hp : p < 7) (hq1 : 0 < q) (hq : q < 7) (w : World) (h : TreeB w t mb (KF s p q)) : Calls Tryd.prog 11 #[.pointer (some ⟨t, 0, none⟩), .int .u64 (f2 s q : Nat), .int .u64 (f1 s p : Nat)] w fun e w' => e = .returned (.bool false) ∧ Grew w w' := by
 have := extB (f2 s q) (f1 s p) _ (way_2 s p q q hs hp hq (Nat.le_refl _)) (by rw [wg_len]; omega) w h
 rwa [show decide (f1 s p ∈ wg s (f2 s) q) = false from decide_eq_false (fun hm => by
  have hne := (fork_ne s p q hs hp hq).2.2.2
  obtain ⟨j, rfl⟩ : ∃ j, p = j + 1 := ⟨p - 1, by omega⟩
  rcases wg_in _ _ _ _ hm with ⟨i, h1, h2⟩ | ⟨i, h1, h2⟩
  ·exact hne.2.1 i j h1 (by omega) h2.symm
  ·exact hne.2.2 j i (by omega) h1 h2)] at this
theorem extF_1 {s p q : Nat} (hs : s < 8) (hp1 : 0 < p) (hp : p < 7) (hq1 : 0 < q) (hq : q < 7) (i : Nat) (hi : i ≤ s) (w : World) (h : TreeB w t mb (KF s p q)) : Calls Tryd.prog 11 #[.pointer (some ⟨t, 0, none⟩), .int .u64 (f1 s p : Nat), .int .u64 (fs i : Nat)] w fun e w' => e = .returned (.bool true) ∧ Grew w w' := by
 have := extB (f1 s p) (fs i) _ (way_1 s p q p hs hp hq (Nat.le_refl _)) (by rw [wg_len]; omega) w h
 rwa [show decide (fs i ∈ wg s (f1 s) p) = true from decide_eq_true (wg_mem s _ p i hi)] at this
theorem extF_2 {s p q : Nat} (hs : s < 8) (hp1 : 0 < p) (hp : p < 7) (hq1 : 0 < q) (hq : q < 7) (i : Nat) (hi : i ≤ s) (w : World) (h : TreeB w t mb (KF s p q)) : Calls Tryd.prog 11 #[.pointer (some ⟨t, 0, none⟩), .int .u64 (f2 s q : Nat), .int .u64 (fs i : Nat)] w fun e w' => e = .returned (.bool true) ∧ Grew w w' := by
 have := extB (f2 s q) (fs i) _ (way_2 s p q q hs hp hq (Nat.le_refl _)) (by rw [wg_len]; omega) w h
 rwa [show decide (fs i ∈ wg s (f2 s) q) = true from decide_eq_true (wg_mem s _ q i hi)] at this
theorem lenF {s p q : Nat} (hs : s < 8) (hp1 : 0 < p) (hp : p < 7) (hq1 : 0 < q) (hq : q < 7) (w : World) (h : TreeB w t mb (KF s p q)) : Calls Tryd.prog 12 #[.pointer (some ⟨t, 0, none⟩)] w fun e w' => e = .returned (.int .i64 (1 + (s : Int) + (p : Int) + (q : Int))) ∧ Grew w w' := by
 have := lenB w h
 rw [KF_len, show (((1 + s + p + q : Nat)) : Int) = 1 + (s : Int) + (p : Int) + (q : Int) by omega] at this
 exact this
theorem pathF_1 {s p q : Nat} (hs : s < 8) (hp1 : 0 < p) (hp : p < 7) (hq1 : 0 < q) (hq : q < 7) (w : World) (h : TreeB w t mb (KF s p q)) : Calls Tryd.prog 13 #[.pointer (some ⟨t, 0, none⟩), .int .u64 (f1 s p : Nat)] w fun e w' => ∃ B c, e = .returned (.slice B (1 + s + p) c) ∧ Grew w w' := by
 refine (pathB (f1 s p) _ (way_1 s p q p hs hp hq (Nat.le_refl _)) (by rw [wg_len]; omega) w h).mono ?_
 rintro e w' ⟨B, c, rfl, _, _, g⟩
 exact ⟨B, c, by rw [wg_len], g⟩
theorem pathF_2 {s p q : Nat} (hs : s < 8) (hp1 : 0 < p) (hp : p < 7) (hq1 : 0 < q) (hq : q < 7) (w : World) (h : TreeB w t mb (KF s p q)) : Calls Tryd.prog 13 #[.pointer (some ⟨t, 0, none⟩), .int .u64 (f2 s q : Nat)] w fun e w' => ∃ B c, e = .returned (.slice B (1 + s + q) c) ∧ Grew w w' := by
 refine (pathB (f2 s q) _ (way_2 s p q q hs hp hq (Nat.le_refl _)) (by rw [wg_len]; omega) w h).mono ?_
 rintro e w' ⟨B, c, rfl, _, _, g⟩
 exact ⟨B, c, by rw [wg_len], g⟩
theorem comF_1 {s p q : Nat} (hs : s < 8) (hp1 : 0 < p) (hp : p < 7) (hq1 : 0 < q) (hq : q < 7) (w : World) (h : TreeB w t mb (KF s p q)) : Calls Tryd.prog 14 #[.pointer (some ⟨t, 0, none⟩), .int .u64 (f1 s p : Nat)] w fun e w' => ∃ v : Nat, e = .returned (.tuple #[.int .u64 (v : Nat), .bool (decide (p = 1 ∧ 2 ≤ s))]) ∧ Grew w w' := by
 have hW := way_1 s p q p hs hp hq (Nat.le_refl _)
 by_cases hsh : 1 + s + p < 4
 ·refine (commitB_short (f1 s p) _ hW (by rw [wg_len]; exact hsh) w h).mono ?_
  rintro e w' ⟨rfl, g⟩
  exact ⟨0, by rw [decide_eq_false (by omega)]; rfl, g⟩
 ·obtain ⟨p, rfl⟩ : ∃ k, p = k + 1 := ⟨p - 1, by omega⟩
  have k1 := kf_one s (p + 1) q (p + 1) hs hp hq (Nat.le_refl _)
  have k2 := kf_one s (p + 1) q p hs hp hq (by omega)
  rcases p with _ | p
  ·obtain ⟨s, rfl⟩ : ∃ k, s = k + 2 := ⟨s - 2, by omega⟩
   have k2 := kf_stm (s + 2) (0 + 1) q (s + 2) hs hp hq (by omega)
   have k3 := kf_stm (s + 2) (0 + 1) q (s + 1) hs hp hq (by omega)
   refine (commitB_long (f1 (s + 2) (0 + 1)) (fs (s + 2)) (fs (s + 1)) (wf s) _ _ _ hW (fun e => by have := wf_len s; rw [e, List.length_nil] at this; omega) (by rw [wf_len]; omega) k1 k2 k3 (by rw [stmP_v]; omega) (by rw [stmP_v]; omega) true (by rw [oneQP_v, stmP_v, stmP_v]; first | (simp; omega) | simp) w h).mono ?_
   rintro e w' ⟨rfl, g⟩
   exact ⟨_, by rw [decide_eq_true (by omega)], g⟩
  ·obtain ⟨d2, r, b2, hr, hg2, hrn, hrl, hv2⟩ : ∃ d2 r b2, wg s (f1 s) p = d2 :: r ∧ bget (KF s (p + 1 + 1) q) d2 = some b2 ∧ r ≠ [] ∧ r.length < 100 ∧ (0 ≤ b2.v ∧ b2.v ≤ 100) := by
    rcases p with _ | p
    ·obtain ⟨s, rfl⟩ : ∃ k, s = k + 1 := ⟨s - 1, by omega⟩
     exact ⟨fs (s + 1), wf s, stmP (s + 1), rfl, kf_stm (s + 1) _ q (s + 1) hs hp hq (by omega), (fun e => by have := wf_len s; rw [e, List.length_nil] at this; omega), (by rw [wf_len]; omega), by rw [stmP_v]; omega⟩
    ·exact ⟨f1 s (p + 1), wg s (f1 s) p, oneQP s (p + 1), rfl, kf_one s _ q (p + 1) hs hp hq (by omega), (fun e => by have := wg_len s (f1 s) p; rw [e, List.length_nil] at this; omega), (by rw [wg_len]; omega), by rw [oneQP_v]; omega⟩
   have hW' : WayB (KF s (p + 1 + 1) q) (f1 s (p + 1 + 1)) (f1 s (p + 1 + 1) :: f1 s (p + 1) :: d2 :: r) := by rw [← hr]; exact hW
   refine (commitB_long (f1 s (p + 1 + 1)) (f1 s (p + 1)) d2 r _ _ _ hW' hrn (by omega) k1 k2 hg2 (by rw [oneQP_v]; omega) (by omega) false (by rw [oneQP_v, oneQP_v]; first | (simp; omega) | simp) w h).mono ?_
   rintro e w' ⟨rfl, g⟩
   exact ⟨_, by rw [decide_eq_false (by omega)], g⟩
theorem comF_2 {s p q : Nat} (hs : s < 8) (hp1 : 0 < p) (hp : p < 7) (hq1 : 0 < q) (hq : q < 7) (w : World) (h : TreeB w t mb (KF s p q)) : Calls Tryd.prog 14 #[.pointer (some ⟨t, 0, none⟩), .int .u64 (f2 s q : Nat)] w fun e w' => ∃ v : Nat, e = .returned (.tuple #[.int .u64 (v : Nat), .bool false]) ∧ Grew w w' := by
 have hW := way_2 s p q q hs hp hq (Nat.le_refl _)
 by_cases hsh : 1 + s + q < 4
 ·refine (commitB_short (f2 s q) _ hW (by rw [wg_len]; exact hsh) w h).mono ?_
  rintro e w' ⟨rfl, g⟩
  exact ⟨0, rfl, g⟩
 ·obtain ⟨q, rfl⟩ : ∃ k, q = k + 1 := ⟨q - 1, by omega⟩
  have k1 := kf_two s p (q + 1) (q + 1) hs hp hq (Nat.le_refl _)
  have k2 := kf_two s p (q + 1) q hs hp hq (by omega)
  rcases q with _ | q
  ·obtain ⟨s, rfl⟩ : ∃ k, s = k + 2 := ⟨s - 2, by omega⟩
   have k2 := kf_stm (s + 2) p (0 + 1) (s + 2) hs hp hq (by omega)
   have k3 := kf_stm (s + 2) p (0 + 1) (s + 1) hs hp hq (by omega)
   refine (commitB_long (f2 (s + 2) (0 + 1)) (fs (s + 2)) (fs (s + 1)) (wf s) _ _ _ hW (fun e => by have := wf_len s; rw [e, List.length_nil] at this; omega) (by rw [wf_len]; omega) k1 k2 k3 (by rw [stmP_v]; omega) (by rw [stmP_v]; omega) false (by rw [twoQP_v, stmP_v, stmP_v]; first | (simp; omega) | simp) w h).mono ?_
   rintro e w' ⟨rfl, g⟩
   exact ⟨_, rfl, g⟩
  ·obtain ⟨d2, r, b2, hr, hg2, hrn, hrl, hv2⟩ : ∃ d2 r b2, wg s (f2 s) q = d2 :: r ∧ bget (KF s p (q + 1 + 1)) d2 = some b2 ∧ r ≠ [] ∧ r.length < 100 ∧ (0 ≤ b2.v ∧ b2.v ≤ 100) := by
    rcases q with _ | q
    ·obtain ⟨s, rfl⟩ : ∃ k, s = k + 1 := ⟨s - 1, by omega⟩
     exact ⟨fs (s + 1), wf s, stmP (s + 1), rfl, kf_stm (s + 1) p _ (s + 1) hs hp hq (by omega), (fun e => by have := wf_len s; rw [e, List.length_nil] at this; omega), (by rw [wf_len]; omega), by rw [stmP_v]; omega⟩
    ·exact ⟨f2 s (q + 1), wg s (f2 s) q, twoQP s (q + 1), rfl, kf_two s p _ (q + 1) hs hp hq (by omega), (fun e => by have := wg_len s (f2 s) q; rw [e, List.length_nil] at this; omega), (by rw [wg_len]; omega), by rw [twoQP_v]; omega⟩
   have hW' : WayB (KF s p (q + 1 + 1)) (f2 s (q + 1 + 1)) (f2 s (q + 1 + 1) :: f2 s (q + 1) :: d2 :: r) := by rw [← hr]; exact hW
   refine (commitB_long (f2 s (q + 1 + 1)) (f2 s (q + 1)) d2 r _ _ _ hW' hrn (by omega) k1 k2 hg2 (by rw [twoQP_v]; omega) (by omega) false (by rw [twoQP_v, twoQP_v]; first | (simp; omega) | simp) w h).mono ?_
   rintro e w' ⟨rfl, g⟩
   exact ⟨_, rfl, g⟩
end
end Go.Proofs.YtbohmmcmlabcdaaDoor
