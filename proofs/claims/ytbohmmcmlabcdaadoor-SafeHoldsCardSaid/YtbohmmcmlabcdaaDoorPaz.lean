/- Trees: Path, Extends, Twin (mktrf.py). -/
import Derived.Test.YtbohmmcmlabcdaaDoorPay
import Derived.Test.YtbohmmcmlabcdaaDoorPaq
import Derived.Test.YtbohmmcmlabcdaaDoorPas
import Derived.Test.YtbohmmcmlabcdaaDoorPaj
import Derived.Test.YtbohmmcmlabcdaaDoorPax
import Derived.Test.YtbohmmcmlabcdaaDoorPam
namespace Go.Proofs.YtbohmmcmlabcdaaDoor
set_option linter.unusedSimpArgs false
set_option linter.unusedVariables false
open Go.RowKit Go.Maps Go.Sort
set_option linter.unusedVariables false
set_option linter.unnecessarySimpa false
set_option linter.unusedSimpArgs false
theorem Way.inv {L : TL} {c : Nat} {s : List Nat} (h : Way L c (c :: s)) : (c = 0 ∧ s = []) ∨ (c ≠ 0 ∧ ∃ n, tget L c = some n ∧ Way L n.b.p s) := by
 cases h with
 | root h => exact .inl ⟨rfl, rfl⟩
 | step h1 h2 h3 => exact .inr ⟨h1, _, h2, h3⟩
theorem TreeS.lt {w : World} {t mb : Nat} {L : TL} (h : TreeS w t mb L) {d : Nat} {n : NB} (hg : tget L d = some n) : d < 18446744073709551616 := (h.ok _ (tget_mem hg)).1
theorem nb_field (n : NB) (W : World) : (Instr.field 33 (.agg #[.int .i64 n.b.v, .int .u64 n.b.p, .int .i64 n.b.qv, .int .u64 n.b.qb, .slice n.A 0 n.c, .int .i64 n.b.lo, .int .i64 n.b.hi, .slice n.A' 0 n.c']) 1).run Tryd.prog W = .ok (.int .u64 (n.b.p : Nat)) W := by kernel_rfl
set_option maxRecDepth 100000 in
set_option maxHeartbeats 1000000 in
theorem pclo_ok {t mb : Nat} {L : TL} (d : Nat) (n : NB) (hg : tget L d = some n) (bx : Nat) (w : World) (h : TreeS w t mb L) (hb : w.cell? ⟨bx, 0, none⟩ = some (.pointer (some ⟨t, 0, none⟩))) :
 Calls Tryd.prog 29 #[.int .u64 (d : Nat), .pointer (some ⟨bx, 0, none⟩)] w fun e w' => e = .returned (.tuple #[.int .u64 (n.b.p : Nat), .bool (decide (d ≠ 0))]) ∧ Grew w w' := by
 have hu := (h.look d).1
 rw [hg] at hu
 dsimp only [Option.getD] at hu
 have hc := h.cell
 have hown := h.own
 have hkey := dig_key d (h.lt hg)
 have hfd := fun W => nb_field n W
 have e1 : ((d : Int) != 0) = decide (d ≠ 0) := by by_cases hd : d = 0 <;> simp [hd]
 obtain ⟨zb, hzb⟩ : ∃ b, decide (d ≠ 0) = b := ⟨_, rfl⟩
 rw [hzb] at e1 ⊢
 clear h hg hzb
 go_enter Tryd.func29, Tryd.ntmps29
 go_wp2_with (at_lookup; refine wpList_lookup_held _ rfl _ _ 58 rfl 26 33 dig_law Tryd.underlying58 (nb_zero _) mb L.length _ rfl hown _ _ rfl hkey (.agg #[.int .i64 n.b.v, .int .u64 n.b.p, .int .i64 n.b.qv, .int .u64 n.b.qb, .slice n.A 0 n.c, .int .i64 n.b.lo, .int .i64 n.b.hi, .slice n.A' 0 n.c']) hu ?_)
 go_ret2
 exact ⟨rfl, grew_refl _⟩
def slLen : Value → Nat
 | .slice _ n _ => n
 | _ => 0
set_option maxRecDepth 100000 in
set_option maxHeartbeats 2000000 in
theorem walk_ok {t mb : Nat} {L : TL} (d : Nat) (l : List Nat) (hW : Way L d l) (hl : l.length ≤ 100000) (bx : Nat) (w : World) (h : TreeS w t mb L) (hb : w.cell? ⟨bx, 0, none⟩ = some (.pointer (some ⟨t, 0, none⟩))) :
 Calls Tryd.prog 28 #[.int .u64 (d : Nat), .func (.func 29) #[] #[.pointer (some ⟨bx, 0, none⟩)]] w fun e w' => ∃ v, e = .returned v ∧ w'.ownsRow w.heap.size 26 1 v l.length (u64L l) ∧ Grew w w' := by
 obtain ⟨i0, hi, hz0, hz1, hz2⟩ := info_parts infoD
 have HC : Hid (∀ W, Grew w W → ∀ c, (tget L c).isSome = true → Calls Tryd.prog 29 #[.int .u64 (c : Nat), .pointer (some ⟨bx, 0, none⟩)] W fun e w' => e = .returned (.tuple #[.int .u64 (((tget L c).getD bb0.z).b.p : Nat), .bool (decide (c ≠ 0))]) ∧ Grew W w') := Lib.hid (fun W g c hc => by
  cases hg : tget L c with
  | none => rw [hg] at hc; cases hc
  | some n =>
   refine pclo_ok c n hg bx W (h.gr g) ?_
   exact ltcell_gr hb g)
 have hown0 : (w.alloc (.cells #[.int .u64 (d : Nat)] 26)).ownsRow w.heap.size 26 1 (.slice (some ⟨w.heap.size, 0, none⟩) 1 1) 1 (u64L [d]) :=
  ⟨by simp [u64L], .inr ⟨w.heap.size, 1, #[.int .u64 (d : Nat)], rfl, Nat.le_refl _, heap_alloc_new w _, Nat.le_refl _, by unfold maxLen; omega, rfl, by simp [u64L]⟩⟩
 have G0 := grew_alloc (grew_refl w) (.cells #[.int .u64 (d : Nat)] 26)
 have CC := Lib.hid (HC.out _ G0 d hW.has)
 obtain ⟨pd, hpd⟩ : ∃ p, ((tget L d).getD bb0.z).b.p = p := ⟨_, rfl⟩
 obtain ⟨zb, hzb⟩ : ∃ b, decide (d ≠ 0) = b := ⟨_, rfl⟩
 rw [hpd, hzb] at CC
 have HPD := Lib.hid hpd
 have HZB := Lib.hid hzb
 have HL := Lib.hid hl
 have HW := Lib.hid hW
 clear h hb hW hl hpd hzb
 go_enter Tryd.func28, Tryd.ntmps28
 go_wp2_with fail
 refine (CC.out).mono ?_
 rintro e w1 ⟨rfl, g1⟩
 have G1 := grew_trans G0 g1
 have hown1 := ownsRow_gr hown0 g1
 clear CC G0 g1 hown0
 go_wp2_with fail
 go_loopw [5, 6, 7] (fun rv av bv wr => ∃ (p : Value) (r s : List Nat) (c : Nat) (b : Bool), p = rv ∧ l = r ++ s ∧ av = .int .u64 (c : Nat) ∧ bv = .bool b ∧ wr.ownsRow w.heap.size 26 1 p r.length (u64L r) ∧ Grew w wr ∧ (b = false → s = []) ∧ (b = true → Way L c s)) (fun rv _ _ _ => l.length - slLen rv)
 case atStart =>
  obtain ⟨s, hs⟩ := HW.out.head
  have hW := HW.out
  rw [hs] at hW
  refine ⟨_, [d], s, pd, zb, rfl, hs, rfl, rfl, hown1, G1, fun h => ?_, fun h => ?_⟩
  ·rw [← HZB.out] at h
   rcases hW.inv with ⟨_, h2⟩ | ⟨h1, _⟩
   ·exact h2
   ·exact absurd h1 (of_decide_eq_false h)
  ·rw [← HZB.out] at h
   rcases hW.inv with ⟨h1, _⟩ | ⟨_, n, h2, h3⟩
   ·exact absurd h1 (of_decide_eq_true h)
   ·rw [← HPD.out, h2]; exact h3
 case round =>
  clear hown1 G1
  obtain ⟨p, r, s, c, b, hp, hls, rfl, rfl, hrow, hg, hb0, hb1⟩ := hrel
  subst hp
  cases b
  ·have hs := hb0 rfl
   have hlr : l = r := by rw [hls, hs, List.append_nil]
   rw [← hlr] at hrow
   clear hls hb0 hb1 hs hlr
   go_wp2_with fail
   go_ret
   exact ⟨_, rfl, hrow, hg⟩
  ·have hW := hb1 rfl
   obtain ⟨s', hs⟩ := hW.head
   have hsome := hW.has
   rw [hs] at hW
   have hlen : l.length = r.length + (s'.length + 1) := by rw [hls, hs]; simp
   have HLN := Lib.hid hlen
   have HLS : Hid (l = (r ++ [c]) ++ s') := Lib.hid (by rw [hls, hs]; simp)
   have HWI := Lib.hid hW.inv
   have HSM := Lib.hid hsome
   have hrl : r.length < 100000 := by have := HL.out; omega
   clear hb0 hb1 hls hs hW hsome hlen
   have hsz := hg.size
   have HSL : Hid (slLen p = r.length) := Lib.hid (by obtain ⟨A2, c2, e2, _⟩ := own_rd hrow; rw [e2]; rfl)
   go_wp2_with (at_builtin; refine wpList_append_rd rfl (.tmp 23) (.tmp 25) 27 rfl w.heap.size 26 i0 (.int .u64 0) 8 Tryd.underlying27 hi hz0 hz1 hz2 rfl _ r.length _ rfl (hrow.alloc _) (wr.heap.size + 1) (some ⟨wr.heap.size, 0, none⟩) 1 1 [.int .u64 (c : Nat)] rfl rfl (rd_new wr 26 #[.int .u64 (c : Nat)] (0, 0)) (one_cell rfl) (by unfold maxLen; omega) (by omega) (by simp; omega) ?_; intro v' w5 hown5 hgrow5 _)
   have G5 := grew_put hg hgrow5 (own_base hrow)
   refine (HC.out _ G5 c HSM.out).mono ?_
   rintro e w6 ⟨rfl, g6⟩
   have hown6 := ownsRow_gr hown5 g6
   have G6 := grew_trans G5 g6
   clear hown5 hgrow5 hrow g6 G5 hg
   go_wp2_with fail
   go_roundw
   case rel =>
    refine ⟨_, r ++ [c], s', _, _, rfl, HLS.out, rfl, rfl, by simpa [u64L] using hown6, G6, fun h => ?_, fun h => ?_⟩
    ·rcases HWI.out with ⟨_, h2⟩ | ⟨h1, _⟩
     ·exact h2
     ·simp at h; exact absurd h h1
    ·rcases HWI.out with ⟨h1, _⟩ | ⟨_, n, h2, h3⟩
     ·simp at h; exact absurd h1 h
     ·rw [h2]; exact h3
   case measure =>
    obtain ⟨A1, c1, e1, _⟩ := own_rd hown6
    rw [e1, HSL.out]
    simp only [slLen]
    have := HLN.out
    omega
end Go.Proofs.YtbohmmcmlabcdaaDoor

namespace Go.Proofs.YtbohmmcmlabcdaaDoor
set_option linter.unusedSimpArgs false
set_option linter.unusedVariables false
open Go.RowKit Go.Maps Go.Sort
set_option linter.unusedVariables false
set_option linter.unnecessarySimpa false
set_option linter.unusedSimpArgs false
theorem own_openU {w : World} {base : Nat} {e : TypeId} {n g cap : Nat} {xs : List Value} (h : w.ownsRow base e 1 (.slice (some ⟨g, 0, none⟩) n cap) n xs) : base ≤ g ∧ ∃ cur, Bk w g e cur ∧ n ≤ cap ∧ cur.size = cap ∧ cur.toList.take n = xs := by
 obtain ⟨_, hq | ⟨g2, cap2, cur, hq, hg2, hbk, hk2, _, hcs, htk⟩⟩ := h
 ·cases hq.1
 ·injection hq with hq1 hq2 hq3
  injection hq1 with hq1
  injection hq1 with hq1
  subst hq1 hq3
  exact ⟨hg2, cur, hbk, hk2, by rw [hcs, Nat.mul_one], by rw [← htk, Nat.mul_one]⟩
set_option maxRecDepth 100000 in
set_option maxHeartbeats 1000000 in
theorem path_none_ok {t mb : Nat} {L : TL} (d : Nat) (hd : d < 18446744073709551616) (hg : tget L d = none) (w : World) (h : TreeS w t mb L) :
 Calls Tryd.prog 13 #[.pointer (some ⟨t, 0, none⟩), .int .u64 (d : Nat)] w fun e w' => e = .returned (.slice none 0 0) ∧ Grew w w' := by
 have G0 := grew_alloc (grew_refl w) (.cells #[.pointer (some ⟨t, 0, none⟩)] 23)
 have CH := Lib.hid (thas_ok d hd _ (h.gr G0))
 rw [hg] at CH
 dsimp only [Option.isSome] at CH
 clear h hg hd
 go_enter Tryd.func13, Tryd.ntmps13
 go_wp2_with fail
 refine (CH.out).mono ?_
 rintro e w1 ⟨rfl, g1⟩
 go_wp2_with fail
 go_ret
 exact ⟨rfl, grew_trans G0 g1⟩
theorem rev_rd {w w1 : World} {base g cap k : Nat} {l : List Nat} (h : w1.ownsRow base 26 1 (.slice (some ⟨g, 0, none⟩) l.length cap) l.length (u64L l)) :
 Holds digV w1 g 0 l.toArray ∧ Rd (putRow digV (Sort.ahead w1 k) g 0 l.reverse.toArray) (putRow digV (Sort.ahead w1 k) g 0 l.reverse.toArray).heap.size (some ⟨g, 0, none⟩) (u64L l.reverse) ∧ Kp (fun i => i = g) w1 (putRow digV (Sort.ahead w1 k) g 0 l.reverse.toArray) := by
 obtain ⟨hb, cur, hbk, hle, hcs, htk⟩ := own_openU h
 have hlt : g < w1.heap.size := hbk.lt
 replace hbk : w1.heap[g]? = some (.cells cur 26 (0, 0)) := hbk
 have hH : Holds digV w1 g 0 l.toArray := fun j hj => by
  have hj' : j < l.length := by simpa using hj
  have hjc : j < cur.size := by omega
  have e : cur[j]? = some (digV l[j]) := by
   have h1 : (cur.toList.take l.length)[j]? = (u64L l)[j]? := by rw [htk]
   rw [List.getElem?_take_of_lt hj'] at h1
   simpa [u64L, digV, hj'] using h1
  refine ⟨?_, by simp only [World.frozen?, hbk]; simp⟩
  simp only [World.cell?, hbk, Nat.zero_add, e]
  simp [hj']
 have hsz : (putRow digV (Sort.ahead w1 k) g 0 l.reverse.toArray).heap.size = w1.heap.size := by simp [putRow, mapBlock, Sort.ahead]
 refine ⟨hH, ?_, ?_⟩
 ·intro j hj
  have hj' : j < l.reverse.length := by simpa [u64L] using hj
  refine ⟨_, rfl, by rw [hsz]; exact hlt, ?_⟩
  have ha : (⟨g, 0, none⟩ : Addr).add j = ⟨g, 0 + j, none⟩ := by unfold Addr.add; split <;> simp_all
  rw [ha, cell?_putRow digV (Sort.ahead w1 k) g 0 l.toArray l.reverse.toArray (holds_ahead digV w1 k g 0 _ hH) (by simp) j (by simpa using hj')]
  have hj2 : j < l.length := by simpa using hj'
  simp [u64L, digV, hj2]
 ·refine ⟨rfl, rfl, rfl, by rw [hsz]; exact Nat.le_refl _, fun i hi hn => ?_⟩
  have hne : g ≠ i := fun e => hn e.symm
  simp [putRow, mapBlock, Sort.ahead, Array.getElem?_modify, hne]
set_option maxRecDepth 100000 in
set_option maxHeartbeats 1000000 in
theorem path_ok {t mb : Nat} {L : TL} (d : Nat) (l : List Nat) (hW : Way L d l) (hl : l.length ≤ 100000) (w : World) (h : TreeS w t mb L) :
 Calls Tryd.prog 13 #[.pointer (some ⟨t, 0, none⟩), .int .u64 (d : Nat)] w fun e w' => ∃ B c, e = .returned (.slice B l.length c) ∧ Rd w' w'.heap.size B (u64L l.reverse) ∧ l.length ≤ c ∧ Grew w w' := by
 have G0 := grew_alloc (grew_refl w) (.cells #[.pointer (some ⟨t, 0, none⟩)] 23)
 obtain ⟨nd, hnd⟩ := Option.isSome_iff_exists.1 hW.has
 have CH := Lib.hid (thas_ok d (h.lt hnd) _ (h.gr G0))
 rw [hnd] at CH
 dsimp only [Option.isSome] at CH
 have HW := Lib.hid hW
 have HL := Lib.hid hl
 have HT := Lib.hid (h.gr G0)
 have HB : Hid ((w.alloc (.cells #[.pointer (some ⟨t, 0, none⟩)] 23)).cell? ⟨w.heap.size, 0, none⟩ = some (.pointer (some ⟨t, 0, none⟩))) := Lib.hid (by simp)
 have hne : l.length ≠ 0 := fun e => hW.ne (List.length_eq_zero_iff.1 e)
 have HNE := Lib.hid hne
 clear h hnd hW hl hne
 go_enter Tryd.func13, Tryd.ntmps13
 go_wp2_with fail
 refine (CH.out).mono ?_
 rintro e w1 ⟨rfl, g1⟩
 have CW := Lib.hid (walk_ok d l HW.out HL.out w.heap.size w1 (HT.out.gr g1) (ltcell_gr HB.out g1))
 have G1 := grew_trans G0 g1
 clear CH HT HB G0 g1
 go_wp2_with fail
 refine (CW.out).mono ?_
 rintro e w2 ⟨v, rfl, hrow, g2⟩
 obtain ⟨g, cap, rfl⟩ : ∃ g cap, v = .slice (some ⟨g, 0, none⟩) l.length cap := by
  rcases hrow.2 with ⟨rfl, h0⟩ | ⟨g, cap, cur, rfl, _⟩
  ·exact absurd h0 HNE.out
  ·exact ⟨g, cap, rfl⟩
 have hgb := own_base hrow g rfl
 have G2 := grew_trans G1 g2
 have hcap : l.length ≤ cap := by obtain ⟨_, cur, _, hle, _⟩ := own_openU hrow; exact hle
 have CR := Lib.hid (rev_dig g 0 cap l w2 (rev_rd (w := w) (k := 0) hrow).1 (by have := HL.out; omega))
 have HROW := Lib.hid hrow
 have hs1 := G1.size
 clear CW hrow g2 G1
 go_wp2_with fail
 refine (CR.out).mono ?_
 rintro e w3 ⟨rfl, k, rfl⟩
 obtain ⟨_, hR, hK⟩ := rev_rd (w := w) (k := k) HROW.out
 have G3 : Grew w (putRow digV (Sort.ahead w2 k) g 0 l.reverse.toArray) := below_kp G2 hK G2.size (fun i e => by have e' : i = g := e; omega)
 clear CR HROW hK G2
 generalize putRow digV (Sort.ahead w2 k) g 0 l.reverse.toArray = w4 at *
 go_wp2_with fail
 go_ret
 exact ⟨_, _, rfl, hR, hcap, G3⟩
set_option maxRecDepth 100000 in
set_option maxHeartbeats 1000000 in
theorem index_ok (A : Option Addr) (c : Nat) (l : List Nat) (hl : l.length ≤ 100000) (x : Nat) (w : World) (hr : Rd w w.heap.size A (u64L l)) :
 Calls Tryd.prog 44 #[.slice A l.length c, .int .u64 (x : Nat)] w fun e w' => ∃ z : Int, e = .returned (.int .i64 z) ∧ decide (0 ≤ z) = decide (x ∈ l) ∧ Grew w w' := by
 go_enter Tryd.func44, Tryd.ntmps44
 go_wp2_with fail
 go_loopw [8] (fun iv wr => ∃ k : Nat, k ≤ l.length ∧ iv = .int .i64 (k : Int) ∧ x ∉ l.take k ∧ wr = w) (fun iv _ => l.length - (Go.RowKit.intOf iv).toNat)
 case atStart => exact ⟨0, Nat.zero_le _, rfl, by simp, rfl⟩
 case round =>
  obtain ⟨k, hk, rfl, hno, rfl⟩ := hrel
  by_cases hlt : k < l.length
  ·obtain ⟨ad, rfl, hbl, hc0⟩ := rd_u64 hr k hlt
   have hk0 : (0 : Int) ≤ (k : Int) := by omega
   have hk1 : (k : Int) < (l.length : Int) := by omega
   have e4 : IntKind.i64.wrap ((k : Int) + 1) = (k : Int) + 1 := IntWalk.i64_in _ (by omega)
   have HTS : Hid (l.take (k + 1) = l.take k ++ [l[k]]) := Lib.hid (by rw [List.take_succ_eq_append_getElem hlt])
   have HM : Hid (l[k] ∈ l) := Lib.hid (List.getElem_mem hlt)
   have HLT := Lib.hid hlt
   have HNO := Lib.hid hno
   generalize l[k] = y at *
   by_cases hxy : x = y
   ·have e1 : ((x : Int) == (y : Int)) = true := by simp [hxy]
    have HMX : Hid (decide (x ∈ l) = true) := Lib.hid (decide_eq_true (by rw [hxy]; exact HM.out))
    clear hxy hno hlt HTS HNO
    go_wp2_with fail
    go_ret
    exact ⟨(k : Int), rfl, by rw [HMX.out]; exact decide_eq_true hk0, grew_refl _⟩
   ·have e1 : ((x : Int) == (y : Int)) = false := by simp; omega
    have HXY := Lib.hid hxy
    clear hxy hno hlt
    go_wp2_with fail
    go_roundw
    case rel => exact ⟨k + 1, by have := HLT.out; omega, by go_num, by rw [HTS.out]; simp [HNO.out, HXY.out], by trivial⟩
    case measure => have := HLT.out; simp [Go.RowKit.intOf]; omega
  ·obtain rfl : k = l.length := by omega
   rw [List.take_length] at hno
   have HMX : Hid (decide (x ∈ l) = false) := Lib.hid (decide_eq_false hno)
   clear hno hlt
   go_wp2_with fail
   go_ret
   exact ⟨-1, rfl, by rw [HMX.out]; rfl, grew_refl _⟩
set_option maxRecDepth 100000 in
theorem contains_ok (A : Option Addr) (c : Nat) (l : List Nat) (hl : l.length ≤ 100000) (x : Nat) (w : World) (hr : Rd w w.heap.size A (u64L l)) :
 Calls Tryd.prog 27 #[.slice A l.length c, .int .u64 (x : Nat)] w fun e w' => e = .returned (.bool (decide (x ∈ l))) ∧ Grew w w' := by
 have CI := Lib.hid (index_ok A c l hl x w hr)
 generalize decide (x ∈ l) = b at *
 clear hr
 go_enter Tryd.func27, Tryd.ntmps27
 go_wp2_with fail
 refine (CI.out).mono ?_
 rintro e w1 ⟨z, rfl, hz, g1⟩
 go_wp2_with fail
 go_ret
 exact ⟨rfl, g1⟩
set_option maxRecDepth 100000 in
theorem ext_ok {t mb : Nat} {L : TL} (d x : Nat) (l : List Nat) (hW : Way L d l) (hl : l.length ≤ 100000) (w : World) (h : TreeS w t mb L) :
 Calls Tryd.prog 11 #[.pointer (some ⟨t, 0, none⟩), .int .u64 (d : Nat), .int .u64 (x : Nat)] w fun e w' => e = .returned (.bool (decide (x ∈ l))) ∧ Grew w w' := by
 have CP := Lib.hid (path_ok d l hW hl w h)
 have HL := Lib.hid hl
 have HE : Hid (decide (x ∈ l) = decide (x ∈ l.reverse)) := Lib.hid (by simp)
 rw [HE.out]
 clear h hW hl
 obtain ⟨b, hb⟩ : ∃ b, decide (x ∈ l.reverse) = b := ⟨_, rfl⟩
 rw [hb]
 have HBB := Lib.hid hb
 clear hb
 go_enter Tryd.func11, Tryd.ntmps11
 go_wp2_with fail
 refine (CP.out).mono ?_
 rintro e w1 ⟨B, c, rfl, hR, hc, g1⟩
 have CC := Lib.hid (contains_ok B c l.reverse (by have := HL.out; simpa using this) x w1 hR)
 rw [List.length_reverse, HBB.out] at CC
 clear CP hR
 go_wp2_with fail
 refine (CC.out).mono ?_
 rintro e w2 ⟨rfl, g2⟩
 have G2 := grew_trans g1 g2
 go_wp2_with fail
 go_ret
 exact ⟨rfl, G2⟩
set_option maxRecDepth 100000 in
theorem ext_no {t mb : Nat} {L : TL} (d x : Nat) (hd : d < 18446744073709551616) (hg : tget L d = none) (w : World) (h : TreeS w t mb L) :
 Calls Tryd.prog 11 #[.pointer (some ⟨t, 0, none⟩), .int .u64 (d : Nat), .int .u64 (x : Nat)] w fun e w' => e = .returned (.bool false) ∧ Grew w w' := by
 have CP := Lib.hid (path_none_ok d hd hg w h)
 have CC := Lib.hid (fun W => contains_ok none 0 [] (by simp) x W (Rd.nil_ _ _ _))
 rw [show decide (x ∈ ([] : List Nat)) = false from rfl, show ([] : List Nat).length = 0 from rfl] at CC
 clear h hg hd
 go_enter Tryd.func11, Tryd.ntmps11
 go_wp2_with fail
 refine (CP.out).mono ?_
 rintro e w1 ⟨rfl, g1⟩
 go_wp2_with fail
 refine (CC.out w1).mono ?_
 rintro e w2 ⟨rfl, g2⟩
 go_wp2_with fail
 go_ret
 exact ⟨rfl, grew_trans g1 g2⟩
end Go.Proofs.YtbohmmcmlabcdaaDoor

namespace Go.Proofs.YtbohmmcmlabcdaaDoor
set_option linter.unusedSimpArgs false
set_option linter.unusedVariables false
open Go.RowKit Go.Maps
set_option linter.unusedVariables false
set_option linter.unnecessarySimpa false
abbrev BL := List (Nat × BB)
def bl (L : TL) : BL := L.map fun x => (x.1, x.2.b)
def bget : BL → Nat → Option BB
 | [], _ => none
 | x :: r, d => if x.1 = d then some x.2 else bget r d
theorem bget_bl (L : TL) (d : Nat) : bget (bl L) d = (tget L d).map (·.b) := by
 induction L with
 | nil => rfl
 | cons x r ih =>
  show (if x.1 = d then some x.2.b else bget (bl r) d) = _
  simp only [tget]
  split
  ·rfl
  ·exact ih
theorem bget_app (K : BL) (x : Nat × BB) (d : Nat) : bget (K ++ [x]) d = (bget K d).or (if x.1 = d then some x.2 else none) := by
 induction K with
 | nil => simp [bget]
 | cons y r ih =>
  simp only [List.cons_append, bget]
  split
  ·simp
  ·exact ih
/-- a tree has these blocks -/
def TreeB (w : World) (t mb : Nat) (K : BL) : Prop := ∃ L, TreeS w t mb L ∧ bl L = K
theorem TreeB.gr {w w' : World} {t mb : Nat} {K : BL} (h : TreeB w t mb K) (g : Grew w w') : TreeB w' t mb K := by
 obtain ⟨L, h1, h2⟩ := h
 exact ⟨L, h1.gr g, h2⟩
theorem TreeS.size_eq {w : World} {t mb : Nat} {L M : TL} (h : TreeS w t mb L) (h2 : TreeS w t mb M) : L.length = M.length := by
 have e1 := (trD_facts L h.nd).2.1
 have e2 := (trD_facts M h2.nd).2.1
 obtain ⟨es, ck, hb, F, _, hD⟩ := h.own
 obtain ⟨es2, ck2, hb2, F2, _, hD2⟩ := h2.own
 rw [hb] at hb2
 injection hb2 with hb2
 injection hb2 with e3 e4
 subst e3
 rw [← e1, ← e2, hD, hD2]
theorem TreeB.size_eq {w : World} {t mb : Nat} {K M : BL} (h : TreeB w t mb K) (h2 : TreeB w t mb M) : K.length = M.length := by
 obtain ⟨L1, a1, a2⟩ := h
 obtain ⟨L2, b1, b2⟩ := h2
 rw [← a2, ← b2]
 simp [bl, a1.size_eq b1]
theorem TreeB.ne {w : World} {t mb : Nat} {K : BL} (h : TreeB w t mb K) : t ≠ mb := by
 obtain ⟨L, h1, _⟩ := h
 intro e
 obtain ⟨es, ck, hb', _⟩ := h1.own
 have := h1.cell
 rw [e] at this
 simp [World.cell?, hb'] at this
theorem TreeB.lt {w : World} {t mb : Nat} {K : BL} (h : TreeB w t mb K) : t < w.heap.size ∧ mb < w.heap.size := by
 obtain ⟨L, h1, _⟩ := h
 exact ⟨h1.ptr.lt, h1.own.lt⟩
theorem TreeB.kp {w w' : World} {t mb : Nat} {K : BL} {S : Nat → Prop} (h : TreeB w t mb K) (k : Kp S w w') (h1 : ¬ S t) (h2 : ¬ S mb) : TreeB w' t mb K := by
 obtain ⟨L, h3, h4⟩ := h
 refine ⟨L, ⟨h3.ptr.kp k h1, ?_, h3.nd, h3.ok, h3.len⟩, h4⟩
 have hb := h3.own.lt
 obtain ⟨es, clock, e1, Ft, hs, hD⟩ := h3.own
 exact ⟨es, clock, (k.block mb hb h2).trans e1, Ft, hs, hD⟩
theorem bl_none {L : TL} {d : Nat} (h : bget (bl L) d = none) : tget L d = none := by
 rw [bget_bl] at h
 cases hg : tget L d with
 | none => rfl
 | some n => rw [hg] at h; cases h
theorem bl_some {L : TL} {d : Nat} {b : BB} (h : bget (bl L) d = some b) : ∃ n, tget L d = some n ∧ n.b = b := by
 rw [bget_bl] at h
 cases hg : tget L d with
 | none => rw [hg] at h; cases h
 | some n => rw [hg] at h; simp at h; exact ⟨n, rfl, h⟩
inductive WayB (K : BL) : Nat → List Nat → Prop
 | root : (bget K 0).isSome = true → WayB K 0 [0]
 | step {d : Nat} {b : BB} {l : List Nat} : d ≠ 0 → bget K d = some b → WayB K b.p l → WayB K d (d :: l)
theorem WayB.way {L : TL} {d : Nat} {l : List Nat} (h : WayB (bl L) d l) : Way L d l := by
 induction h with
 | root h =>
  refine .root ?_
  rw [bget_bl] at h
  cases hg : tget L 0 with
  | none => rw [hg] at h; cases h
  | some n => rfl
 | step h1 h2 _ ih =>
  obtain ⟨n, hn, rfl⟩ := bl_some h2
  exact .step h1 hn ih
theorem newB (w : World) : Calls Tryd.prog 7 #[] w fun e w' => ∃ t mb, e = .returned (.pointer (some ⟨t, 0, none⟩)) ∧ TreeB w' t mb [(0, bb0)] ∧ w.heap.size ≤ t ∧ w.heap.size ≤ mb ∧ Grew w w' :=
 (tnew_ok w).mono fun e w' ⟨t, mb, h1, h2, h3, h4, _, h5⟩ => ⟨t, mb, h1, ⟨_, h2, rfl⟩, h3, h4, h5⟩
theorem addB_yes {t mb : Nat} {K : BL} (n : NB) (hn : n.b.ok) (d : Nat) (hd : blkD n.b = d) (q : BB) (h1 : bget K d = none) (h2 : bget K n.b.p = some q) (h3 : q.v < n.b.v) (h4 : n.b.lo = q.hi) (hl : K.length < 100000) (w : World) (hS : Std w) (h : TreeB w t mb K) :
 Calls Tryd.prog 9 #[.pointer (some ⟨t, 0, none⟩), .agg n.C] w fun e w' => e = .returned (.int .i64 0) ∧ TreeB w' t mb (K ++ [(d, n.b)]) ∧ Kp (fun i => i = mb) w w' := by
 obtain ⟨L, hT, rfl⟩ := h
 have hE : addE L n.b = 0 := by
  unfold addE
  rw [hd, bl_none h1]
  obtain ⟨m, hm, rfl⟩ := bl_some h2
  rw [hm]
  dsimp only
  rw [if_neg (by omega), if_pos h4]
 refine (tadd_ok n hn (by simpa [bl] using hl) w hS hT).mono ?_
 rintro e w' ⟨m, hm, rfl, hT', hk⟩
 rw [hE] at hT' ⊢
 exact ⟨rfl, ⟨_, hT', by rw [show addL 0 L (blkD n.b, m) = L ++ [(blkD n.b, m)] from if_pos rfl]; simp [bl, hm, hd]⟩, hk⟩
theorem extB {t mb : Nat} {K : BL} (d x : Nat) (l : List Nat) (hW : WayB K d l) (hl : l.length ≤ 100000) (w : World) (h : TreeB w t mb K) :
 Calls Tryd.prog 11 #[.pointer (some ⟨t, 0, none⟩), .int .u64 (d : Nat), .int .u64 (x : Nat)] w fun e w' => e = .returned (.bool (decide (x ∈ l))) ∧ Grew w w' := by
 obtain ⟨L, hT, rfl⟩ := h
 exact ext_ok d x l hW.way hl w hT
theorem extB_no {t mb : Nat} {K : BL} (d x : Nat) (hd : d < 18446744073709551616) (hg : bget K d = none) (w : World) (h : TreeB w t mb K) :
 Calls Tryd.prog 11 #[.pointer (some ⟨t, 0, none⟩), .int .u64 (d : Nat), .int .u64 (x : Nat)] w fun e w' => e = .returned (.bool false) ∧ Grew w w' := by
 obtain ⟨L, hT, rfl⟩ := h
 exact ext_no d x hd (bl_none hg) w hT
theorem getB_some {t mb : Nat} {K : BL} (d : Nat) (hd : d < 18446744073709551616) (b : BB) (hg : bget K d = some b) (w : World) (h : TreeB w t mb K) :
 Calls Tryd.prog 21 #[.pointer (some ⟨t, 0, none⟩), .int .u64 (d : Nat)] w fun e w' => ∃ m : NB, m.b = b ∧ e = .returned (.tuple #[.agg m.C, .bool true]) ∧ Grew w w' := by
 obtain ⟨L, hT, rfl⟩ := h
 obtain ⟨n, hn, rfl⟩ := bl_some hg
 exact tget_some_ok d hd n hn w hT
end Go.Proofs.YtbohmmcmlabcdaaDoor

namespace Go.Proofs.YtbohmmcmlabcdaaDoor
set_option linter.unusedSimpArgs false
set_option linter.unusedVariables false
open Go.RowKit Go.Maps
set_option linter.unusedVariables false
set_option linter.unnecessarySimpa false
set_option linter.unusedSimpArgs false
/-- a QC without votes, and where its empty row lies -/
structure QV where
 v : Int
 b : Nat
 A : Option Addr
 c : Nat
def QV.C (q : QV) : Array Value := qcC q.v q.b q.A q.c
/-- what binds votes -/
structure SV where
 vt : Int
 l : QV
 h : QV
def SV.C (s : SV) : Array Value := #[.int .i64 s.vt, .int .i64 s.l.v, .int .u64 s.l.b, .slice s.l.A 0 s.l.c, .int .i64 s.h.v, .int .u64 s.h.b, .slice s.h.A 0 s.h.c]
structure SF where
 vt : Int
 lv : Int
 lb : Nat
 hv : Int
 hb : Nat
def SV.f (s : SV) : SF := ⟨s.vt, s.l.v, s.l.b, s.h.v, s.h.b⟩
structure QcS (v : Int) (b : Nat) (x : Value) : Prop where
 out : ∃ A c, x = .agg (qcC v b A c)
structure SfS (f : SF) (x : Value) : Prop where
 out : ∃ s : SV, s.f = f ∧ x = .agg s.C
theorem SV.one (s : SV) : s.C.all (·.oneCell') = true := by simp [SV.C, Value.oneCell']
theorem sf_info : (Tryd.prog.info? 50).map (·.size) = some 7 := by kernel_rfl
theorem sf_built (vt lv : Int) (lb : Nat) (A : Option Addr) (c : Nat) (hv : Int) (hb : Nat) (A' : Option Addr) (c' : Nat) : Tryd.prog.built 50 [(0, .int .i64 vt), (1, .agg (qcC lv lb A c)), (2, .agg (qcC hv hb A' c'))] = some (SV.C ⟨vt, ⟨lv, lb, A, c⟩, ⟨hv, hb, A', c'⟩⟩) := by kernel_rfl
theorem sf_lq {w : World} {b : Nat} {s : SV} (h : w.rangeAt b 0 s.C.toList) : w.rangeAt b 1 s.l.C.toList := by
 have : w.rangeAt b (0 + 1) s.l.C.toList := ltrange_sub (m := 1) h (fun j v hj => by
  match j, hj with
  | 0, hj => exact hj
  | 1, hj => exact hj
  | 2, hj => exact hj
  | j + 3, hj => simp [QV.C, qcC] at hj)
 rwa [Nat.zero_add] at this
theorem sf_hq {w : World} {b : Nat} {s : SV} (h : w.rangeAt b 0 s.C.toList) : w.rangeAt b 4 s.h.C.toList := by
 have : w.rangeAt b (0 + 4) s.h.C.toList := ltrange_sub (m := 4) h (fun j v hj => by
  match j, hj with
  | 0, hj => exact hj
  | 1, hj => exact hj
  | 2, hj => exact hj
  | j + 3, hj => simp [QV.C, qcC] at hj)
 rwa [Nat.zero_add] at this
set_option maxRecDepth 100000 in
theorem view_ok (q : QV) (w : World) : Calls Tryd.prog 33 #[.agg (qcC q.v q.b q.A q.c)] w fun e w' => e = .returned (.int .i64 q.v) ∧ Grew w w' := by
 have z0 := Ag.new w 30 (qcC q.v q.b q.A q.c)
 have G := grew_alloc (grew_refl w) (.cells (qcC q.v q.b q.A q.c) 30)
 have hc : (w.alloc (.cells (qcC q.v q.b q.A q.c) 30)).cell? ⟨w.heap.size, 0, none⟩ = some (.int .i64 q.v) := by simpa [qcC] using z0.cell 0 _ rfl
 clear z0
 go_enter Tryd.func33, Tryd.ntmps33
 go_wp2_with fail
 go_ret
 exact ⟨rfl, G⟩
def grQ (a b : QV) : QV := if a.v < b.v then b else a
set_option maxRecDepth 100000 in
set_option maxHeartbeats 1000000 in
theorem greater_ok (a b : QV) (w : World) : Calls Tryd.prog 32 #[.agg (qcC a.v a.b a.A a.c), .agg (qcC b.v b.b b.A b.c), .func (.func 33) #[] #[]] w fun e w' => e = .returned (.agg (grQ a b).C) ∧ Grew w w' := by
 have huq := Tryd.underlying30
 have z0 := (Ag.new w 30 (qcC a.v a.b a.A a.c)).grew (grew_alloc (grew_alloc (grew_refl _) (.cells (qcC b.v b.b b.A b.c) 30)) (.cells (#[.int .i64 0, .int .u64 0, .slice none 0 0]) 30))
 have z1 := (Ag.new (w.alloc (.cells (qcC a.v a.b a.A a.c) 30)) 30 (qcC b.v b.b b.A b.c)).grew (grew_alloc (grew_refl _) (.cells (#[.int .i64 0, .int .u64 0, .slice none 0 0]) 30))
 have z2 := Ag.new ((w.alloc (.cells (qcC a.v a.b a.A a.c) 30)).alloc (.cells (qcC b.v b.b b.A b.c) 30)) 30 (#[.int .i64 0, .int .u64 0, .slice none 0 0])
 rw [alloc_size] at z1 z2
 rw [alloc_size] at z2
 have G0 := grew_alloc (grew_alloc (grew_alloc (grew_refl w) (.cells (qcC a.v a.b a.A a.c) 30)) (.cells (qcC b.v b.b b.A b.c) 30)) (.cells (#[.int .i64 0, .int .u64 0, .slice none 0 0]) 30)
 have SIQa : Hid ((Tryd.prog.info? 30).map (·.size) = some (qcC a.v a.b a.A a.c).toList.length) := Lib.hid qc_info
 have SIQb : Hid ((Tryd.prog.info? 30).map (·.size) = some (qcC b.v b.b b.A b.c).toList.length) := Lib.hid qc_info
 obtain ⟨gq, hgq⟩ : ∃ g, (grQ a b).C = g := ⟨_, rfl⟩
 have HGQ := Lib.hid hgq
 rw [hgq]
 clear hgq
 go_enter Tryd.func32, Tryd.ntmps32
 go_upto_region 1 with fail
 generalize ((w.alloc (.cells (qcC a.v a.b a.A a.c) 30)).alloc (.cells (qcC b.v b.b b.A b.c) 30)).alloc (.cells (#[.int .i64 0, .int .u64 0, .slice none 0 0]) 30) = w1 at *
 have HA : Hid (∀ y, Grew w1 y → y.rangeAt w.heap.size 0 (qcC a.v a.b a.A a.c).toList) := Lib.hid (fun y g => (z0.grew g).cell)
 have HBq : Hid (∀ y, Grew w1 y → y.rangeAt (w.heap.size + 1) 0 (qcC b.v b.b b.A b.c).toList) := Lib.hid (fun y g => (z1.grew g).cell)
 have HZ2 := Lib.hid z2
 have HG0 := Lib.hid G0
 clear z0 z1 z2 G0
 refine wp_region_rel 6 (fun ix9 => match ix9 with
  | 0 => fun v _ => v = .func (.func 33) #[] #[]
  | 1 => fun v _ => v = .agg (qcC b.v b.b b.A b.c)
  | 2 => fun v _ => v = .int .i64 b.v
  | 3 => fun v _ => v = .func (.func 33) #[] #[]
  | 4 => fun v _ => v = .agg (qcC a.v a.b a.A a.c)
  | 5 => fun v _ => v = .int .i64 a.v
  | _ => fun _ _ => True) (by kernel_rfl) (by kernel_rfl) ?_ ?_ ?_
 ·intro i v x y h hg
  match i, h with
  | 0, h | 1, h | 2, h | 3, h | 4, h | 5, h => exact h
  | m + 6, _ => trivial
 ·refine ⟨?_, ?_, ?_, ?_, ?_, ?_, trivial⟩
  ·intro vs y hg hd
   simp only [actOf, tk1, tk0, dr1, dr0, Act.put, si1, st1, st0, Nat.reduceAdd]
   go_wp2_with fail
   exact ⟨rfl, _, rfl, grew_refl _, rfl⟩
  ·intro vs y hg hd
   simp only [actOf, tk1, tk0, dr1, dr0, Act.put, si1, st1, st0, Nat.reduceAdd]
   have hm := HBq.out y hg
   go_wp2_with (with_reducible refine wpList_load_mid rfl 30 (.tmp 4) rfl (w.heap.size + 1) 0 rfl (qcC b.v b.b b.A b.c).toList _ hm huq rfl (SIQb).out ?_; simp only [Array.toArray_toList])
   exact ⟨rfl, _, rfl, grew_refl _, rfl⟩
  ·intro vs y hg hd
   obtain ⟨h0, h1, _⟩ := hd
   replace h0 := h0 rfl
   replace h1 := h1 rfl
   simp only [actOf, tk1, tk0, dr1, dr0, Act.put, si1, st1, st0, Nat.reduceAdd]
   rw [show vs 0 = _ from h0, show vs 1 = _ from h1]
   go_wp2_with (go_at_call 33; refine (view_ok b y).mono ?_; rintro e z ⟨rfl, gz⟩)
   exact ⟨rfl, _, rfl, gz, rfl⟩
  ·intro vs y hg hd
   simp only [actOf, tk1, tk0, dr1, dr0, Act.put, si1, st1, st0, Nat.reduceAdd]
   go_wp2_with fail
   exact ⟨rfl, _, rfl, grew_refl _, rfl⟩
  ·intro vs y hg hd
   simp only [actOf, tk1, tk0, dr1, dr0, Act.put, si1, st1, st0, Nat.reduceAdd]
   have hm := HA.out y hg
   go_wp2_with (with_reducible refine wpList_load_mid rfl 30 (.tmp 3) rfl w.heap.size 0 rfl (qcC a.v a.b a.A a.c).toList _ hm huq rfl (SIQa).out ?_; simp only [Array.toArray_toList])
   exact ⟨rfl, _, rfl, grew_refl _, rfl⟩
  ·intro vs y hg hd
   obtain ⟨h3, h4, _⟩ := hd
   replace h3 := h3 rfl
   replace h4 := h4 rfl
   simp only [actOf, tk1, tk0, dr1, dr0, Act.put, si1, st1, st0, Nat.reduceAdd]
   rw [show vs 3 = _ from h3, show vs 4 = _ from h4]
   go_wp2_with (go_at_call 33; refine (view_ok a y).mono ?_; rintro e z ⟨rfl, gz⟩)
   exact ⟨rfl, _, rfl, gz, rfl⟩
 ·intro vs y hg hJ
  have j0 : vs 0 = .func (.func 33) #[] #[] := hJ 0 (by decide)
  have j1 : vs 1 = .agg (qcC b.v b.b b.A b.c) := hJ 1 (by decide)
  have j2 : vs 2 = .int .i64 b.v := hJ 2 (by decide)
  have j3 : vs 3 = .func (.func 33) #[] #[] := hJ 3 (by decide)
  have j4 : vs 4 = .agg (qcC a.v a.b a.A a.c) := hJ 4 (by decide)
  have j5 : vs 5 = .int .i64 a.v := hJ 5 (by decide)
  clear hJ
  simp only [actOf, tk1, tk0, dr1, dr0, Act.put, si1, st1, st0, Nat.reduceAdd]
  rw [j2, j5]
  clear j0 j1 j2 j3 j4 j5
  have ma := HA.out y hg
  have mb := HBq.out y hg
  have z3 := HZ2.out.grew hg
  have G1 := grew_trans HG0.out hg
  have HON : ∀ q : QV, Hid (q.C.all (·.oneCell') = true) := fun q => Lib.hid (qcC_one q.v q.b q.A q.c)
  have SI2 : ∀ q : QV, Hid ((Tryd.prog.info? 30).map (·.size) = some q.C.size) := fun q => Lib.hid qc_info
  have SI3 : ∀ q : QV, Hid ((Tryd.prog.info? 30).map (·.size) = some q.C.toList.length) := fun q => Lib.hid qc_info
  have HTH : ∀ q : QV, Hid (y.there (w.heap.size + 1 + 1) 0 q.C.size) := fun q => Lib.hid (z3.thereN 3 rfl)
  have z4 : ∀ q : QV, Ag (y.setCells (w.heap.size + 1 + 1) 0 q.C.toList) (w.heap.size + 1 + 1) q.C.toList := fun q => Ag.set (vs := q.C.toList) z3 rfl
  have G4 : ∀ q : QV, Grew w (y.setCells (w.heap.size + 1 + 1) 0 q.C.toList) := fun q => setCells_grew (o := 0) (b := w.heap.size + 1 + 1) q.C.toList G1 (by omega)
  clear HA HBq HZ2 HG0 hg z3 G1
  by_cases hv : a.v < b.v
  ·have hgr : grQ a b = b := if_pos hv
   have e1 : decide (a.v < b.v) = true := decide_eq_true hv
   have e2 : decide (b.v > a.v) = true := decide_eq_true hv
   have HGG : Hid (gq = b.C) := Lib.hid (by rw [← HGQ.out, hgr])
   have Z4 := z4 b
   have GG4 := G4 b
   have s1 := SI3 b
   have s2 := SI2 b
   have s3 := HTH b
   have s4 := HON b
   replace mb : y.rangeAt (w.heap.size + 1) 0 b.C.toList := mb
   clear hgr z4 G4 SI3 SI2 HTH HON HGQ
   generalize b.C = gb at *
   generalize a.v = av at *
   generalize b.v = bv at *
   go_wp2_with (first
    | (with_reducible refine wpList_load_mid rfl 30 (.tmp 4) rfl (w.heap.size + 1) 0 rfl gb.toList _ mb huq rfl s1.out ?_; simp only [Array.toArray_toList])
    | (with_reducible refine wpList_store_mid rfl 30 (.tmp 6) (.tmp 14) rfl (w.heap.size + 1 + 1) 0 gb rfl rfl s3.out s2.out s4.out ?_))
   exact bodyPost_ret (ltres_ag1 Tryd.results32 _ _ (w.heap.size + 1 + 1) _ _ rfl Z4 huq rfl s1.out) rfl ⟨by rw [HGG.out], GG4⟩
  ·have hgr : grQ a b = a := if_neg hv
   have e1 : decide (a.v < b.v) = false := decide_eq_false hv
   have e2 : decide (b.v > a.v) = false := decide_eq_false hv
   have HGG : Hid (gq = a.C) := Lib.hid (by rw [← HGQ.out, hgr])
   have Z4 := z4 a
   have GG4 := G4 a
   have s1 := SI3 a
   have s2 := SI2 a
   have s3 := HTH a
   have s4 := HON a
   replace ma : y.rangeAt w.heap.size 0 a.C.toList := ma
   clear hgr z4 G4 SI3 SI2 HTH HON HGQ
   generalize a.C = ga at *
   generalize a.v = av at *
   generalize b.v = bv at *
   go_wp2_with (first
    | (with_reducible refine wpList_load_mid rfl 30 (.tmp 3) rfl w.heap.size 0 rfl ga.toList _ ma huq rfl s1.out ?_; simp only [Array.toArray_toList])
    | (with_reducible refine wpList_store_mid rfl 30 (.tmp 6) (.tmp 15) rfl (w.heap.size + 1 + 1) 0 ga rfl rfl s3.out s2.out s4.out ?_))
   exact bodyPost_ret (ltres_ag1 Tryd.results32 _ _ (w.heap.size + 1 + 1) _ _ rfl Z4 huq rfl s1.out) rfl ⟨by rw [HGG.out], GG4⟩
set_option maxRecDepth 100000 in
set_option maxHeartbeats 1000000 in
theorem scopy_ok (s : SV) (w : World) : Calls Tryd.prog 31 #[.agg s.C] w fun e w' => ∃ m : SV, m.f = s.f ∧ e = .returned (.agg m.C) ∧ Grew w w' := by
 have huq := Tryd.underlying30
 have hus := Tryd.underlying50
 have z0 := (Ag.new w 50 s.C).grew (grew_alloc (grew_refl _) (.cells (#[.int .i64 0, .int .i64 0, .int .u64 0, .slice none 0 0, .int .i64 0, .int .u64 0, .slice none 0 0]) 50))
 have z1 := Ag.new (w.alloc (.cells s.C 50)) 50 (#[.int .i64 0, .int .i64 0, .int .u64 0, .slice none 0 0, .int .i64 0, .int .u64 0, .slice none 0 0])
 rw [alloc_size] at z1
 have G0 := grew_alloc (grew_alloc (grew_refl w) (.cells s.C 50)) (.cells (#[.int .i64 0, .int .i64 0, .int .u64 0, .slice none 0 0, .int .i64 0, .int .u64 0, .slice none 0 0]) 50)
 have SIQl : Hid ((Tryd.prog.info? 30).map (·.size) = some (qcC s.l.v s.l.b s.l.A s.l.c).toList.length) := Lib.hid qc_info
 have SIQh : Hid ((Tryd.prog.info? 30).map (·.size) = some (qcC s.h.v s.h.b s.h.A s.h.c).toList.length) := Lib.hid qc_info
 go_enter Tryd.func31, Tryd.ntmps31
 go_upto_region 1 with fail
 generalize (w.alloc (.cells s.C 50)).alloc (.cells (#[.int .i64 0, .int .i64 0, .int .u64 0, .slice none 0 0, .int .i64 0, .int .u64 0, .slice none 0 0]) 50) = w1 at *
 have HV : Hid (∀ y, Grew w1 y → y.cell? ⟨w.heap.size, 0, none⟩ = some (.int .i64 s.vt)) := Lib.hid (fun y g => by simpa [SV.C] using (z0.grew g).cell 0 _ rfl)
 have HLQ : Hid (∀ y, Grew w1 y → y.rangeAt w.heap.size 1 (qcC s.l.v s.l.b s.l.A s.l.c).toList) := Lib.hid (fun y g => sf_lq (z0.grew g).cell)
 have HHQ : Hid (∀ y, Grew w1 y → y.rangeAt w.heap.size 4 (qcC s.h.v s.h.b s.h.A s.h.c).toList) := Lib.hid (fun y g => sf_hq (z0.grew g).cell)
 have HZ1 := Lib.hid z1
 have HG0 := Lib.hid G0
 clear z0 z1 G0
 refine wp_region_rel 9 (fun ix9 => match ix9 with
  | 0 => fun v _ => v = .pointer (some ⟨w.heap.size, 0, none⟩)
  | 1 => fun v _ => v = .int .i64 s.vt
  | 2 => fun v _ => v = .pointer (some ⟨w.heap.size, 1, none⟩)
  | 3 => fun v _ => v = .agg (qcC s.l.v s.l.b s.l.A s.l.c)
  | 4 => fun v _ => QcS s.l.v s.l.b v
  | 5 => fun v _ => v = .pointer (some ⟨w.heap.size, 4, none⟩)
  | 6 => fun v _ => v = .agg (qcC s.h.v s.h.b s.h.A s.h.c)
  | 7 => fun v _ => QcS s.h.v s.h.b v
  | 8 => fun v _ => SfS s.f v
  | _ => fun _ _ => True) (by kernel_rfl) (by kernel_rfl) ?_ ?_ ?_
 ·intro i v x y h hg
  match i, h with
  | 0, h | 1, h | 2, h | 3, h | 5, h | 6, h => exact h
  | 4, h => exact h
  | 7, h => exact h
  | 8, h => exact h
  | m + 9, _ => trivial
 ·refine ⟨?_, ?_, ?_, ?_, ?_, ?_, ?_, ?_, ?_, trivial⟩
  ·intro vs y hg hd
   simp only [actOf, tk1, tk0, dr1, dr0, Act.put, si1, st1, st0, Nat.reduceAdd]
   go_wp2_with fail
   exact ⟨rfl, _, rfl, grew_refl _, rfl⟩
  ·intro vs y hg hd
   obtain ⟨h0, _⟩ := hd
   replace h0 := h0 rfl
   simp only [actOf, tk1, tk0, dr1, dr0, Act.put, si1, st1, st0, Nat.reduceAdd]
   rw [show vs 0 = _ from h0]
   have hc := HV.out y hg
   go_wp2_with fail
   exact ⟨rfl, _, rfl, grew_refl _, rfl⟩
  ·intro vs y hg hd
   simp only [actOf, tk1, tk0, dr1, dr0, Act.put, si1, st1, st0, Nat.reduceAdd]
   go_wp2_with fail
   exact ⟨rfl, _, rfl, grew_refl _, rfl⟩
  ·intro vs y hg hd
   obtain ⟨h2, _⟩ := hd
   replace h2 := h2 rfl
   simp only [actOf, tk1, tk0, dr1, dr0, Act.put, si1, st1, st0, Nat.reduceAdd]
   rw [show vs 2 = _ from h2]
   have hm := HLQ.out y hg
   go_wp2_with (with_reducible refine wpList_load_mid rfl 30 (.tmp 5) rfl w.heap.size 1 rfl (qcC s.l.v s.l.b s.l.A s.l.c).toList _ hm huq rfl (SIQl).out ?_; simp only [Array.toArray_toList])
   exact ⟨rfl, _, rfl, grew_refl _, rfl⟩
  ·intro vs y hg hd
   obtain ⟨h3, _⟩ := hd
   replace h3 := h3 rfl
   simp only [actOf, tk1, tk0, dr1, dr0, Act.put, si1, st1, st0, Nat.reduceAdd]
   rw [show vs 3 = _ from h3]
   go_wp2_with (go_at_call 35; refine (qcopy_ok s.l.v s.l.b s.l.A s.l.c y).mono ?_; rintro e z ⟨B9, k9, rfl, gz⟩)
   exact ⟨rfl, _, rfl, gz, ⟨B9, k9, rfl⟩⟩
  ·intro vs y hg hd
   simp only [actOf, tk1, tk0, dr1, dr0, Act.put, si1, st1, st0, Nat.reduceAdd]
   go_wp2_with fail
   exact ⟨rfl, _, rfl, grew_refl _, rfl⟩
  ·intro vs y hg hd
   obtain ⟨h5, _⟩ := hd
   replace h5 := h5 rfl
   simp only [actOf, tk1, tk0, dr1, dr0, Act.put, si1, st1, st0, Nat.reduceAdd]
   rw [show vs 5 = _ from h5]
   have hm := HHQ.out y hg
   go_wp2_with (with_reducible refine wpList_load_mid rfl 30 (.tmp 8) rfl w.heap.size 4 rfl (qcC s.h.v s.h.b s.h.A s.h.c).toList _ hm huq rfl (SIQh).out ?_; simp only [Array.toArray_toList])
   exact ⟨rfl, _, rfl, grew_refl _, rfl⟩
  ·intro vs y hg hd
   obtain ⟨h6, _⟩ := hd
   replace h6 := h6 rfl
   simp only [actOf, tk1, tk0, dr1, dr0, Act.put, si1, st1, st0, Nat.reduceAdd]
   rw [show vs 6 = _ from h6]
   go_wp2_with (go_at_call 35; refine (qcopy_ok s.h.v s.h.b s.h.A s.h.c y).mono ?_; rintro e z ⟨B9, k9, rfl, gz⟩)
   exact ⟨rfl, _, rfl, gz, ⟨B9, k9, rfl⟩⟩
  ·intro vs y hg hd
   obtain ⟨h1, h4, h7, _⟩ := hd
   replace h1 := h1 rfl
   replace h4 := h4 rfl
   replace h7 := h7 rfl
   simp only [actOf, tk1, tk0, dr1, dr0, Act.put, si1, st1, st0, Nat.reduceAdd]
   rw [show vs 1 = _ from h1]
   obtain ⟨B7, k7, e7⟩ := h4.out
   obtain ⟨B8, k8, e8⟩ := h7.out
   rw [e7, e8]
   have HBU := Lib.hid (sf_built s.vt s.l.v s.l.b B7 k7 s.h.v s.h.b B8 k8)
   refine ltbuild_is rfl 50 #[(0, .tmp 4), (1, .tmp 7), (2, .tmp 10)] rfl (SV.C ⟨s.vt, ⟨s.l.v, s.l.b, B7, k7⟩, ⟨s.h.v, s.h.b, B8, k8⟩⟩) (by simpa [Act.eval] using HBU.out) ?_
   go_wp2_with fail
   exact ⟨rfl, _, rfl, grew_refl _, ⟨⟨s.vt, ⟨s.l.v, s.l.b, B7, k7⟩, ⟨s.h.v, s.h.b, B8, k8⟩⟩, rfl, rfl⟩⟩
 ·intro vs y hg hJ
  have j0 : vs 0 = .pointer (some ⟨w.heap.size, 0, none⟩) := hJ 0 (by decide)
  have j1 : vs 1 = .int .i64 s.vt := hJ 1 (by decide)
  have j2 : vs 2 = .pointer (some ⟨w.heap.size, 1, none⟩) := hJ 2 (by decide)
  have j3 : vs 3 = .agg (qcC s.l.v s.l.b s.l.A s.l.c) := hJ 3 (by decide)
  have j5 : vs 5 = .pointer (some ⟨w.heap.size, 4, none⟩) := hJ 5 (by decide)
  have j6 : vs 6 = .agg (qcC s.h.v s.h.b s.h.A s.h.c) := hJ 6 (by decide)
  have s7 := hJ 4 (by decide)
  have s10 := hJ 7 (by decide)
  have s11 := hJ 8 (by decide)
  clear hJ
  simp only [actOf, tk1, tk0, dr1, dr0, Act.put, si1, st1, st0, Nat.reduceAdd]
  obtain ⟨m, hm, e11⟩ := s11.out
  rw [e11]
  have z3 := HZ1.out.grew hg
  have G1 := grew_trans HG0.out hg
  have HTH : Hid (y.there (w.heap.size + 1) 0 m.C.size) := Lib.hid (z3.thereN 7 rfl)
  have SI2 : Hid ((Tryd.prog.info? 50).map (·.size) = some m.C.size) := Lib.hid sf_info
  have HON := Lib.hid m.one
  have z4 := Ag.set (vs := m.C.toList) z3 rfl
  have G4 := setCells_grew (o := 0) (b := w.heap.size + 1) m.C.toList G1 (by omega)
  clear HV HLQ HHQ HZ1 HG0 hg z3 G1 s7 s10 s11 e11 j0 j1 j2 j3 j5 j6
  go_wp2_with (with_reducible refine wpList_store_mid rfl 50 (.tmp 2) (.tmp 11) rfl (w.heap.size + 1) 0 m.C rfl rfl HTH.out SI2.out HON.out ?_)
  exact bodyPost_ret (ltres_ag1 Tryd.results31 _ _ (w.heap.size + 1) _ _ rfl z4 hus rfl sf_info) rfl ⟨m, hm, rfl, G4⟩
end Go.Proofs.YtbohmmcmlabcdaaDoor

namespace Go.Proofs.YtbohmmcmlabcdaaDoor
set_option linter.unusedSimpArgs false
set_option linter.unusedVariables false
open Go.RowKit Go.Maps
set_option linter.unusedVariables false
set_option linter.unnecessarySimpa false
set_option linter.unusedSimpArgs false
def sv0 : SV := ⟨0, ⟨0, 0, none, 0⟩, ⟨0, 0, none, 0⟩⟩
set_option maxRecDepth 100000 in
theorem snew_ok (w : World) : Calls Tryd.prog 17 #[] w fun e w' => e = .returned (.agg sv0.C) ∧ Grew w w' := by
 have hus := Tryd.underlying50
 have SIZ : Hid ((Tryd.prog.info? 50).map (·.size) = some (#[.int .i64 0, .int .i64 0, .int .u64 0, .slice none 0 0, .int .i64 0, .int .u64 0, .slice none 0 0] : Array Value).size) := Lib.hid sf_info
 have HON : Hid ((#[.int .i64 0, .int .i64 0, .int .u64 0, .slice none 0 0, .int .i64 0, .int .u64 0, .slice none 0 0] : Array Value).all (·.oneCell') = true) := Lib.hid sv0.one
 obtain ⟨w2, hw2, ht2, g2, z2⟩ := ltput_any w 50 #[.int .i64 0, .int .i64 0, .int .u64 0, .slice none 0 0, .int .i64 0, .int .u64 0, .slice none 0 0] #[.int .i64 0, .int .i64 0, .int .u64 0, .slice none 0 0, .int .i64 0, .int .u64 0, .slice none 0 0] rfl
 have HW2 := Lib.hid hw2
 have HT2 := Lib.hid ht2
 clear hw2 ht2
 go_enter Tryd.func17, Tryd.ntmps17
 go_wp2_with (with_reducible refine wpList_store_mid rfl 50 (.tmp 0) (.tmp 1) rfl w.heap.size 0 #[.int .i64 0, .int .i64 0, .int .u64 0, .slice none 0 0, .int .i64 0, .int .u64 0, .slice none 0 0] rfl rfl HT2.out SIZ.out HON.out ?_; rw [HW2.out])
 exact bodyPost_ret (ltres_ag1 Tryd.results17 _ _ w.heap.size _ _ rfl z2 hus rfl sf_info) rfl ⟨rfl, g2⟩
/-- what is held once a QC of a block that is there was seen -/
def sawF (f : SF) (qv : Int) (qb : Nat) (b : BB) : SF :=
 ⟨f.vt, if f.lv < b.qv then b.qv else f.lv, if f.lv < b.qv then b.qb else f.lb, if f.hv < qv then qv else f.hv, if f.hv < qv then qb else f.hb⟩
theorem grQ_v (a b : QV) : (grQ a b).v = if a.v < b.v then b.v else a.v := by unfold grQ; split <;> rfl
theorem grQ_b (a b : QV) : (grQ a b).b = if a.v < b.v then b.b else a.b := by unfold grQ; split <;> rfl
set_option maxRecDepth 100000 in
set_option maxHeartbeats 1000000 in
theorem saw_ok {t mb : Nat} {K : BL} (s : SV) (q : QV) (b : BB) (hb : q.b < 18446744073709551616) (hg : bget K q.b = some b) (w : World) (h : TreeB w t mb K) :
 Calls Tryd.prog 19 #[.agg s.C, .pointer (some ⟨t, 0, none⟩), .agg (qcC q.v q.b q.A q.c)] w fun e w' => ∃ m : SV, m.f = sawF s.f q.v q.b b ∧ e = .returned (.agg m.C) ∧ Grew w w' := by
 have huq := Tryd.underlying30
 have hus := Tryd.underlying50
 have hub := Tryd.underlying33
 have z0 := (Ag.new w 50 s.C).grew (grew_alloc (grew_alloc (grew_refl _) (.cells (qcC q.v q.b q.A q.c) 30)) (.cells (#[.int .i64 0, .int .i64 0, .int .u64 0, .slice none 0 0, .int .i64 0, .int .u64 0, .slice none 0 0]) 50))
 have z1 := (Ag.new (w.alloc (.cells s.C 50)) 30 (qcC q.v q.b q.A q.c)).grew (grew_alloc (grew_refl _) (.cells (#[.int .i64 0, .int .i64 0, .int .u64 0, .slice none 0 0, .int .i64 0, .int .u64 0, .slice none 0 0]) 50))
 have z2 := Ag.new ((w.alloc (.cells s.C 50)).alloc (.cells (qcC q.v q.b q.A q.c) 30)) 50 (#[.int .i64 0, .int .i64 0, .int .u64 0, .slice none 0 0, .int .i64 0, .int .u64 0, .slice none 0 0])
 rw [alloc_size] at z1 z2
 rw [alloc_size] at z2
 have G0 := grew_alloc (grew_alloc (grew_alloc (grew_refl w) (.cells s.C 50)) (.cells (qcC q.v q.b q.A q.c) 30)) (.cells (#[.int .i64 0, .int .i64 0, .int .u64 0, .slice none 0 0, .int .i64 0, .int .u64 0, .slice none 0 0]) 50)
 have hm1 : (((w.alloc (.cells s.C 50)).alloc (.cells (qcC q.v q.b q.A q.c) 30)).alloc (.cells (#[.int .i64 0, .int .i64 0, .int .u64 0, .slice none 0 0, .int .i64 0, .int .u64 0, .slice none 0 0]) 50)).rangeAt w.heap.size 4 (qcC s.h.v s.h.b s.h.A s.h.c).toList := sf_hq z0.cell
 have hm2 := z1.cell
 have SIh : Hid ((Tryd.prog.info? 30).map (·.size) = some (qcC s.h.v s.h.b s.h.A s.h.c).toList.length) := Lib.hid qc_info
 have SIq : Hid ((Tryd.prog.info? 30).map (·.size) = some (qcC q.v q.b q.A q.c).toList.length) := Lib.hid qc_info
 have CG := Lib.hid (fun W => greater_ok s.h q W)
 have HT := Lib.hid (h.gr G0)
 have HZ0 := Lib.hid z0
 have HZ1 := Lib.hid z1
 have HZ2 := Lib.hid z2
 have HG0 := Lib.hid G0
 clear z0 z1 z2 G0 h
 go_enter Tryd.func19, Tryd.ntmps19
 go_wp2_with (first
  | (with_reducible refine wpList_load_mid rfl 30 (.tmp 9) rfl w.heap.size 4 rfl (qcC s.h.v s.h.b s.h.A s.h.c).toList _ hm1 huq rfl SIh.out ?_; simp only [Array.toArray_toList])
  | (with_reducible refine wpList_load_mid rfl 30 (.tmp 5) rfl (w.heap.size + 1) 0 rfl (qcC q.v q.b q.A q.c).toList _ hm2 huq rfl SIq.out ?_; simp only [Array.toArray_toList]))
 refine (CG.out _).mono ?_
 rintro e w1 ⟨rfl, g1⟩
 have z0 := HZ0.out.grew g1
 have G1 := grew_trans HG0.out g1
 obtain ⟨h1, hh1⟩ : ∃ x : QV, grQ s.h q = x := ⟨_, rfl⟩
 have HH1 := Lib.hid hh1
 rw [hh1]
 have y0 := z0.putMid 4 (qcC h1.v h1.b h1.A h1.c).toList (by simp [qcC, SV.C])
 have ey : s.C.toList.take 4 ++ (qcC h1.v h1.b h1.A h1.c).toList ++ s.C.toList.drop (4 + (qcC h1.v h1.b h1.A h1.c).toList.length) = (SV.C ⟨s.vt, s.l, h1⟩).toList := rfl
 rw [ey] at y0
 have K1 := setCells_kp (qcC h1.v h1.b h1.A h1.c).toList w.heap.size 4 w1
 have z1 := (HZ1.out.grew g1).kp K1 (fun e => by omega)
 have z2 := (HZ2.out.grew g1).kp K1 (fun e => by omega)
 have T1 := (HT.out.gr g1)
 have hTw := (HT.out).lt
 have hnt : t ≠ w.heap.size := fun e => by
  obtain ⟨L, h3, _⟩ := HT.out
  have c1 := h3.cell
  have c2 := HZ0.out.cell 0 _ (show s.C.toList[0]? = some (.int .i64 s.vt) from rfl)
  rw [e] at c1
  simp at c2
  rw [c1] at c2; cases c2
 have hnm : mb ≠ w.heap.size := fun e => by
  obtain ⟨L, h3, _⟩ := HT.out
  obtain ⟨es, ck, hb', _⟩ := h3.own
  have c2 := HZ0.out.cell 0 _ (show s.C.toList[0]? = some (.int .i64 s.vt) from rfl)
  rw [e] at hb'
  simp [World.cell?, hb'] at c2
 have T2 := T1.kp K1 hnt hnm
 have G2 : Grew w (w1.setCells w.heap.size 4 (qcC h1.v h1.b h1.A h1.c).toList) := below_kp G1 K1 G1.size (fun i e => by have e' : i = w.heap.size := e; omega)
 have SI1 : Hid ((Tryd.prog.info? 30).map (·.size) = some (qcC h1.v h1.b h1.A h1.c).size) := Lib.hid qc_info
 have HON1 := Lib.hid (qcC_one h1.v h1.b h1.A h1.c)
 have HTQ : Hid (w1.there w.heap.size 4 (qcC h1.v h1.b h1.A h1.c).size) := Lib.hid (fun i hi => by have h3 : i < 3 := hi; have := z0.there (4 + i) (by have : s.C.toList.length = 7 := rfl; omega); simpa using this)
 have hcb : (w1.setCells w.heap.size 4 (qcC h1.v h1.b h1.A h1.c).toList).cell? ⟨w.heap.size + 1, 1, none⟩ = some (.int .u64 (q.b : Nat)) := by simpa [qcC] using z1.cell 1 _ rfl
 have HY0 := Lib.hid y0
 have HY2 := Lib.hid z2
 have HT2 := Lib.hid T2
 have HG2 := Lib.hid G2
 clear z0 z1 z2 y0 ey K1 T1 T2 G1 G2 hTw HZ0 HZ1 HZ2 HG0 HT hm1 hm2 CG SIh SIq hh1 g1
 generalize hwa : w1.setCells w.heap.size 4 (qcC h1.v h1.b h1.A h1.c).toList = wa at *
 have HWA := Lib.hid hwa
 clear hwa
 have CGET := Lib.hid (getB_some q.b hb b hg wa HT2.out)
 replace HWA : Hid (w1.setCells w.heap.size 4 h1.C.toList = wa) := HWA
 replace HTQ : Hid (w1.there w.heap.size 4 h1.C.size) := HTQ
 replace SI1 : Hid ((Tryd.prog.info? 30).map (·.size) = some h1.C.size) := SI1
 replace HON1 : Hid (h1.C.all (·.oneCell') = true) := HON1
 go_wp2_with (with_reducible refine wpList_store_mid rfl 30 (.tmp 13) (.tmp 12) rfl w.heap.size 4 h1.C rfl rfl HTQ.out SI1.out HON1.out ?_; rw [HWA.out])
 refine (CGET.out).mono ?_
 rintro e w2 ⟨m, hm, rfl, g2⟩
 have y0 := HY0.out.grew g2
 have y2 := HY2.out.grew g2
 have T3 := HT2.out.gr g2
 have G3 := grew_trans HG2.out g2
 have HMB := Lib.hid hm
 have SIB : Hid ((Tryd.prog.info? 33).map (·.size) = some m.C.size) := Lib.hid nb_info
 have HONB := Lib.hid m.one
 obtain ⟨w3, hw3, ht3, g3, z3⟩ := ltput_any w2 33 #[.int .i64 0, .int .u64 0, .int .i64 0, .int .u64 0, .slice none 0 0, .int .i64 0, .int .i64 0, .slice none 0 0] m.C rfl
 have HW3 := Lib.hid hw3
 have HT3 := Lib.hid ht3
 have x0 := y0.grew g3
 have hm1 : w3.rangeAt w.heap.size 1 (qcC s.l.v s.l.b s.l.A s.l.c).toList := sf_lq (s := ⟨s.vt, s.l, h1⟩) x0.cell
 have hm2 : w3.rangeAt w2.heap.size 2 (qcC m.b.qv m.b.qb m.A m.c).toList := nb_qc z3.cell
 have SIl : Hid ((Tryd.prog.info? 30).map (·.size) = some (qcC s.l.v s.l.b s.l.A s.l.c).toList.length) := Lib.hid qc_info
 have SIm : Hid ((Tryd.prog.info? 30).map (·.size) = some (qcC m.b.qv m.b.qb m.A m.c).toList.length) := Lib.hid qc_info
 have HX0 := Lib.hid x0
 have HY2' := Lib.hid (y2.grew g3)
 have HG4 := Lib.hid (grew_trans G3 g3)
 have hs2 := G3.size
 have CG2 := Lib.hid (fun W => greater_ok s.l ⟨m.b.qv, m.b.qb, m.A, m.c⟩ W)
 dsimp only at CG2
 clear hw3 ht3 x0 y0 y2 T3 G3 g2 g3 z3 HY0 HY2 HT2 HG2 HWA HTQ SI1 HON1 CGET hcb hm hb hg
 go_wp2_with (first
  | (with_reducible refine wpList_store_mid rfl 33 (.tmp 7) (.tmp 19) rfl w2.heap.size 0 m.C rfl rfl HT3.out SIB.out HONB.out ?_; rw [HW3.out])
  | (with_reducible refine wpList_load_mid rfl 30 (.tmp 22) rfl w.heap.size 1 rfl (qcC s.l.v s.l.b s.l.A s.l.c).toList _ hm1 huq rfl SIl.out ?_; simp only [Array.toArray_toList])
  | (with_reducible refine wpList_load_mid rfl 30 (.tmp 24) rfl w2.heap.size 2 rfl (qcC m.b.qv m.b.qb m.A m.c).toList _ hm2 huq rfl SIm.out ?_; simp only [Array.toArray_toList]))
 refine (CG2.out _).mono ?_
 rintro e w4 ⟨rfl, g4⟩
 obtain ⟨l1, hl1⟩ : ∃ x : QV, grQ s.l ⟨m.b.qv, m.b.qb, m.A, m.c⟩ = x := ⟨_, rfl⟩
 have HL1 := Lib.hid hl1
 rw [hl1]
 have z0 := HX0.out.grew g4
 have G5 := grew_trans HG4.out g4
 have y0 := z0.putMid 1 l1.C.toList (by simp [QV.C, qcC, SV.C])
 have ey : (SV.C ⟨s.vt, s.l, h1⟩).toList.take 1 ++ l1.C.toList ++ (SV.C ⟨s.vt, s.l, h1⟩).toList.drop (1 + l1.C.toList.length) = (SV.C ⟨s.vt, l1, h1⟩).toList := rfl
 rw [ey] at y0
 have K1 := setCells_kp l1.C.toList w.heap.size 1 w4
 have z2 := (HY2'.out.grew g4).kp K1 (fun e => by omega)
 have G6 : Grew w (w4.setCells w.heap.size 1 l1.C.toList) := below_kp G5 K1 G5.size (fun i e => by have e' : i = w.heap.size := e; omega)
 obtain ⟨s2, hs2⟩ : ∃ x : SV, x = ⟨s.vt, l1, h1⟩ := ⟨_, rfl⟩
 rw [← hs2] at y0
 have HS2 : Hid (s2.f = sawF s.f q.v q.b b) := Lib.hid (by
  rw [hs2]
  unfold SV.f sawF
  dsimp only
  rw [← HL1.out, ← HH1.out, grQ_v, grQ_b, grQ_v, grQ_b]
  dsimp only
  rw [HMB.out])
 have SI1 : Hid ((Tryd.prog.info? 30).map (·.size) = some l1.C.size) := Lib.hid qc_info
 have HON1 : Hid (l1.C.all (·.oneCell') = true) := Lib.hid (qcC_one l1.v l1.b l1.A l1.c)
 have HTQ : Hid (w4.there w.heap.size 1 l1.C.size) := Lib.hid (fun i hi => by have h3 : i < 3 := hi; have := z0.there (1 + i) (by have : (SV.C ⟨s.vt, s.l, h1⟩).toList.length = 7 := rfl; omega); simpa using this)
 have hms := y0.cell
 have SIs : Hid ((Tryd.prog.info? 50).map (·.size) = some s2.C.toList.length) := Lib.hid sf_info
 have HZ2 := Lib.hid z2
 have HG6 := Lib.hid G6
 clear z0 y0 ey K1 z2 G5 G6 g4 hl1 hs2 HX0 HY2' HG4 CG2 hm1 hm2 SIl SIm SIB HONB HW3 HT3 HL1 HH1
 generalize hwb : w4.setCells w.heap.size 1 l1.C.toList = wb at *
 have HWB := Lib.hid hwb
 clear hwb
 have CC := Lib.hid (scopy_ok s2 wb)
 go_wp2_with (first
  | (with_reducible refine wpList_store_mid rfl 30 (.tmp 27) (.tmp 26) rfl w.heap.size 1 l1.C rfl rfl HTQ.out SI1.out HON1.out ?_; rw [HWB.out])
  | (with_reducible refine wpList_load_mid rfl 50 (.tmp 3) rfl w.heap.size 0 rfl s2.C.toList _ hms hus rfl SIs.out ?_; simp only [Array.toArray_toList]))
 refine (CC.out).mono ?_
 rintro e w5 ⟨m9, hm9, rfl, g5⟩
 have z3 := HZ2.out.grew g5
 have G7 := grew_trans HG6.out g5
 have HTH : Hid (w5.there (w.heap.size + 1 + 1) 0 m9.C.size) := Lib.hid (z3.thereN 7 rfl)
 have SI9 : Hid ((Tryd.prog.info? 50).map (·.size) = some m9.C.size) := Lib.hid sf_info
 have HON9 := Lib.hid m9.one
 have z4 := Ag.set (vs := m9.C.toList) z3 rfl
 have G8 := setCells_grew (o := 0) (b := w.heap.size + 1 + 1) m9.C.toList G7 (by omega)
 have HM9 : Hid (m9.f = sawF s.f q.v q.b b) := Lib.hid (hm9.trans HS2.out)
 clear z3 G7 g5 hm9 HZ2 HG6 CC hms SIs HWB HTQ SI1 HON1
 go_wp2_with (with_reducible refine wpList_store_mid rfl 50 (.tmp 6) (.tmp 29) rfl (w.heap.size + 1 + 1) 0 m9.C rfl rfl HTH.out SI9.out HON9.out ?_)
 exact bodyPost_ret (ltres_ag1 Tryd.results19 _ _ (w.heap.size + 1 + 1) _ _ rfl z4 hus rfl sf_info) rfl ⟨m9, HM9.out, rfl, G8⟩
end Go.Proofs.YtbohmmcmlabcdaaDoor

namespace Go.Proofs.YtbohmmcmlabcdaaDoor
set_option linter.unusedSimpArgs false
set_option linter.unusedVariables false
open Go.RowKit Go.Maps
set_option linter.unusedVariables false
set_option linter.unnecessarySimpa false
set_option linter.unusedSimpArgs false
/-- may a block be voted for, whose way is l? -/
def mayE (f : SF) (b : BB) (l : List Nat) : Int := if b.v ≤ f.vt then 12 else if f.lb ∈ l then 0 else if b.qv ≤ f.lv then 13 else 0
set_option maxRecDepth 100000 in
set_option maxHeartbeats 1000000 in
theorem may_no {t mb : Nat} {K : BL} (s : SV) (n : NB) (hn : n.b.ok) (d : Nat) (hd : blkD n.b = d) (hg : bget K d = none) (w : World) (hS : Std w) (h : TreeB w t mb K) :
 Calls Tryd.prog 20 #[.agg s.C, .pointer (some ⟨t, 0, none⟩), .agg n.C] w fun e w' => e = .returned (.int .i64 11) ∧ Grew w w' := by
 have hub := Tryd.underlying33
 have z0 := (Ag.new w 50 s.C).grew (grew_alloc (grew_refl _) (.cells n.C 33))
 have z1 := Ag.new (w.alloc (.cells s.C 50)) 33 n.C
 rw [alloc_size] at z1
 have G0 := grew_alloc (grew_alloc (grew_refl w) (.cells s.C 50)) (.cells n.C 33)
 have hm1 := z1.cell
 have SIN : Hid ((Tryd.prog.info? 33).map (·.size) = some n.C.toList.length) := Lib.hid nb_info
 have CD := Lib.hid (bdigest_ok n hn _ (hS.grew G0))
 rw [hd] at CD
 have HT := Lib.hid (h.gr G0)
 have HLT : Hid (d < 18446744073709551616) := Lib.hid (by rw [← hd]; exact blkD_lt _)
 clear z0 z1 h hS hn hd
 go_enter Tryd.func20, Tryd.ntmps20
 go_wp2_with (with_reducible refine wpList_load_mid rfl 33 (.tmp 5) rfl (w.heap.size + 1) 0 rfl n.C.toList _ hm1 hub rfl SIN.out ?_; simp only [Array.toArray_toList])
 refine (CD.out).mono ?_
 rintro e w1 ⟨rfl, g1⟩
 have CE := Lib.hid (extB_no d d HLT.out hg w1 (HT.out.gr g1))
 have G1 := grew_trans G0 g1
 clear hm1 CD HT G0 g1 hg
 go_wp2_with fail
 refine (CE.out).mono ?_
 rintro e w2 ⟨rfl, g2⟩
 go_wp2_with fail
 go_ret
 exact ⟨rfl, grew_trans G1 g2⟩
set_option maxRecDepth 100000 in
set_option maxHeartbeats 2000000 in
theorem may_ok {t mb : Nat} {K : BL} (s : SV) (n : NB) (hn : n.b.ok) (d : Nat) (hd : blkD n.b = d) (l : List Nat) (hW : WayB K d l) (hl : l.length ≤ 100000) (w : World) (hS : Std w) (h : TreeB w t mb K) :
 Calls Tryd.prog 20 #[.agg s.C, .pointer (some ⟨t, 0, none⟩), .agg n.C] w fun e w' => e = .returned (.int .i64 (mayE s.f n.b l)) ∧ Grew w w' := by
 have hub := Tryd.underlying33
 have z0 := (Ag.new w 50 s.C).grew (grew_alloc (grew_refl _) (.cells n.C 33))
 have z1 := Ag.new (w.alloc (.cells s.C 50)) 33 n.C
 rw [alloc_size] at z1
 have G0 := grew_alloc (grew_alloc (grew_refl w) (.cells s.C 50)) (.cells n.C 33)
 have hm1 := z1.cell
 have SIN : Hid ((Tryd.prog.info? 33).map (·.size) = some n.C.toList.length) := Lib.hid nb_info
 have CD := Lib.hid (bdigest_ok n hn _ (hS.grew G0))
 rw [hd] at CD
 have HT := Lib.hid (h.gr G0)
 have hdl : decide (d ∈ l) = true := decide_eq_true (by cases hW <;> simp)
 have HDL := Lib.hid hdl
 have HZ0 := Lib.hid z0
 have HZ1 := Lib.hid z1
 have CX := Lib.hid (fun W hT => extB (t := t) (mb := mb) d d l hW hl W hT)
 have CY := Lib.hid (fun W hT => extB (t := t) (mb := mb) d s.l.b l hW hl W hT)
 rw [hdl] at CX
 obtain ⟨E, hE⟩ : ∃ E, mayE s.f n.b l = E := ⟨_, rfl⟩
 have HE := Lib.hid hE
 rw [hE]
 have HG0 := Lib.hid G0
 clear z0 z1 h hS hn hd hdl hE G0 hW
 go_enter Tryd.func20, Tryd.ntmps20
 go_wp2_with (with_reducible refine wpList_load_mid rfl 33 (.tmp 5) rfl (w.heap.size + 1) 0 rfl n.C.toList _ hm1 hub rfl SIN.out ?_; simp only [Array.toArray_toList])
 refine (CD.out).mono ?_
 rintro e w1 ⟨rfl, g1⟩
 have T1 := HT.out.gr g1
 have G1 := grew_trans HG0.out g1
 have x0 := HZ0.out.grew g1
 have x1 := HZ1.out.grew g1
 clear hm1 CD HT HG0 g1 HZ0 HZ1
 go_wp2_with fail
 refine (CX.out w1 T1).mono ?_
 rintro e w2 ⟨rfl, g2⟩
 have T2 := T1.gr g2
 have G2 := grew_trans G1 g2
 have y0 := x0.grew g2
 have y1 := x1.grew g2
 have c1 : w2.cell? ⟨w.heap.size + 1, 0, none⟩ = some (.int .i64 n.b.v) := by simpa [NB.C] using y1.cell 0 _ rfl
 have c2 : w2.cell? ⟨w.heap.size, 0, none⟩ = some (.int .i64 s.vt) := by simpa [SV.C] using y0.cell 0 _ rfl
 have c3 : w2.cell? ⟨w.heap.size, 2, none⟩ = some (.int .u64 (s.l.b : Nat)) := by simpa [SV.C] using y0.cell 2 _ rfl
 have hE := HE.out
 unfold mayE at hE
 have HTT := Lib.hid T2
 have HY0 := Lib.hid y0
 have HY1 := Lib.hid y1
 clear x0 x1 y0 y1 T1 G1 g2 CX T2 HE
 by_cases hv : n.b.v ≤ s.f.vt
 ·rw [if_pos hv] at hE
  have e1 : decide (n.b.v ≤ s.vt) = true := decide_eq_true hv
  have HEE := Lib.hid hE.symm
  clear hv hE c3
  generalize n.b.v = bv at *
  generalize s.vt = sv at *
  go_wp2_with fail
  go_ret
  exact ⟨by rw [HEE.out]; rfl, G2⟩
 ·rw [if_neg hv] at hE
  have e1 : decide (n.b.v ≤ s.vt) = false := decide_eq_false hv
  clear hv
  have CY2 := Lib.hid (CY.out w2 HTT.out)
  by_cases hin : s.f.lb ∈ l
  ·rw [if_pos hin] at hE
   have e2 : decide (s.l.b ∈ l) = true := decide_eq_true hin
   rw [e2] at CY2
   have HEE := Lib.hid hE.symm
   clear hin hE CY e2
   go_wp2_with fail
   refine (CY2.out).mono ?_
   rintro e w3 ⟨rfl, g3⟩
   have G3 := grew_trans G2 g3
   clear CY2 c1 c2 c3 G2 g3
   go_wp2_with fail
   go_ret
   exact ⟨by rw [HEE.out]; rfl, G3⟩
  ·rw [if_neg hin] at hE
   have e2 : decide (s.l.b ∈ l) = false := decide_eq_false hin
   rw [e2] at CY2
   clear hin CY e2
   by_cases hq : n.b.qv ≤ s.f.lv
   ·rw [if_pos hq] at hE
    have e3 : decide (n.b.qv ≤ s.l.v) = true := decide_eq_true hq
    have HEE := Lib.hid hE.symm
    clear hq hE
    go_wp2_with fail
    refine (CY2.out).mono ?_
    rintro e w3 ⟨rfl, g3⟩
    have G3 := grew_trans G2 g3
    have d1 : w3.cell? ⟨w.heap.size + 1, 2, none⟩ = some (.int .i64 n.b.qv) := by simpa [NB.C] using (HY1.out.grew g3).cell 2 _ rfl
    have d2 : w3.cell? ⟨w.heap.size, 1, none⟩ = some (.int .i64 s.l.v) := by simpa [SV.C] using (HY0.out.grew g3).cell 1 _ rfl
    clear CY2 c1 c2 c3 G2 g3
    go_wp2_with fail
    go_ret
    exact ⟨by rw [HEE.out]; rfl, G3⟩
   ·rw [if_neg hq] at hE
    have e3 : decide (n.b.qv ≤ s.l.v) = false := decide_eq_false hq
    have HEE := Lib.hid hE.symm
    clear hq hE
    go_wp2_with fail
    refine (CY2.out).mono ?_
    rintro e w3 ⟨rfl, g3⟩
    have G3 := grew_trans G2 g3
    have d1 : w3.cell? ⟨w.heap.size + 1, 2, none⟩ = some (.int .i64 n.b.qv) := by simpa [NB.C] using (HY1.out.grew g3).cell 2 _ rfl
    have d2 : w3.cell? ⟨w.heap.size, 1, none⟩ = some (.int .i64 s.l.v) := by simpa [SV.C] using (HY0.out.grew g3).cell 1 _ rfl
    clear CY2 c1 c2 c3 G2 g3
    go_wp2_with fail
    go_ret
    exact ⟨by rw [HEE.out]; rfl, G3⟩
set_option maxRecDepth 100000 in
set_option maxHeartbeats 2000000 in
theorem vote_no {t mb : Nat} {K : BL} (s : SV) (n : NB) (hn : n.b.ok) (d : Nat) (hd : blkD n.b = d) (l : List Nat) (hW : WayB K d l) (hl : l.length ≤ 100000) (E : Int) (hE : mayE s.f n.b l = E) (hE0 : E ≠ 0) (w : World) (hS : Std w) (h : TreeB w t mb K) :
 Calls Tryd.prog 18 #[.agg s.C, .pointer (some ⟨t, 0, none⟩), .agg n.C] w fun e w' => ∃ m : SV, m.f = s.f ∧ e = .returned (.tuple #[.agg m.C, .int .i64 E]) ∧ Grew w w' := by
 have hub := Tryd.underlying33
 have huq := Tryd.underlying30
 have hus := Tryd.underlying50
 have z0 := (Ag.new w 50 s.C).grew (grew_alloc (grew_alloc (grew_refl _) (.cells n.C 33)) (.cells (#[.int .i64 0, .int .i64 0, .int .u64 0, .slice none 0 0, .int .i64 0, .int .u64 0, .slice none 0 0]) 50))
 have z1 := (Ag.new (w.alloc (.cells s.C 50)) 33 n.C).grew (grew_alloc (grew_refl _) (.cells (#[.int .i64 0, .int .i64 0, .int .u64 0, .slice none 0 0, .int .i64 0, .int .u64 0, .slice none 0 0]) 50))
 have z2 := Ag.new ((w.alloc (.cells s.C 50)).alloc (.cells n.C 33)) 50 (#[.int .i64 0, .int .i64 0, .int .u64 0, .slice none 0 0, .int .i64 0, .int .u64 0, .slice none 0 0])
 rw [alloc_size] at z1 z2
 rw [alloc_size] at z2
 have G0 := grew_alloc (grew_alloc (grew_alloc (grew_refl w) (.cells s.C 50)) (.cells n.C 33)) (.cells (#[.int .i64 0, .int .i64 0, .int .u64 0, .slice none 0 0, .int .i64 0, .int .u64 0, .slice none 0 0]) 50)
 have hm0 := z0.cell
 have hm1 := z1.cell
 have SIN : Hid ((Tryd.prog.info? 33).map (·.size) = some n.C.toList.length) := Lib.hid nb_info
 have SIS : Hid ((Tryd.prog.info? 50).map (·.size) = some s.C.toList.length) := Lib.hid sf_info
 have CM := Lib.hid (may_ok s n hn d hd l hW hl _ (hS.grew G0) (h.gr G0))
 rw [hE] at CM
 have HT := Lib.hid (h.gr G0)
 have HZ0 := Lib.hid z0
 have HZ1 := Lib.hid z1
 have HZ2 := Lib.hid z2
 have HG0 := Lib.hid G0
 clear z0 z1 z2 G0 h hS hd hW hl hE
 go_enter Tryd.func18, Tryd.ntmps18
 go_wp2_with (first
  | (with_reducible refine wpList_load_mid rfl 50 (.tmp 3) rfl w.heap.size 0 rfl s.C.toList _ hm0 hus rfl SIS.out ?_; simp only [Array.toArray_toList])
  | (with_reducible refine wpList_load_mid rfl 33 (.tmp 5) rfl (w.heap.size + 1) 0 rfl n.C.toList _ hm1 hub rfl SIN.out ?_; simp only [Array.toArray_toList]))
 refine (CM.out).mono ?_
 rintro e w1 ⟨rfl, g1⟩
 have z0 := HZ0.out.grew g1
 have z1 := HZ1.out.grew g1
 have z2 := HZ2.out.grew g1
 have G1 := grew_trans HG0.out g1
 have T1 := HT.out.gr g1
 have e1 : (E != 0) = true := by simpa using hE0
 have CC := Lib.hid (scopy_ok s w1)
 have hm2 := z0.cell
 have HZ := Lib.hid z2
 clear HZ0 HZ1 HZ2 HG0 HT hm0 hm1 CM g1 z0 z1 z2 T1 hE0
 go_wp2_with (with_reducible refine wpList_load_mid rfl 50 (.tmp 3) rfl w.heap.size 0 rfl s.C.toList _ hm2 hus rfl SIS.out ?_; simp only [Array.toArray_toList])
 refine (CC.out).mono ?_
 rintro e w2 ⟨m, hm, rfl, g2⟩
 have z3 := HZ.out.grew g2
 have G2 := grew_trans G1 g2
 have HTH : Hid (w2.there (w.heap.size + 1 + 1) 0 m.C.size) := Lib.hid (z3.thereN 7 rfl)
 have SI9 : Hid ((Tryd.prog.info? 50).map (·.size) = some m.C.size) := Lib.hid sf_info
 have HON9 := Lib.hid m.one
 have z4 := Ag.set (vs := m.C.toList) z3 rfl
 have G3 := setCells_grew (o := 0) (b := w.heap.size + 1 + 1) m.C.toList G2 (by omega)
 have HMF := Lib.hid hm
 clear z3 G2 g2 G1 hm HZ CC hm2 SIS
 go_wp2_with (with_reducible refine wpList_store_mid rfl 50 (.tmp 6) (.tmp 16) rfl (w.heap.size + 1 + 1) 0 m.C rfl rfl HTH.out SI9.out HON9.out ?_)
 exact bodyPost_ret (ltres_ag2 Tryd.results18 _ _ (w.heap.size + 1 + 1) _ _ _ rfl rfl z4 hus rfl sf_info) rfl ⟨m, HMF.out, by simp, G3⟩
set_option maxRecDepth 100000 in
set_option maxHeartbeats 2000000 in
theorem vote_yes {t mb : Nat} {K : BL} (s : SV) (n : NB) (hn : n.b.ok) (d : Nat) (hd : blkD n.b = d) (l : List Nat) (hW : WayB K d l) (hl : l.length ≤ 100000) (hE : mayE s.f n.b l = 0) (b : BB) (hg : bget K n.b.qb = some b) (w : World) (hS : Std w) (h : TreeB w t mb K) :
 Calls Tryd.prog 18 #[.agg s.C, .pointer (some ⟨t, 0, none⟩), .agg n.C] w fun e w' => ∃ m : SV, m.f = sawF ⟨n.b.v, s.l.v, s.l.b, s.h.v, s.h.b⟩ n.b.qv n.b.qb b ∧ e = .returned (.tuple #[.agg m.C, .int .i64 0]) ∧ Grew w w' := by
 have hub := Tryd.underlying33
 have huq := Tryd.underlying30
 have hus := Tryd.underlying50
 have z0 := (Ag.new w 50 s.C).grew (grew_alloc (grew_alloc (grew_refl _) (.cells n.C 33)) (.cells (#[.int .i64 0, .int .i64 0, .int .u64 0, .slice none 0 0, .int .i64 0, .int .u64 0, .slice none 0 0]) 50))
 have z1 := (Ag.new (w.alloc (.cells s.C 50)) 33 n.C).grew (grew_alloc (grew_refl _) (.cells (#[.int .i64 0, .int .i64 0, .int .u64 0, .slice none 0 0, .int .i64 0, .int .u64 0, .slice none 0 0]) 50))
 have z2 := Ag.new ((w.alloc (.cells s.C 50)).alloc (.cells n.C 33)) 50 (#[.int .i64 0, .int .i64 0, .int .u64 0, .slice none 0 0, .int .i64 0, .int .u64 0, .slice none 0 0])
 rw [alloc_size] at z1 z2
 rw [alloc_size] at z2
 have G0 := grew_alloc (grew_alloc (grew_alloc (grew_refl w) (.cells s.C 50)) (.cells n.C 33)) (.cells (#[.int .i64 0, .int .i64 0, .int .u64 0, .slice none 0 0, .int .i64 0, .int .u64 0, .slice none 0 0]) 50)
 have hm0 := z0.cell
 have hm1 := z1.cell
 have SIN : Hid ((Tryd.prog.info? 33).map (·.size) = some n.C.toList.length) := Lib.hid nb_info
 have SIS : Hid ((Tryd.prog.info? 50).map (·.size) = some s.C.toList.length) := Lib.hid sf_info
 have CM := Lib.hid (may_ok s n hn d hd l hW hl _ (hS.grew G0) (h.gr G0))
 rw [hE] at CM
 have HT := Lib.hid (h.gr G0)
 have HZ0 := Lib.hid z0
 have HZ1 := Lib.hid z1
 have HZ2 := Lib.hid z2
 have HG0 := Lib.hid G0
 clear z0 z1 z2 G0 h hS hd hW hl hE
 go_enter Tryd.func18, Tryd.ntmps18
 go_wp2_with (first
  | (with_reducible refine wpList_load_mid rfl 50 (.tmp 3) rfl w.heap.size 0 rfl s.C.toList _ hm0 hus rfl SIS.out ?_; simp only [Array.toArray_toList])
  | (with_reducible refine wpList_load_mid rfl 33 (.tmp 5) rfl (w.heap.size + 1) 0 rfl n.C.toList _ hm1 hub rfl SIN.out ?_; simp only [Array.toArray_toList]))
 refine (CM.out).mono ?_
 rintro e w1 ⟨rfl, g1⟩
 have z0 := HZ0.out.grew g1
 have z1 := HZ1.out.grew g1
 have z2 := HZ2.out.grew g1
 have G1 := grew_trans HG0.out g1
 have T1 := HT.out.gr g1
 have c1 : w1.cell? ⟨w.heap.size + 1, 0, none⟩ = some (.int .i64 n.b.v) := by simpa [NB.C] using z1.cell 0 _ rfl
 have cs : w1.cell? ⟨w.heap.size, 0, none⟩ = some (.int .i64 s.vt) := by simpa [SV.C] using z0.cell 0 _ rfl
 have fs : w1.frozen? ⟨w.heap.size, 0, none⟩ = false := by simpa using (z0.there 0 (by simp [SV.C])).2
 have y0 := z0.putMid 0 [.int .i64 n.b.v] (by simp [SV.C])
 have ey : s.C.toList.take 0 ++ [Value.int .i64 n.b.v] ++ s.C.toList.drop (0 + [Value.int .i64 n.b.v].length) = (SV.C ⟨n.b.v, s.l, s.h⟩).toList := rfl
 rw [ey, show w1.setCells w.heap.size 0 [.int .i64 n.b.v] = w1.setCell ⟨w.heap.size, 0, none⟩ (.int .i64 n.b.v) from rfl] at y0
 have K1 := kp_set (S := fun j => j = w.heap.size) (kp_refl _ w1) (p := ⟨w.heap.size, 0, none⟩) (.inl rfl) (.int .i64 n.b.v)
 have hnt : t ≠ w.heap.size := fun e => by
  obtain ⟨L, h3, _⟩ := T1
  have c3 := h3.cell
  rw [e, cs] at c3; cases c3
 have hnm : mb ≠ w.heap.size := fun e => by
  obtain ⟨L, h3, _⟩ := T1
  obtain ⟨es, ck, hb', _⟩ := h3.own
  rw [e] at hb'
  simp [World.cell?, hb'] at cs
 have T2 := T1.kp K1 hnt hnm
 have x1 := z1.kp K1 (fun e => by omega)
 have x2 := z2.kp K1 (fun e => by omega)
 have G2 : Grew w (w1.setCell ⟨w.heap.size, 0, none⟩ (.int .i64 n.b.v)) := below_kp G1 K1 G1.size (fun i e => by have e' : i = w.heap.size := e; omega)
 have hmq : (w1.setCell ⟨w.heap.size, 0, none⟩ (.int .i64 n.b.v)).rangeAt (w.heap.size + 1) 2 (qcC n.b.qv n.b.qb n.A n.c).toList := nb_qc x1.cell
 have SIQ : Hid ((Tryd.prog.info? 30).map (·.size) = some (qcC n.b.qv n.b.qb n.A n.c).toList.length) := Lib.hid qc_info
 obtain ⟨s2, hs2⟩ : ∃ x : SV, x = ⟨n.b.v, s.l, s.h⟩ := ⟨_, rfl⟩
 rw [← hs2] at y0
 have hms := y0.cell
 have SI2 : Hid ((Tryd.prog.info? 50).map (·.size) = some s2.C.toList.length) := Lib.hid sf_info
 have CS := Lib.hid (saw_ok s2 ⟨n.b.qv, n.b.qb, n.A, n.c⟩ b hn.qb hg _ T2)
 dsimp only at CS
 have HS2 : Hid (s2.f = ⟨n.b.v, s.l.v, s.l.b, s.h.v, s.h.b⟩) := Lib.hid (by rw [hs2]; rfl)
 have HX2 := Lib.hid x2
 have HG2 := Lib.hid G2
 clear HZ0 HZ1 HZ2 HG0 HT hm0 hm1 CM g1 z0 z1 z2 T1 T2 x1 x2 y0 ey K1 G1 G2 hs2 hnt hnm hn hg
 go_wp2_with (first
  | (with_reducible refine wpList_load_mid rfl 50 (.tmp 3) rfl w.heap.size 0 rfl s2.C.toList _ hms hus rfl SI2.out ?_; simp only [Array.toArray_toList])
  | (with_reducible refine wpList_load_mid rfl 30 (.tmp 23) rfl (w.heap.size + 1) 2 rfl (qcC n.b.qv n.b.qb n.A n.c).toList _ hmq huq rfl SIQ.out ?_; simp only [Array.toArray_toList]))
 refine (CS.out).mono ?_
 rintro e w2 ⟨m, hm, rfl, g2⟩
 have z3 := HX2.out.grew g2
 have G3 := grew_trans HG2.out g2
 have HTH : Hid (w2.there (w.heap.size + 1 + 1) 0 m.C.size) := Lib.hid (z3.thereN 7 rfl)
 have SI9 : Hid ((Tryd.prog.info? 50).map (·.size) = some m.C.size) := Lib.hid sf_info
 have HON9 := Lib.hid m.one
 have z4 := Ag.set (vs := m.C.toList) z3 rfl
 have G4 := setCells_grew (o := 0) (b := w.heap.size + 1 + 1) m.C.toList G3 (by omega)
 have HMF : Hid (m.f = sawF ⟨n.b.v, s.l.v, s.l.b, s.h.v, s.h.b⟩ n.b.qv n.b.qb b) := Lib.hid (by rw [hm, HS2.out])
 clear z3 G3 g2 hm HX2 HG2 CS hms hmq SI2 SIQ c1 cs fs HS2
 go_wp2_with (with_reducible refine wpList_store_mid rfl 50 (.tmp 6) (.tmp 25) rfl (w.heap.size + 1 + 1) 0 m.C rfl rfl HTH.out SI9.out HON9.out ?_)
 exact bodyPost_ret (ltres_ag2 Tryd.results18 _ _ (w.heap.size + 1 + 1) _ _ _ rfl rfl z4 hus rfl sf_info) rfl ⟨m, HMF.out, by simp, G4⟩
end Go.Proofs.YtbohmmcmlabcdaaDoor

namespace Go.Proofs.YtbohmmcmlabcdaaDoor
set_option linter.unusedSimpArgs false
set_option linter.unusedVariables false
open Go.RowKit Go.Maps
set_option linter.unusedVariables false
set_option linter.unnecessarySimpa false
set_option linter.unusedSimpArgs false
def kA : BB := ⟨1, 0, 0, 0, 0, 5⟩
def kB (a : Nat) : BB := ⟨2, a, 1, a, 5, 9⟩
def kC (b : Nat) : BB := ⟨3, b, 2, b, 9, 12⟩
def kD : BB := ⟨4, 0, 0, 0, 0, 7⟩
def kX : BB := ⟨9, 0, 0, 0, 0, 99⟩
structure D18 (a b c d x : Nat) : Prop where
 ha : blkD kA = a
 hb : blkD (kB a) = b
 hc : blkD (kC b) = c
 hd : blkD kD = d
 hx : blkD kX = x
 nd : [0, a, b, c, d, x].Nodup
 la : a < 18446744073709551616
 lb : b < 18446744073709551616
set_option maxRecDepth 20000 in
theorem d18 : ∃ a b c d x, D18 a b c d x := ⟨3515922187238252777, 4300589690417165848, 7291215111155805340, 10132649056319210549, 16517825461125140006, by rw [blkD_C]; decide +kernel, by rw [blkD_C]; decide +kernel, by rw [blkD_C]; decide +kernel, by rw [blkD_C]; decide +kernel, by rw [blkD_C]; decide +kernel, by decide +kernel, by decide, by decide⟩
theorem kA_ok : kA.ok := by constructor <;> simp [kA, in64]
theorem kB_ok {a : Nat} (h : a < 18446744073709551616) : (kB a).ok := by constructor <;> simp [kB, in64] <;> omega
theorem kC_ok {a : Nat} (h : a < 18446744073709551616) : (kC a).ok := by constructor <;> simp [kC, in64] <;> omega
theorem kD_ok : kD.ok := by constructor <;> simp [kD, in64]
theorem kX_ok : kX.ok := by constructor <;> simp [kX, in64]
def K18 (a b c d : Nat) : BL := [(0, bb0), (a, kA), (b, kB a), (c, kC b), (d, kD)]
theorem way18_0 (a b c d : Nat) : WayB (K18 a b c d) 0 [0] := .root (by simp [K18, bget])
section
variable {a b c d x : Nat} (H : D18 a b c d x) {t mb : Nat}
include H
theorem add18_1 (w : World) (hS : Std w) (h : TreeB w t mb ((K18 a b c d).take 1)) : Calls Tryd.prog 9 #[.pointer (some ⟨t, 0, none⟩), .agg kA.z.C] w fun e w' => e = .returned (.int .i64 0) ∧ TreeB w' t mb ((K18 a b c d).take 2) ∧ Kp (fun i => i = mb) w w' := by
 have hn := H.nd
 simp at hn
 exact addB_yes (K := (K18 a b c d).take 1) kA.z kA_ok a H.ha bb0 (by simp [K18, bget, hn]) (by simp [K18, bget, kA, BB.z]) (by decide) rfl (by simp [K18]) w hS h
theorem add18_2 (w : World) (hS : Std w) (h : TreeB w t mb ((K18 a b c d).take 2)) : Calls Tryd.prog 9 #[.pointer (some ⟨t, 0, none⟩), .agg (kB a).z.C] w fun e w' => e = .returned (.int .i64 0) ∧ TreeB w' t mb ((K18 a b c d).take 3) ∧ Kp (fun i => i = mb) w w' := by
 have hn := H.nd
 simp at hn
 exact addB_yes (K := (K18 a b c d).take 2) (kB a).z (kB_ok H.la) b H.hb kA (by simp [K18, bget, hn]) (by simp [K18, bget, kB, BB.z, hn]) (by show (1 : Int) < 2; decide) rfl (by simp [K18]) w hS h
theorem add18_3 (w : World) (hS : Std w) (h : TreeB w t mb ((K18 a b c d).take 3)) : Calls Tryd.prog 9 #[.pointer (some ⟨t, 0, none⟩), .agg (kC b).z.C] w fun e w' => e = .returned (.int .i64 0) ∧ TreeB w' t mb ((K18 a b c d).take 4) ∧ Kp (fun i => i = mb) w w' := by
 have hn := H.nd
 simp at hn
 exact addB_yes (K := (K18 a b c d).take 3) (kC b).z (kC_ok H.lb) c H.hc (kB a) (by simp [K18, bget, hn]) (by simp [K18, bget, kC, BB.z, hn]) (by show (2 : Int) < 3; decide) rfl (by simp [K18]) w hS h
theorem add18_4 (w : World) (hS : Std w) (h : TreeB w t mb ((K18 a b c d).take 4)) : Calls Tryd.prog 9 #[.pointer (some ⟨t, 0, none⟩), .agg kD.z.C] w fun e w' => e = .returned (.int .i64 0) ∧ TreeB w' t mb (K18 a b c d) ∧ Kp (fun i => i = mb) w w' := by
 have hn := H.nd
 simp at hn
 exact addB_yes (K := (K18 a b c d).take 4) kD.z kD_ok d H.hd bb0 (by simp [K18, bget, hn]) (by simp [K18, bget, kD, BB.z]) (by decide) rfl (by simp [K18]) w hS h
theorem way18_a : WayB (K18 a b c d) a [a, 0] := .step (b := kA) (by have hn := H.nd; simp at hn; omega) (by have hn := H.nd; simp at hn; simp [K18, bget, hn]) (way18_0 a b c d)
theorem way18_b : WayB (K18 a b c d) b [b, a, 0] := .step (b := kB a) (by have hn := H.nd; simp at hn; omega) (by have hn := H.nd; simp at hn; simp [K18, bget, hn]) (way18_a H)
theorem way18_c : WayB (K18 a b c d) c [c, b, a, 0] := .step (b := kC b) (by have hn := H.nd; simp at hn; omega) (by have hn := H.nd; simp at hn; simp [K18, bget, hn]) (way18_b H)
theorem way18_d : WayB (K18 a b c d) d [d, 0] := .step (b := kD) (by have hn := H.nd; simp at hn; omega) (by have hn := H.nd; simp at hn; simp [K18, bget, hn]) (way18_0 a b c d)
end
/-- what a vote gives -/
structure VtS (f : SF) (E : Int) (v : Value) : Prop where
 out : ∃ m : SV, m.f = f ∧ v = .tuple #[.agg m.C, .int .i64 E]
structure SfF (w0 : World) (f : SF) (v : Value) (W : World) : Prop where
 out : ∃ (q : Nat) (s : SV), v = .pointer (some ⟨q, 0, none⟩) ∧ Ag W q s.C.toList ∧ s.f = f ∧ w0.heap.size ≤ q ∧ Grew w0 W
theorem SfF.gr {w0 : World} {f : SF} {v : Value} {x y : World} (h : SfF w0 f v x) (g : Grew x y) : SfF w0 f v y := by
 obtain ⟨q, s, h1, h2, h3, h4, h5⟩ := h.out
 exact ⟨q, s, h1, h2.grew g, h3, h4, grew_trans h5 g⟩
section
variable {a b c d x : Nat} (H : D18 a b c d x) {t mb : Nat}
include H
theorem vote18_1 (w : World) (hS : Std w) (h : TreeB w t mb (K18 a b c d)) : Calls Tryd.prog 18 #[.agg sv0.C, .pointer (some ⟨t, 0, none⟩), .agg kA.z.C] w fun e w' => ∃ m : SV, m.f = ⟨1, 0, 0, 0, 0⟩ ∧ e = .returned (.tuple #[.agg m.C, .int .i64 0]) ∧ Grew w w' :=
 vote_yes sv0 kA.z kA_ok a H.ha [a, 0] (way18_a H) (by simp) (by simp [mayE, sv0, SV.f, kA, BB.z]) bb0 (by simp [K18, bget, kA, BB.z]) w hS h
theorem vote18_2 (s : SV) (hs : s.f = ⟨1, 0, 0, 0, 0⟩) (w : World) (hS : Std w) (h : TreeB w t mb (K18 a b c d)) : Calls Tryd.prog 18 #[.agg s.C, .pointer (some ⟨t, 0, none⟩), .agg (kB a).z.C] w fun e w' => ∃ m : SV, m.f = ⟨2, 0, 0, 1, a⟩ ∧ e = .returned (.tuple #[.agg m.C, .int .i64 0]) ∧ Grew w w' := by
 have hn := H.nd
 simp at hn
 have e1 : s.l.v = 0 ∧ s.l.b = 0 ∧ s.h.v = 0 ∧ s.h.b = 0 := by unfold SV.f at hs; injection hs with h1 h2 h3 h4 h5; exact ⟨h2, h3, h4, h5⟩
 have := vote_yes s (kB a).z (kB_ok H.la) b H.hb [b, a, 0] (way18_b H) (by simp) (by rw [hs]; simp [mayE, kB, BB.z]) kA (by simp [K18, bget, kB, BB.z, hn]) w hS h
 rw [e1.1, e1.2.1, e1.2.2.1, e1.2.2.2] at this
 exact this
theorem vote18_3 (s : SV) (hs : s.f = ⟨2, 0, 0, 1, a⟩) (w : World) (hS : Std w) (h : TreeB w t mb (K18 a b c d)) : Calls Tryd.prog 18 #[.agg s.C, .pointer (some ⟨t, 0, none⟩), .agg (kC b).z.C] w fun e w' => ∃ m : SV, m.f = ⟨3, 1, a, 2, b⟩ ∧ e = .returned (.tuple #[.agg m.C, .int .i64 0]) ∧ Grew w w' := by
 have hn := H.nd
 simp at hn
 have e1 : s.l.v = 0 ∧ s.l.b = 0 ∧ s.h.v = 1 ∧ s.h.b = a := by unfold SV.f at hs; injection hs with h1 h2 h3 h4 h5; exact ⟨h2, h3, h4, h5⟩
 have := vote_yes s (kC b).z (kC_ok H.lb) c H.hc [c, b, a, 0] (way18_c H) (by simp) (by rw [hs]; simp [mayE, kC, BB.z]) (kB a) (by simp [K18, bget, kC, BB.z, hn]) w hS h
 rw [e1.1, e1.2.1, e1.2.2.1, e1.2.2.2] at this
 exact this
theorem vote18_4 (s : SV) (hs : s.f = ⟨3, 1, a, 2, b⟩) (w : World) (hS : Std w) (h : TreeB w t mb (K18 a b c d)) : Calls Tryd.prog 18 #[.agg s.C, .pointer (some ⟨t, 0, none⟩), .agg (kC b).z.C] w fun e w' => ∃ m : SV, m.f = ⟨3, 1, a, 2, b⟩ ∧ e = .returned (.tuple #[.agg m.C, .int .i64 12]) ∧ Grew w w' := by
 have := vote_no s (kC b).z (kC_ok H.lb) c H.hc [c, b, a, 0] (way18_c H) (by simp) 12 (by rw [hs]; simp [mayE, kC, BB.z]) (by decide) w hS h
 rw [hs] at this
 exact this
theorem may18_1 (s : SV) (hs : s.f = ⟨3, 1, a, 2, b⟩) (w : World) (hS : Std w) (h : TreeB w t mb (K18 a b c d)) : Calls Tryd.prog 20 #[.agg s.C, .pointer (some ⟨t, 0, none⟩), .agg kD.z.C] w fun e w' => e = .returned (.int .i64 13) ∧ Grew w w' := by
 have hn := H.nd
 simp at hn
 have := may_ok s kD.z kD_ok d H.hd [d, 0] (way18_d H) (by simp) w hS h
 rw [hs] at this
 rwa [show mayE ⟨3, 1, a, 2, b⟩ kD.z.b [d, 0] = 13 by simp [mayE, kD, BB.z, hn]; omega] at this
theorem may18_2 (s : SV) (w : World) (hS : Std w) (h : TreeB w t mb (K18 a b c d)) : Calls Tryd.prog 20 #[.agg s.C, .pointer (some ⟨t, 0, none⟩), .agg kX.z.C] w fun e w' => e = .returned (.int .i64 11) ∧ Grew w w' := by
 have hn := H.nd
 simp at hn
 exact may_no s kX.z kX_ok x H.hx (by simp [K18, bget, hn]) w hS h
end
end Go.Proofs.YtbohmmcmlabcdaaDoor

namespace Go.Proofs.YtbohmmcmlabcdaaDoor
set_option linter.unusedSimpArgs false
set_option linter.unusedVariables false
open Go.RowKit Go.Maps
set_option linter.unusedVariables false
set_option linter.unnecessarySimpa false
set_option linter.unusedSimpArgs false
theorem bdig (n : NB) (hn : n.b.ok) (d : Nat) (hd : blkD n.b = d) (w : World) (hS : Std w) : Calls Tryd.prog 10 #[.agg n.C] w fun e w' => e = .returned (.int .u64 (d : Nat)) ∧ Grew w w' := by
 have := bdigest_ok n hn w hS
 rwa [hd] at this
set_option maxRecDepth 100000 in
set_option maxHeartbeats 4000000 in
theorem known18_ok (w : World) (hS : Std w) : Calls Tryd.prog 15 #[] w fun e w' => e = .returned (.bool true) ∧ Grew w w' := by
 obtain ⟨a, b, c, d, x, H⟩ := d18
 have HH := Lib.hid H
 have hub := Tryd.underlying33
 have hus := Tryd.underlying50
 have huq := Tryd.underlying30
 have HS := Lib.hid hS
 have SIA : Hid ((Tryd.prog.info? 33).map (·.size) = some kA.z.C.toList.length) := Lib.hid nb_info
 have SIB : Hid ((Tryd.prog.info? 33).map (·.size) = some (kB a).z.C.toList.length) := Lib.hid nb_info
 have SIC : Hid ((Tryd.prog.info? 33).map (·.size) = some (kC b).z.C.toList.length) := Lib.hid nb_info
 have SID : Hid ((Tryd.prog.info? 33).map (·.size) = some kD.z.C.toList.length) := Lib.hid nb_info
 clear hS
 have CDA := Lib.hid (fun W hW => bdig kA.z kA_ok a H.ha W hW)
 have CDB := Lib.hid (fun W hW => bdig (kB a).z (kB_ok H.la) b H.hb W hW)
 go_enter Tryd.func15, Tryd.ntmps15
 go_wp2_with fail
 refine (newB w).mono ?_
 rintro e w1 ⟨t, mb, rfl, T1, htw, hmw, G1⟩
 have hT1 := T1.lt
 go_wp2_with fail
 refine (lawB_ok 1 0 0 5 w1).mono ?_
 rintro e w2 ⟨rfl, g2⟩
 rw [show bbB 1 0 0 5 = kA from rfl]
 obtain ⟨v2, hv2, ht2, gs2, z2⟩ := ltput_any w2 33 (#[.int .i64 0, .int .u64 0, .int .i64 0, .int .u64 0, .slice none 0 0, .int .i64 0, .int .i64 0, .slice none 0 0] : Array Value) kA.z.C rfl
 have HV2 := Lib.hid hv2
 have HTp2 := Lib.hid ht2
 have SIZ2 : Hid ((Tryd.prog.info? 33).map (·.size) = some kA.z.C.size) := Lib.hid nb_info
 have SIL2 : Hid ((Tryd.prog.info? 33).map (·.size) = some kA.z.C.toList.length) := Lib.hid nb_info
 have HO2 := Lib.hid (NB.one kA.z)
 have hm2 := z2.cell
 clear hv2 ht2
 have G2 := grew_trans G1 (grew_trans g2 gs2)
 have T2 := T1.gr (grew_trans g2 gs2)
 have hs2 := g2.size
 clear T1 G1 g2 gs2
 go_wp2_with (first
  | (with_reducible refine wpList_store_mid rfl 33 (.tmp 2) (.tmp 17) rfl w2.heap.size 0 kA.z.C rfl rfl HTp2.out SIZ2.out HO2.out ?_; rw [HV2.out])
  | (with_reducible refine wpList_load_mid rfl 33 (.tmp 2) rfl w2.heap.size 0 rfl kA.z.C.toList _ hm2 hub rfl SIL2.out ?_; simp only [Array.toArray_toList]))
 refine (CDA.out v2 (HS.out.grew G2)).mono ?_
 rintro e w3 ⟨rfl, g3⟩
 go_wp2_with fail
 refine (lawB_ok 2 a 5 9 w3).mono ?_
 rintro e w4 ⟨rfl, g4⟩
 have zA4 := z2.grew (grew_trans g3 g4)
 obtain ⟨kb0, hkb0⟩ : ∃ n : NB, (bbB 2 a 5 9).z = n := ⟨_, rfl⟩
 rw [hkb0]
 obtain ⟨v4, hv4, ht4, gs4, z4⟩ := ltput_any w4 33 (#[.int .i64 0, .int .u64 0, .int .i64 0, .int .u64 0, .slice none 0 0, .int .i64 0, .int .i64 0, .slice none 0 0] : Array Value) kb0.C rfl
 have HV4 := Lib.hid hv4
 have HTp4 := Lib.hid ht4
 have SIZ4 : Hid ((Tryd.prog.info? 33).map (·.size) = some kb0.C.size) := Lib.hid nb_info
 have SIL4 : Hid ((Tryd.prog.info? 33).map (·.size) = some kb0.C.toList.length) := Lib.hid nb_info
 have HO4 := Lib.hid (NB.one kb0)
 have hm4 := z4.cell
 clear hv4 ht4
 have hsA := zA4.lt
 have zA5 := zA4.grew gs4
 have G4 := grew_trans G2 (grew_trans g3 (grew_trans g4 gs4))
 have T4 := T2.gr (grew_trans g3 (grew_trans g4 gs4))
 have hs4 := (grew_trans g3 g4).size
 have hsA2 := (zA4.lt)
 have yB := z4.putMid 2 [.int .i64 1] (by rw [← hkb0]; simp [NB.C])
 have eB : kb0.C.toList.take 2 ++ [Value.int .i64 1] ++ kb0.C.toList.drop (2 + [Value.int .i64 1].length) = (kB a).z.C.toList := by rw [← hkb0]; rfl
 rw [eB, show v4.setCells w4.heap.size 2 [.int .i64 1] = v4.setCell ⟨w4.heap.size, 2, none⟩ (.int .i64 1) from rfl] at yB
 have KB := kp_set (S := fun j => j = w4.heap.size) (kp_refl _ v4) (p := ⟨w4.heap.size, 2, none⟩) (.inl rfl) (.int .i64 1)
 have cB : v4.cell? ⟨w4.heap.size, 2, none⟩ = some (.int .i64 0) := by have := z4.cell 2 (.int .i64 0) (by rw [← hkb0]; rfl); simpa using this
 have fB : v4.frozen? ⟨w4.heap.size, 2, none⟩ = false := by have := (z4.there 2 (by rw [← hkb0]; simp [NB.C])).2; simpa using this
 have zA6 := zA5.kp KB (fun e => by omega)
 have tl4 := (T2.gr (grew_trans g3 g4)).lt
 have T5 := T4.kp KB (fun e => by omega) (fun e => by omega)
 have G5 : Grew w (v4.setCell ⟨w4.heap.size, 2, none⟩ (.int .i64 1)) := below_kp G4 KB G4.size (fun i e => by have e' : i = w4.heap.size := e; have := G2.size; have := (grew_trans g3 g4).size; omega)
 have hmB := yB.cell
 have HT5 := Lib.hid T5
 have HG5 := Lib.hid G5
 have HYB := Lib.hid yB
 have HZA6 := Lib.hid zA6
 clear hkb0 eB KB z4 z2 zA4 zA5 zA6 T2 T4 T5 G2 G4 G5 yB g3 g4 gs4 hm2
 go_wp2_with (first
  | (with_reducible refine wpList_store_mid rfl 33 (.tmp 3) (.tmp 20) rfl w4.heap.size 0 kb0.C rfl rfl HTp4.out SIZ4.out HO4.out ?_; rw [HV4.out])
  | (with_reducible refine wpList_load_mid rfl 33 (.tmp 3) rfl w4.heap.size 0 rfl (kB a).z.C.toList _ hmB hub rfl SIB.out ?_; simp only [Array.toArray_toList]))
 generalize hva : v4.setCell ⟨w4.heap.size, 2, none⟩ (.int .i64 1) = va at *
 refine (CDB.out va (HS.out.grew HG5.out)).mono ?_
 rintro e w5 ⟨rfl, g5⟩
 go_wp2_with fail
 refine (lawB_ok 3 b 9 12 w5).mono ?_
 rintro e w6 ⟨rfl, g6⟩
 have g56 := grew_trans g5 g6
 have zA7 := HZA6.out.grew g56
 have zB7 := HYB.out.grew g56
 obtain ⟨kc0, hkc0⟩ : ∃ n : NB, (bbB 3 b 9 12).z = n := ⟨_, rfl⟩
 rw [hkc0]
 obtain ⟨v6, hv6, ht6, gs6, z6⟩ := ltput_any w6 33 (#[.int .i64 0, .int .u64 0, .int .i64 0, .int .u64 0, .slice none 0 0, .int .i64 0, .int .i64 0, .slice none 0 0] : Array Value) kc0.C rfl
 have HV6 := Lib.hid hv6
 have HTp6 := Lib.hid ht6
 have SIZ6 : Hid ((Tryd.prog.info? 33).map (·.size) = some kc0.C.size) := Lib.hid nb_info
 have SIL6 : Hid ((Tryd.prog.info? 33).map (·.size) = some kc0.C.toList.length) := Lib.hid nb_info
 have HO6 := Lib.hid (NB.one kc0)
 have hm6 := z6.cell
 clear hv6 ht6
 have hsA := zA7.lt
 have hsB := zB7.lt
 have zA8 := zA7.grew gs6
 have zB8 := zB7.grew gs6
 have T7 := HT5.out.gr (grew_trans g56 gs6)
 have G7 := grew_trans HG5.out (grew_trans g56 gs6)
 have yC := z6.putMid 2 [.int .i64 2] (by rw [← hkc0]; simp [NB.C])
 have eC : kc0.C.toList.take 2 ++ [Value.int .i64 2] ++ kc0.C.toList.drop (2 + [Value.int .i64 2].length) = (kC b).z.C.toList := by rw [← hkc0]; rfl
 rw [eC, show v6.setCells w6.heap.size 2 [.int .i64 2] = v6.setCell ⟨w6.heap.size, 2, none⟩ (.int .i64 2) from rfl] at yC
 have KC := kp_set (S := fun j => j = w6.heap.size) (kp_refl _ v6) (p := ⟨w6.heap.size, 2, none⟩) (.inl rfl) (.int .i64 2)
 have cC : v6.cell? ⟨w6.heap.size, 2, none⟩ = some (.int .i64 0) := by have := z6.cell 2 (.int .i64 0) (by rw [← hkc0]; rfl); simpa using this
 have fC : v6.frozen? ⟨w6.heap.size, 2, none⟩ = false := by have := (z6.there 2 (by rw [← hkc0]; simp [NB.C])).2; simpa using this
 have zA9 := zA8.kp KC (fun e => by omega)
 have zB9 := zB8.kp KC (fun e => by omega)
 have tl6 := (HT5.out.gr g56).lt
 have T8 := T7.kp KC (fun e => by omega) (fun e => by omega)
 have G8 : Grew w (v6.setCell ⟨w6.heap.size, 2, none⟩ (.int .i64 2)) := below_kp G7 KC G7.size (fun i e => by have e' : i = w6.heap.size := e; have := HG5.out.size; have := g56.size; omega)
 have HT8 := Lib.hid T8
 have HG8 := Lib.hid G8
 have HYC := Lib.hid yC
 have HZA9 := Lib.hid zA9
 have HZB9 := Lib.hid zB9
 clear hkc0 eC KC z6 zA7 zA8 zA9 zB7 zB8 zB9 T7 T8 G7 G8 yC g5 g6 g56 gs6 hm4 hmB HT5 HG5 HYB HZA6 cB fB hva
 go_wp2_with (with_reducible refine wpList_store_mid rfl 33 (.tmp 4) (.tmp 25) rfl w6.heap.size 0 kc0.C rfl rfl HTp6.out SIZ6.out HO6.out ?_; rw [HV6.out])
 generalize hvc : v6.setCell ⟨w6.heap.size, 2, none⟩ (.int .i64 2) = vc at *
 refine (lawB_ok 4 0 0 7 vc).mono ?_
 rintro e w8 ⟨rfl, g8⟩
 rw [show bbB 4 0 0 7 = kD from rfl]
 obtain ⟨v8, hv8, ht8, gs8, z8⟩ := ltput_any w8 33 (#[.int .i64 0, .int .u64 0, .int .i64 0, .int .u64 0, .slice none 0 0, .int .i64 0, .int .i64 0, .slice none 0 0] : Array Value) kD.z.C rfl
 have HV8 := Lib.hid hv8
 have HTp8 := Lib.hid ht8
 have SIZ8 : Hid ((Tryd.prog.info? 33).map (·.size) = some kD.z.C.size) := Lib.hid nb_info
 have SIL8 : Hid ((Tryd.prog.info? 33).map (·.size) = some kD.z.C.toList.length) := Lib.hid nb_info
 have HO8 := Lib.hid (NB.one kD.z)
 have hm8 := z8.cell
 clear hv8 ht8
 have g9 := grew_trans g8 gs8
 have HSA := Lib.hid hsA
 have HSB := Lib.hid hsB
 have HZA := Lib.hid (HZA9.out.grew g9)
 have HZB := Lib.hid (HZB9.out.grew g9)
 have HZC := Lib.hid (HYC.out.grew g9)
 have HZD := Lib.hid z8
 have HQ8 := Lib.hid g8.size
 clear hsA hsB
 go_upto_region 10 with (with_reducible refine wpList_store_mid rfl 33 (.tmp 5) (.tmp 28) rfl w8.heap.size 0 kD.z.C rfl rfl HTp8.out SIZ8.out HO8.out ?_; rw [HV8.out])
 have hq8 := HQ8.out
 have hsA := HSA.out
 have hsB := HSB.out
 obtain ⟨qA, hqA⟩ : ∃ q, w2.heap.size = q := ⟨_, rfl⟩
 obtain ⟨qB, hqB⟩ : ∃ q, w4.heap.size = q := ⟨_, rfl⟩
 obtain ⟨qC, hqC⟩ : ∃ q, w6.heap.size = q := ⟨_, rfl⟩
 obtain ⟨qD, hqD⟩ : ∃ q, w8.heap.size = q := ⟨_, rfl⟩
 have hmbA : mb < qA := by omega
 have hmbB : mb < qB := by omega
 have hmbC : mb < qC := by omega
 have tl8 := HT8.out.lt
 have hmbD : mb < qD := by omega
 have HTv := Lib.hid (HT8.out.gr g9)
 have HGv := Lib.hid (grew_trans HG8.out g9)
 clear g8 gs8 g9 HZA9 HZB9 HYC HT8 HG8 z8 cC fC hm6 hm8 hvc
 rw [hqD]
 rw [hqD] at HZD
 rw [hqC] at HZC ⊢
 rw [hqB] at HZB ⊢
 rw [hqA] at HZA ⊢
 clear hqA hqB hqC hqD hq8 tl8 tl6 tl4 hs2 hs4 hsA hsA2 hsB HQ8 HSA HSB
 generalize v8 = w9 at *
 have HMW := Lib.hid hmw
 have hmA := Lib.hid (show ¬ (qA = mb) by omega)
 have hmB := Lib.hid (show ¬ (qB = mb) by omega)
 have hmC := Lib.hid (show ¬ (qC = mb) by omega)
 have hmD := Lib.hid (show ¬ (qD = mb) by omega)
 clear hmbA hmbB hmbC hmbD hmw htw hT1
 have HBA : Hid (∀ y, Kp (fun i => i = mb) w9 y → y.rangeAt qA 0 kA.z.C.toList) := Lib.hid (fun y k => (HZA.out.kp k hmA.out).cell)
 have HBB : Hid (∀ y, Kp (fun i => i = mb) w9 y → y.rangeAt qB 0 (kB a).z.C.toList) := Lib.hid (fun y k => (HZB.out.kp k hmB.out).cell)
 have HBC : Hid (∀ y, Kp (fun i => i = mb) w9 y → y.rangeAt qC 0 (kC b).z.C.toList) := Lib.hid (fun y k => (HZC.out.kp k hmC.out).cell)
 have HBD : Hid (∀ y, Kp (fun i => i = mb) w9 y → y.rangeAt qD 0 kD.z.C.toList) := Lib.hid (fun y k => (HZD.out.kp k hmD.out).cell)
 have HSK : Hid (∀ y, Kp (fun i => i = mb) w9 y → Std y) := Lib.hid (fun y k => HS.out.grew (below_kp HGv.out k HGv.out.size (fun i e => by have e' : i = mb := e; rw [e']; exact HMW.out)))
 have HT0 : Hid (TreeB w9.drew t mb ((K18 a b c d).take 1)) := Lib.hid (HTv.out.gr (grew_drewN (grew_refl w9) 1))
 refine wp_region_chainL 15 [2, 5, 9, 13] (fun i => i = mb) (fun j a9 => j ≤ 4 ∧ TreeB a9 t mb ((K18 a b c d).take (j + 1))) (fun ix9 => match ix9 with
  | 0 => fun v _ => v = .pointer (some ⟨t, 0, none⟩)
  | 1 => fun v _ => v = .agg kA.z.C
  | 2 => fun v _ => v = .int .i64 0
  | 3 => fun v _ => v = .pointer (some ⟨t, 0, none⟩)
  | 4 => fun v _ => v = .agg (kB a).z.C
  | 5 => fun v _ => v = .int .i64 0
  | 6 => fun v _ => v = .int .i64 0
  | 7 => fun v _ => v = .pointer (some ⟨t, 0, none⟩)
  | 8 => fun v _ => v = .agg (kC b).z.C
  | 9 => fun v _ => v = .int .i64 0
  | 10 => fun v _ => v = .int .i64 0
  | 11 => fun v _ => v = .pointer (some ⟨t, 0, none⟩)
  | 12 => fun v _ => v = .agg kD.z.C
  | 13 => fun v _ => v = .int .i64 0
  | 14 => fun v _ => v = .int .i64 0
  | _ => fun _ _ => True) (by kernel_rfl) (by kernel_rfl) (by kernel_rfl) ⟨13, by decide, by decide⟩ (⟨by decide, HT0.out⟩) (fun j a9 b9 h g => ⟨h.1, h.2.gr g⟩) (fun i j a9 h1 h2 => by have h3 := h1.2.size_eq h2.2; have h4 := h1.1; have h5 := h2.1; rw [List.length_take, List.length_take] at h3; simp only [K18, List.length_cons, List.length_nil] at h3; omega) ?_ ?_ ?_
 ·intro i v x y h hg
  match i, h with
  | 0, h | 1, h | 2, h | 3, h | 4, h | 5, h | 6, h | 7, h | 8, h | 9, h | 10, h | 11, h | 12, h | 13, h | 14, h => exact h
  | m + 15, _ => trivial
 ·refine ⟨?_, ?_, ?_, ?_, ?_, ?_, ?_, ?_, ?_, ?_, ?_, ?_, ?_, ?_, ?_, trivial⟩
  ·intro vs y hg hd
   refine chain0 rfl ?_
   replace hg : Kp (fun i => i = mb) w9 y := hg
   simp only [actOf, tk1, tk0, dr1, dr0, Act.put, si1, st1, st0, Nat.reduceAdd]
   go_wp2_with fail
   exact ⟨rfl, _, rfl, grew_refl _, rfl⟩
  ·intro vs y hg hd
   refine chain0 rfl ?_
   replace hg : Kp (fun i => i = mb) w9 y := hg
   simp only [actOf, tk1, tk0, dr1, dr0, Act.put, si1, st1, st0, Nat.reduceAdd]
   have hm := HBA.out y hg
   go_wp2_with (with_reducible refine wpList_load_mid rfl 33 (.tmp 2) rfl qA 0 rfl kA.z.C.toList _ hm hub rfl SIA.out ?_; simp only [Array.toArray_toList])
   exact ⟨rfl, _, rfl, grew_refl _, rfl⟩
  ·intro vs y hg hd
   refine chain1 (j := 0) rfl ?_
   intro hst
   replace hst : (fun j a9 => j ≤ 4 ∧ TreeB a9 t mb ((K18 a b c d).take (j + 1))) 0 y := hst
   replace hg : Kp (fun i => i = mb) w9 y := hg
   obtain ⟨h0, h1, _⟩ := hd
   replace h0 := h0 rfl
   replace h1 := h1 rfl
   simp only [actOf, tk1, tk0, dr1, dr0, Act.put, si1, st1, st0, Nat.reduceAdd]
   rw [show vs 0 = _ from h0, show vs 1 = _ from h1]
   go_wp2_with (go_at_call 9; refine (add18_1 H y (HSK.out y hg) hst.2).mono ?_; rintro e z ⟨rfl, ht9, hk9⟩)
   have hst9 : (fun j a9 => j ≤ 4 ∧ TreeB a9 t mb ((K18 a b c d).take (j + 1))) 1 z := ⟨by decide, ht9⟩
   exact ⟨rfl, _, rfl, ⟨hk9, hst9⟩, rfl⟩
  ·intro vs y hg hd
   refine chain0 rfl ?_
   replace hg : Kp (fun i => i = mb) w9 y := hg
   simp only [actOf, tk1, tk0, dr1, dr0, Act.put, si1, st1, st0, Nat.reduceAdd]
   go_wp2_with fail
   exact ⟨rfl, _, rfl, grew_refl _, rfl⟩
  ·intro vs y hg hd
   refine chain0 rfl ?_
   replace hg : Kp (fun i => i = mb) w9 y := hg
   simp only [actOf, tk1, tk0, dr1, dr0, Act.put, si1, st1, st0, Nat.reduceAdd]
   have hm := HBB.out y hg
   go_wp2_with (with_reducible refine wpList_load_mid rfl 33 (.tmp 3) rfl qB 0 rfl (kB a).z.C.toList _ hm hub rfl SIB.out ?_; simp only [Array.toArray_toList])
   exact ⟨rfl, _, rfl, grew_refl _, rfl⟩
  ·intro vs y hg hd
   refine chain1 (j := 1) rfl ?_
   intro hst
   replace hst : (fun j a9 => j ≤ 4 ∧ TreeB a9 t mb ((K18 a b c d).take (j + 1))) 1 y := hst
   replace hg : Kp (fun i => i = mb) w9 y := hg
   obtain ⟨h3, h4, _⟩ := hd
   replace h3 := h3 rfl
   replace h4 := h4 rfl
   simp only [actOf, tk1, tk0, dr1, dr0, Act.put, si1, st1, st0, Nat.reduceAdd]
   rw [show vs 3 = _ from h3, show vs 4 = _ from h4]
   go_wp2_with (go_at_call 9; refine (add18_2 H y (HSK.out y hg) hst.2).mono ?_; rintro e z ⟨rfl, ht9, hk9⟩)
   have hst9 : (fun j a9 => j ≤ 4 ∧ TreeB a9 t mb ((K18 a b c d).take (j + 1))) 2 z := ⟨by decide, ht9⟩
   exact ⟨rfl, _, rfl, ⟨hk9, hst9⟩, rfl⟩
  ·intro vs y hg hd
   refine chain0 rfl ?_
   replace hg : Kp (fun i => i = mb) w9 y := hg
   obtain ⟨h2, h5, _⟩ := hd
   replace h2 := h2 rfl
   replace h5 := h5 rfl
   simp only [actOf, tk1, tk0, dr1, dr0, Act.put, si1, st1, st0, Nat.reduceAdd]
   rw [show vs 2 = _ from h2, show vs 5 = _ from h5]
   go_wp2_with fail
   exact ⟨rfl, _, rfl, grew_refl _, rfl⟩
  ·intro vs y hg hd
   refine chain0 rfl ?_
   replace hg : Kp (fun i => i = mb) w9 y := hg
   simp only [actOf, tk1, tk0, dr1, dr0, Act.put, si1, st1, st0, Nat.reduceAdd]
   go_wp2_with fail
   exact ⟨rfl, _, rfl, grew_refl _, rfl⟩
  ·intro vs y hg hd
   refine chain0 rfl ?_
   replace hg : Kp (fun i => i = mb) w9 y := hg
   simp only [actOf, tk1, tk0, dr1, dr0, Act.put, si1, st1, st0, Nat.reduceAdd]
   have hm := HBC.out y hg
   go_wp2_with (with_reducible refine wpList_load_mid rfl 33 (.tmp 4) rfl qC 0 rfl (kC b).z.C.toList _ hm hub rfl SIC.out ?_; simp only [Array.toArray_toList])
   exact ⟨rfl, _, rfl, grew_refl _, rfl⟩
  ·intro vs y hg hd
   refine chain1 (j := 2) rfl ?_
   intro hst
   replace hst : (fun j a9 => j ≤ 4 ∧ TreeB a9 t mb ((K18 a b c d).take (j + 1))) 2 y := hst
   replace hg : Kp (fun i => i = mb) w9 y := hg
   obtain ⟨h7, h8, _⟩ := hd
   replace h7 := h7 rfl
   replace h8 := h8 rfl
   simp only [actOf, tk1, tk0, dr1, dr0, Act.put, si1, st1, st0, Nat.reduceAdd]
   rw [show vs 7 = _ from h7, show vs 8 = _ from h8]
   go_wp2_with (go_at_call 9; refine (add18_3 H y (HSK.out y hg) hst.2).mono ?_; rintro e z ⟨rfl, ht9, hk9⟩)
   have hst9 : (fun j a9 => j ≤ 4 ∧ TreeB a9 t mb ((K18 a b c d).take (j + 1))) 3 z := ⟨by decide, ht9⟩
   exact ⟨rfl, _, rfl, ⟨hk9, hst9⟩, rfl⟩
  ·intro vs y hg hd
   refine chain0 rfl ?_
   replace hg : Kp (fun i => i = mb) w9 y := hg
   obtain ⟨h6, h9, _⟩ := hd
   replace h6 := h6 rfl
   replace h9 := h9 rfl
   simp only [actOf, tk1, tk0, dr1, dr0, Act.put, si1, st1, st0, Nat.reduceAdd]
   rw [show vs 6 = _ from h6, show vs 9 = _ from h9]
   go_wp2_with fail
   exact ⟨rfl, _, rfl, grew_refl _, rfl⟩
  ·intro vs y hg hd
   refine chain0 rfl ?_
   replace hg : Kp (fun i => i = mb) w9 y := hg
   simp only [actOf, tk1, tk0, dr1, dr0, Act.put, si1, st1, st0, Nat.reduceAdd]
   go_wp2_with fail
   exact ⟨rfl, _, rfl, grew_refl _, rfl⟩
  ·intro vs y hg hd
   refine chain0 rfl ?_
   replace hg : Kp (fun i => i = mb) w9 y := hg
   simp only [actOf, tk1, tk0, dr1, dr0, Act.put, si1, st1, st0, Nat.reduceAdd]
   have hm := HBD.out y hg
   go_wp2_with (with_reducible refine wpList_load_mid rfl 33 (.tmp 5) rfl qD 0 rfl kD.z.C.toList _ hm hub rfl SID.out ?_; simp only [Array.toArray_toList])
   exact ⟨rfl, _, rfl, grew_refl _, rfl⟩
  ·intro vs y hg hd
   refine chain1 (j := 3) rfl ?_
   intro hst
   replace hst : (fun j a9 => j ≤ 4 ∧ TreeB a9 t mb ((K18 a b c d).take (j + 1))) 3 y := hst
   replace hg : Kp (fun i => i = mb) w9 y := hg
   obtain ⟨h11, h12, _⟩ := hd
   replace h11 := h11 rfl
   replace h12 := h12 rfl
   simp only [actOf, tk1, tk0, dr1, dr0, Act.put, si1, st1, st0, Nat.reduceAdd]
   rw [show vs 11 = _ from h11, show vs 12 = _ from h12]
   go_wp2_with (go_at_call 9; refine (add18_4 H y (HSK.out y hg) hst.2).mono ?_; rintro e z ⟨rfl, ht9, hk9⟩)
   have hst9 : (fun j a9 => j ≤ 4 ∧ TreeB a9 t mb ((K18 a b c d).take (j + 1))) 4 z := ⟨by decide, ht9⟩
   exact ⟨rfl, _, rfl, ⟨hk9, hst9⟩, rfl⟩
  ·intro vs y hg hd
   refine chain0 rfl ?_
   replace hg : Kp (fun i => i = mb) w9 y := hg
   obtain ⟨h10, h13, _⟩ := hd
   replace h10 := h10 rfl
   replace h13 := h13 rfl
   simp only [actOf, tk1, tk0, dr1, dr0, Act.put, si1, st1, st0, Nat.reduceAdd]
   rw [show vs 10 = _ from h10, show vs 13 = _ from h13]
   go_wp2_with fail
   exact ⟨rfl, _, rfl, grew_refl _, rfl⟩
 ·intro vs wT hg hst hJ
  replace hg : Kp (fun i => i = mb) w9 wT := hg
  replace hst : (fun j a9 => j ≤ 4 ∧ TreeB a9 t mb ((K18 a b c d).take (j + 1))) 4 wT := hst
  have j0 : vs 0 = .pointer (some ⟨t, 0, none⟩) := hJ 0 (by decide)
  have j1 : vs 1 = .agg kA.z.C := hJ 1 (by decide)
  have j2 : vs 2 = .int .i64 0 := hJ 2 (by decide)
  have j3 : vs 3 = .pointer (some ⟨t, 0, none⟩) := hJ 3 (by decide)
  have j4 : vs 4 = .agg (kB a).z.C := hJ 4 (by decide)
  have j5 : vs 5 = .int .i64 0 := hJ 5 (by decide)
  have j6 : vs 6 = .int .i64 0 := hJ 6 (by decide)
  have j7 : vs 7 = .pointer (some ⟨t, 0, none⟩) := hJ 7 (by decide)
  have j8 : vs 8 = .agg (kC b).z.C := hJ 8 (by decide)
  have j9 : vs 9 = .int .i64 0 := hJ 9 (by decide)
  have j10 : vs 10 = .int .i64 0 := hJ 10 (by decide)
  have j11 : vs 11 = .pointer (some ⟨t, 0, none⟩) := hJ 11 (by decide)
  have j12 : vs 12 = .agg kD.z.C := hJ 12 (by decide)
  have j13 : vs 13 = .int .i64 0 := hJ 13 (by decide)
  have j14 : vs 14 = .int .i64 0 := hJ 14 (by decide)
  clear hJ
  simp only [actOf, tk1, tk0, dr1, dr0, Act.put, si1, st1, st0, Nat.reduceAdd]
  rw [j14]
  have HZA2 := Lib.hid (HZA.out.kp hg hmA.out)
  have HZB2 := Lib.hid (HZB.out.kp hg hmB.out)
  have HZC2 := Lib.hid (HZC.out.kp hg hmC.out)
  have HZD2 := Lib.hid (HZD.out.kp hg hmD.out)
  have HTT : Hid (TreeB wT t mb (K18 a b c d)) := Lib.hid hst.2
  have HGT : Hid (Grew w wT) := Lib.hid (below_kp HGv.out hg HGv.out.size (fun i e => by have e' : i = mb := e; rw [e']; exact HMW.out))
  have HST := Lib.hid (HS.out.grew HGT.out)
  have HBA2 : Hid (∀ y, Grew wT y → y.rangeAt qA 0 kA.z.C.toList) := Lib.hid (fun y g => (HZA2.out.grew g).cell)
  clear j0 j1 j2 j3 j4 j5 j6 j7 j8 j9 j10 j11 j12 j13 j14 hg hst HBA HBB HBC HBD HSK HT0 HZA HZB HZC HZD HTv HGv HMW hmA hmB hmC hmD
  go_upto_region 12 with fail
  refine wp_region_latev 8 9 (fun ix9 => match ix9 with
   | 0 => fun v => v = .agg sv0.C
   | 1 => fun v => v = .pointer (some ⟨t, 0, none⟩)
   | 2 => fun v => v = .agg kA.z.C
   | 3 => fun v => VtS ⟨1, 0, 0, 0, 0⟩ 0 v
   | 4 => fun v => VtS ⟨1, 0, 0, 0, 0⟩ 0 v
   | 5 => fun v => SfS ⟨1, 0, 0, 0, 0⟩ v
   | 6 => fun v => v = .int .i64 0
   | 7 => fun _ => True
   | 8 => fun _ => True
   | _ => fun _ => True) (fun ix9 => match ix9 with
   | 5 => fun lo hi v w => SfS ⟨1, 0, 0, 0, 0⟩ v
   | 7 => fun lo hi v w => AgY w wT.heap.size lo hi (#[.int .i64 0, .int .i64 0, .int .u64 0, .slice none 0 0, .int .i64 0, .int .u64 0, .slice none 0 0] : Array Value).toList v
   | _ => fun _ _ _ _ => True) (fun ix9 => match ix9 with
   | ix8 => ix8) (fun ix9 => match ix9 with
   | ix8 => ix8) (fun ix9 => match ix9 with
   | 6 => true
   | _ => false) 7 (fun v W => SfF wT ⟨1, 0, 0, 0, 0⟩ v W) rfl (by kernel_rfl) (by kernel_rfl) (by kernel_rfl) (by kernel_rfl) rfl rfl (by decide) (fun _ => trivial) ?_ ?_ ?_ ?_ (fun o ho => by cases ho; rfl) (fun v x y h hg => SfF.gr h hg) ?_
  ·refine ⟨?_, ?_, ?_, ?_, ?_, ?_, ?_, ?_, trivial⟩
   ·intro vs lo hi y hg hd hvia
    replace hg : Grew wT y := hg
    clear hvia
    simp only [actOf, tk1, tk0, dr1, dr0, Act.put, si1, st1, st0, Nat.reduceAdd]
    go_wp2_with (go_at_call 17; refine (snew_ok y).mono ?_; rintro e z ⟨rfl, gz⟩)
    first | exact ⟨rfl, _, rfl, gz, rfl⟩ | exact ⟨rfl, _, rfl, gz, rfl, trivial⟩
   ·intro vs lo hi y hg hd hvia
    replace hg : Grew wT y := hg
    clear hvia
    simp only [actOf, tk1, tk0, dr1, dr0, Act.put, si1, st1, st0, Nat.reduceAdd]
    go_wp2_with fail
    first | exact ⟨rfl, _, rfl, grew_refl _, rfl⟩ | exact ⟨rfl, _, rfl, grew_refl _, rfl, trivial⟩
   ·intro vs lo hi y hg hd hvia
    replace hg : Grew wT y := hg
    clear hvia
    simp only [actOf, tk1, tk0, dr1, dr0, Act.put, si1, st1, st0, Nat.reduceAdd]
    have hm := HBA2.out y hg
    go_wp2_with (with_reducible refine wpList_load_mid rfl 33 (.tmp 2) rfl qA 0 rfl kA.z.C.toList _ hm hub rfl SIA.out ?_; simp only [Array.toArray_toList])
    first | exact ⟨rfl, _, rfl, grew_refl _, rfl⟩ | exact ⟨rfl, _, rfl, grew_refl _, rfl, trivial⟩
   ·intro vs lo hi y hg hd hvia
    replace hg : Grew wT y := hg
    obtain ⟨h0, h1, h2, _⟩ := hd
    replace h0 := h0 rfl
    replace h1 := h1 rfl
    replace h2 := h2 rfl
    clear hvia
    simp only [actOf, tk1, tk0, dr1, dr0, Act.put, si1, st1, st0, Nat.reduceAdd]
    rw [show vs 0 = _ from h0, show vs 1 = _ from h1, show vs 2 = _ from h2]
    go_wp2_with (go_at_call 18; refine (vote18_1 H y (HST.out.grew hg) (HTT.out.gr hg)).mono ?_; rintro e z ⟨m9, hm9, rfl, gz⟩)
    first | exact ⟨rfl, _, rfl, gz, ⟨m9, hm9, rfl⟩⟩ | exact ⟨rfl, _, rfl, gz, ⟨m9, hm9, rfl⟩, trivial⟩
   ·intro vs lo hi y hg hd hvia
    replace hg : Grew wT y := hg
    obtain ⟨h3, _⟩ := hd
    replace h3 := h3 rfl
    clear hvia
    simp only [actOf, tk1, tk0, dr1, dr0, Act.put, si1, st1, st0, Nat.reduceAdd]
    go_wp2_with fail
    first | exact ⟨rfl, _, rfl, grew_refl _, h3⟩ | exact ⟨rfl, _, rfl, grew_refl _, h3, trivial⟩
   ·intro vs lo hi y hg hd hvia
    replace hg : Grew wT y := hg
    obtain ⟨h4, _⟩ := hd
    replace h4 := h4 rfl
    clear hvia
    simp only [actOf, tk1, tk0, dr1, dr0, Act.put, si1, st1, st0, Nat.reduceAdd]
    obtain ⟨m9, hm9, e9⟩ := h4.out
    rw [e9]
    go_wp2_with fail
    first | exact ⟨rfl, _, rfl, grew_refl _, ⟨m9, hm9, rfl⟩⟩ | exact ⟨rfl, _, rfl, grew_refl _, ⟨m9, hm9, rfl⟩, ⟨m9, hm9, rfl⟩⟩ | exact ⟨rfl, _, rfl, grew_refl _, ⟨m9, hm9, rfl⟩, trivial⟩
   ·intro vs lo hi y hg hd hvia
    replace hg : Grew wT y := hg
    obtain ⟨h4, _⟩ := hd
    replace h4 := h4 rfl
    clear hvia
    simp only [actOf, tk1, tk0, dr1, dr0, Act.put, si1, st1, st0, Nat.reduceAdd]
    obtain ⟨m9, hm9, e9⟩ := h4.out
    rw [e9]
    go_wp2_with fail
    first | exact ⟨rfl, _, rfl, grew_refl _, rfl⟩ | exact ⟨rfl, _, rfl, grew_refl _, rfl, trivial⟩
   ·intro vs lo hi y hg hd hvia
    replace hg : Grew wT y := hg
    clear hvia
    simp only [actOf, tk1, tk0, dr1, dr0, Act.put, si1, st1, st0, Nat.reduceAdd]
    go_wp2_with fail
    first | exact ⟨rfl, _, rfl, grew_alloc (grew_refl _) _, ⟨y.heap.size, rfl, Ag.new y 50 (#[.int .i64 0, .int .i64 0, .int .u64 0, .slice none 0 0, .int .i64 0, .int .u64 0, .slice none 0 0] : Array Value), hg.size, Nat.le_refl _, by show y.heap.size < (y.alloc _).heap.size; simp⟩⟩ | exact ⟨rfl, _, rfl, grew_alloc (grew_refl _) _, trivial, ⟨y.heap.size, rfl, Ag.new y 50 (#[.int .i64 0, .int .i64 0, .int .u64 0, .slice none 0 0, .int .i64 0, .int .u64 0, .slice none 0 0] : Array Value), hg.size, Nat.le_refl _, by show y.heap.size < (y.alloc _).heap.size; simp⟩⟩
  ·refine ⟨(fun h => absurd h (by decide)), (fun h => absurd h (by decide)), (fun h => absurd h (by decide)), (fun h => absurd h (by decide)), (fun h => absurd h (by decide)), (fun h => absurd h (by decide)), ?_, (fun h => absurd h (by decide)), (fun h => absurd h (by decide)), trivial⟩
   ·intro _ vs y hd
    obtain ⟨h4, _⟩ := hd
    replace h4 := h4 rfl
    simp only [actOf, tk1, tk0, dr1, dr0, Act.put, si1, st1, st0, Nat.reduceAdd]
    obtain ⟨m9, hm9, e9⟩ := h4.out
    rw [e9]
    go_wp2_with fail
    first | exact ⟨rfl, _, rfl, grew_refl _, rfl⟩ | exact ⟨rfl, _, rfl, grew_refl _, rfl, trivial⟩
  ·intro i lo hi v x y h hg
   match i, h with
   | 5, h => exact h
   | 7, h => exact AgY.gr h hg
   | 0, _ => trivial
   | 1, _ => trivial
   | 2, _ => trivial
   | 3, _ => trivial
   | 4, _ => trivial
   | 6, _ => trivial
   | m + 8, _ => trivial
  ·intro vs lo hi y hg hJ hK hB hD
   replace hg : Grew wT y := hg
   have k50 := hK 5 (by decide) rfl
   have b50 := hB 5 (by decide) rfl
   have k6 := hK 7 (by decide) rfl
   have b6 := hB 7 (by decide) rfl
   have d50_6 := hD 5 (by decide) rfl 7 (by decide) rfl (by decide)
   clear hK hB hD
   have j0 : vs 0 = .agg sv0.C := hJ 0 (by decide) rfl
   have j1 : vs 1 = .pointer (some ⟨t, 0, none⟩) := hJ 1 (by decide) rfl
   have j2 : vs 2 = .agg kA.z.C := hJ 2 (by decide) rfl
   clear hJ
   simp only [actOf, tk1, tk0, dr1, dr0, Act.put, si1, st1, st0, Nat.reduceAdd]
   obtain ⟨m9, hm9, e50⟩ := SfS.out k50
   obtain ⟨q, e6, zq, hBq, hql, hqh⟩ := AgY.out k6
   rw [e6, e50]
   have HTH : Hid (y.there q 0 m9.C.size) := Lib.hid (zq.thereN 7 rfl)
   have SI9 : Hid ((Tryd.prog.info? 50).map (·.size) = some m9.C.size) := Lib.hid sf_info
   have HON := Lib.hid m9.one
   have z4 := Ag.set (vs := m9.C.toList) zq rfl
   have HF : Hid (SfF wT ⟨1, 0, 0, 0, 0⟩ (.pointer (some ⟨q, 0, none⟩)) (y.setCells q 0 m9.C.toList)) := Lib.hid ⟨q, m9, rfl, z4, hm9, by omega, setCells_grew (o := 0) (b := q) _ hg (by omega)⟩
   clear hg z4 zq
   go_wp2_with (with_reducible refine wpList_store_mid rfl 50 (.tmp 6) (.tmp 50) rfl q 0 m9.C rfl rfl HTH.out SI9.out HON.out ?_)
   exact HF.out
  ·intro vs wU hF hJ
   have j0 : vs 0 = .agg sv0.C := hJ 0 (by decide)
   have j1 : vs 1 = .pointer (some ⟨t, 0, none⟩) := hJ 1 (by decide)
   have j2 : vs 2 = .agg kA.z.C := hJ 2 (by decide)
   have j6 : vs 6 = .int .i64 0 := hJ 6 (by decide)
   clear hJ
   simp only [actOf, tk1, tk0, dr1, dr0, Act.put, si1, st1, st0, Nat.reduceAdd]
   obtain ⟨qS, s1, e6, zs1, hf1, hqS, gU⟩ := hF.out
   rw [e6, j6]
   have GU := grew_trans HGT.out gU
   have STU := HS.out.grew GU
   have TU := HTT.out.gr gU
   have hmB3 := (HZB2.out.grew gU).cell
   have hmS1 := zs1.cell
   have SIs1 : Hid ((Tryd.prog.info? 50).map (·.size) = some s1.C.toList.length) := Lib.hid sf_info
   have C2 := Lib.hid (vote18_2 H s1 hf1 wU STU TU)
   have HZS1 := Lib.hid zs1
   have HGU := Lib.hid GU
   have HgU := Lib.hid gU
   have HqS : Hid (w.heap.size ≤ qS) := Lib.hid (Nat.le_trans HGT.out.size hqS)
   have HqT := Lib.hid hqS
   clear j0 j1 j2 j6 hF e6 zs1 hf1 hqS gU GU STU TU HBA2
   go_wp2_with (first
    | (with_reducible refine wpList_load_mid rfl 50 (.tmp 6) rfl qS 0 rfl s1.C.toList _ hmS1 hus rfl SIs1.out ?_; simp only [Array.toArray_toList])
    | (with_reducible refine wpList_load_mid rfl 33 (.tmp 3) rfl qB 0 rfl (kB a).z.C.toList _ hmB3 hub rfl SIB.out ?_; simp only [Array.toArray_toList]))
   refine (C2.out).mono ?_
   rintro e w3a ⟨s2, hf2, rfl, g3⟩
   have z1 := HZS1.out.grew g3
   have z2 := Ag.set (vs := s2.C.toList) z1 rfl
   have k2 := setCells_kp s2.C.toList qS 0 w3a
   have HTS2 : Hid (w3a.there qS 0 s2.C.size) := Lib.hid (z1.thereN 7 rfl)
   have SZ2 : Hid ((Tryd.prog.info? 50).map (·.size) = some s2.C.size) := Lib.hid sf_info
   have SIs2 : Hid ((Tryd.prog.info? 50).map (·.size) = some s2.C.toList.length) := Lib.hid sf_info
   have HO2 := Lib.hid s2.one
   have tlT := HTT.out.lt
   have hqT := HqT.out
   have ltA := HZA2.out.lt
   have ltC := HZC2.out.lt
   have ltD := HZD2.out.lt
   have gUa := grew_trans HgU.out g3
   have HNA : Hid (qA ≠ qS) := Lib.hid (by omega)
   have HNC : Hid (qC ≠ qS) := Lib.hid (by omega)
   have HND : Hid (qD ≠ qS) := Lib.hid (by omega)
   have HNT : Hid (t ≠ qS) := Lib.hid (by omega)
   have HNM : Hid (mb ≠ qS) := Lib.hid (by omega)
   have zA3 := (HZA2.out.grew gUa).kp k2 (fun e => by omega)
   have zC3 := (HZC2.out.grew gUa).kp k2 (fun e => by omega)
   have zD3 := (HZD2.out.grew gUa).kp k2 (fun e => by omega)
   have T3 := (HTT.out.gr gUa).kp k2 (fun e => by omega) (fun e => by omega)
   have G3 : Grew w (w3a.setCells qS 0 s2.C.toList) := setCells_grew (o := 0) (b := qS) _ (grew_trans HGU.out g3) HqS.out
   have C3 := Lib.hid (vote18_3 H s2 hf2 _ (HS.out.grew G3) T3)
   have hmC3 := zC3.cell
   have hmS2 := z2.cell
   have HA3 := Lib.hid zA3
   have HC3 := Lib.hid zC3
   have HD3 := Lib.hid zD3
   have HT3 := Lib.hid T3
   have HG3 := Lib.hid G3
   have HZS2 := Lib.hid z2
   clear z1 z2 k2 g3 gUa zA3 zC3 zD3 T3 G3 hf2 C2 hmB3 hmS1 HZS1 SIs1 HZA2 HZB2 HZC2 HZD2 HTT HgU HGU HqT hqT ltA ltC ltD tlT HGT HST
   generalize hw3 : w3a.setCells qS 0 s2.C.toList = w3b at *
   have HW3 := Lib.hid hw3
   clear hw3
   go_wp2_with (first
    | (with_reducible refine wpList_store_mid rfl 50 (.tmp 6) (.tmp 57) rfl qS 0 s2.C rfl rfl HTS2.out SZ2.out HO2.out ?_; rw [HW3.out])
    | (with_reducible refine wpList_load_mid rfl 50 (.tmp 6) rfl qS 0 rfl s2.C.toList _ hmS2 hus rfl SIs2.out ?_; simp only [Array.toArray_toList])
    | (with_reducible refine wpList_load_mid rfl 33 (.tmp 4) rfl qC 0 rfl (kC b).z.C.toList _ hmC3 hub rfl SIC.out ?_; simp only [Array.toArray_toList]))
   refine (C3.out).mono ?_
   rintro e w5a ⟨s3, hf3, rfl, g3⟩
   have z1 := HZS2.out.grew g3
   have z2 := Ag.set (vs := s3.C.toList) z1 rfl
   have k2 := setCells_kp s3.C.toList qS 0 w5a
   have HTS3 : Hid (w5a.there qS 0 s3.C.size) := Lib.hid (z1.thereN 7 rfl)
   have SZ3 : Hid ((Tryd.prog.info? 50).map (·.size) = some s3.C.size) := Lib.hid sf_info
   have SIs3 : Hid ((Tryd.prog.info? 50).map (·.size) = some s3.C.toList.length) := Lib.hid sf_info
   have HO3 := Lib.hid s3.one
   have neA : qA ≠ qS := HNA.out
   have neC : qC ≠ qS := HNC.out
   have neD : qD ≠ qS := HND.out
   have neT : t ≠ qS := HNT.out
   have neM : mb ≠ qS := HNM.out
   have zA3 := (HA3.out.grew g3).kp k2 neA
   have zC3 := (HC3.out.grew g3).kp k2 neC
   have zD3 := (HD3.out.grew g3).kp k2 neD
   have T3 := (HT3.out.gr g3).kp k2 neT neM
   have G3 : Grew w (w5a.setCells qS 0 s3.C.toList) := setCells_grew (o := 0) (b := qS) _ (grew_trans HG3.out g3) HqS.out
   have C4 := Lib.hid (vote18_4 H s3 hf3 _ (HS.out.grew G3) T3)
   have hmC4 := zC3.cell
   have hmS3 := z2.cell
   have HA4 := Lib.hid zA3
   have HD4 := Lib.hid zD3
   have HT4 := Lib.hid T3
   have HG4 := Lib.hid G3
   have HZS3 := Lib.hid z2
   have HF3 := Lib.hid hf3
   clear z1 z2 k2 g3 zA3 zC3 zD3 T3 G3 hf3 C3 hmC3 hmS2 HZS2 SIs2 HA3 HC3 HD3 HT3 HG3 HTS2 SZ2 HO2 HW3 neA neC neD neT neM HNA HNC HND HNT HNM
   generalize hw3 : w5a.setCells qS 0 s3.C.toList = w6a at *
   have HW6 := Lib.hid hw3
   clear hw3
   go_wp2_with (first
    | (with_reducible refine wpList_store_mid rfl 50 (.tmp 6) (.tmp 64) rfl qS 0 s3.C rfl rfl HTS3.out SZ3.out HO3.out ?_; rw [HW6.out])
    | (with_reducible refine wpList_load_mid rfl 50 (.tmp 6) rfl qS 0 rfl s3.C.toList _ hmS3 hus rfl SIs3.out ?_; simp only [Array.toArray_toList])
    | (with_reducible refine wpList_load_mid rfl 33 (.tmp 4) rfl qC 0 rfl (kC b).z.C.toList _ hmC4 hub rfl SIC.out ?_; simp only [Array.toArray_toList]))
   refine (C4.out).mono ?_
   rintro e w6b ⟨s4, hf4, rfl, g3⟩
   obtain ⟨w7, hw7, ht7, gs7, z7⟩ := ltput_any w6b 50 (#[.int .i64 0, .int .i64 0, .int .u64 0, .slice none 0 0, .int .i64 0, .int .u64 0, .slice none 0 0] : Array Value) s4.C rfl
   have HW7 := Lib.hid hw7
   have HT7 := Lib.hid ht7
   have SZ4 : Hid ((Tryd.prog.info? 50).map (·.size) = some s4.C.size) := Lib.hid sf_info
   have HO4 := Lib.hid s4.one
   have g67 := grew_trans g3 gs7
   have HTT7 := Lib.hid (HT4.out.gr g67)
   have HG7 := Lib.hid (grew_trans HG4.out g67)
   have HST7 := Lib.hid (HS.out.grew HG7.out)
   have zD7 := HD4.out.grew g67
   have hmD7 := zD7.cell
   have zS7 := HZS3.out.grew g67
   have hmS7 := zS7.cell
   have HZS7 := Lib.hid zS7
   have HA7 := Lib.hid (HA4.out.grew g67)
   have C5 := Lib.hid (may18_1 H s3 HF3.out w7 HST7.out HTT7.out)
   clear hw7 ht7 gs7 z7 g3 g67 zD7 zS7 C4 hmC4 hmS3 HT4 HG4 HD4 HA4 HZS3 hf4 HTS3 SZ3 HO3 HW6
   go_wp2_with (first
    | (with_reducible refine wpList_store_mid rfl 50 (.tmp 10) (.tmp 71) rfl w6b.heap.size 0 s4.C rfl rfl HT7.out SZ4.out HO4.out ?_; rw [HW7.out])
    | (with_reducible refine wpList_load_mid rfl 50 (.tmp 6) rfl qS 0 rfl s3.C.toList _ hmS7 hus rfl SIs3.out ?_; simp only [Array.toArray_toList])
    | (with_reducible refine wpList_load_mid rfl 33 (.tmp 5) rfl qD 0 rfl kD.z.C.toList _ hmD7 hub rfl SID.out ?_; simp only [Array.toArray_toList]))
   refine (C5.out).mono ?_
   rintro e w7b ⟨rfl, g7⟩
   have HTT8 := Lib.hid (HTT7.out.gr g7)
   have HG8 := Lib.hid (grew_trans HG7.out g7)
   have HST8' := Lib.hid (HS.out.grew HG8.out)
   have HZS8 := Lib.hid (HZS7.out.grew g7)
   have HA8 := Lib.hid (HA7.out.grew g7)
   clear C5 hmD7 hmS7 HTT7 HG7 HST7 HZS7 HA7 g7 HW7 HT7 SZ4 HO4
   have HTT7 := HTT8
   have HST7 := HST8'
   generalize w7b = w7 at *
   go_upto_region 17 with fail
   have HS3 : Hid (∀ y, Grew w7 y → y.rangeAt qS 0 s3.C.toList) := Lib.hid (fun y g => (HZS8.out.grew g).cell)
   refine wp_region_rel 4 (fun ix9 => match ix9 with
    | 0 => fun v _ => v = .agg s3.C
    | 1 => fun v _ => v = .pointer (some ⟨t, 0, none⟩)
    | 2 => fun v _ => v = .agg kX.z.C
    | 3 => fun v _ => v = .int .i64 11
    | _ => fun _ _ => True) (by kernel_rfl) (by kernel_rfl) ?_ ?_ ?_
   ·intro i v x y h hg
    match i, h with
    | 0, h | 1, h | 2, h | 3, h => exact h
    | m + 4, _ => trivial
   ·refine ⟨?_, ?_, ?_, ?_, trivial⟩
    ·intro vs y hg hd
     simp only [actOf, tk1, tk0, dr1, dr0, Act.put, si1, st1, st0, Nat.reduceAdd]
     have hm := HS3.out y hg
     go_wp2_with (with_reducible refine wpList_load_mid rfl 50 (.tmp 6) rfl qS 0 rfl s3.C.toList _ hm hus rfl SIs3.out ?_; simp only [Array.toArray_toList])
     exact ⟨rfl, _, rfl, grew_refl _, rfl⟩
    ·intro vs y hg hd
     simp only [actOf, tk1, tk0, dr1, dr0, Act.put, si1, st1, st0, Nat.reduceAdd]
     go_wp2_with fail
     exact ⟨rfl, _, rfl, grew_refl _, rfl⟩
    ·intro vs y hg hd
     simp only [actOf, tk1, tk0, dr1, dr0, Act.put, si1, st1, st0, Nat.reduceAdd]
     go_wp2_with (go_at_call 8; refine (lawB_ok 9 0 0 99 y).mono ?_; rintro e z ⟨rfl, gz⟩)
     exact ⟨rfl, _, rfl, gz, rfl⟩
    ·intro vs y hg hd
     obtain ⟨h0, h1, h2, _⟩ := hd
     replace h0 := h0 rfl
     replace h1 := h1 rfl
     replace h2 := h2 rfl
     simp only [actOf, tk1, tk0, dr1, dr0, Act.put, si1, st1, st0, Nat.reduceAdd]
     rw [show vs 0 = _ from h0, show vs 1 = _ from h1, show vs 2 = _ from h2]
     go_wp2_with (go_at_call 20; refine (may18_2 H s3 y (HST7.out.grew hg) (HTT7.out.gr hg)).mono ?_; rintro e z ⟨rfl, gz⟩)
     exact ⟨rfl, _, rfl, gz, rfl⟩
   ·intro vs y hg hJ
    have j0 : vs 0 = .agg s3.C := hJ 0 (by decide)
    have j1 : vs 1 = .pointer (some ⟨t, 0, none⟩) := hJ 1 (by decide)
    have j2 : vs 2 = .agg kX.z.C := hJ 2 (by decide)
    have j3 : vs 3 = .int .i64 11 := hJ 3 (by decide)
    clear hJ
    simp only [actOf, tk1, tk0, dr1, dr0, Act.put, si1, st1, st0, Nat.reduceAdd]
    rw [j3]
    have HG9 := Lib.hid (grew_trans HG8.out hg)
    have HST8 := Lib.hid (HS.out.grew HG9.out)
    have HZS9 := Lib.hid (HZS8.out.grew hg)
    have HA9 := Lib.hid (HA8.out.grew hg)
    clear j0 j1 j2 j3 hg HS3 HG8 HZS8 HA8 HTT7 HST7 HTT8 HST8'
    generalize y = w8 at *
    have hf : s3.vt = 3 ∧ s3.l.v = 1 ∧ s3.l.b = a ∧ s3.h.v = 2 := by
     have := HF3.out
     unfold SV.f at this
     injection this with h1 h2 h3 h4 h5
     exact ⟨h1, h2, h3, h4⟩
    obtain ⟨f0, f1, f2, f4⟩ := hf
    have HV0 : Hid (∀ y, Grew w8 y → y.cell? ⟨qS, 0, none⟩ = some (.int .i64 3)) := Lib.hid (fun y g => by have := (HZS9.out.grew g).cell 0 _ rfl; rw [f0] at this; simpa using this)
    have HV1 : Hid (∀ y, Grew w8 y → y.cell? ⟨qS, 1, none⟩ = some (.int .i64 1)) := Lib.hid (fun y g => by have := (HZS9.out.grew g).cell 1 _ rfl; rw [f1] at this; simpa using this)
    have HV2 : Hid (∀ y, Grew w8 y → y.cell? ⟨qS, 2, none⟩ = some (.int .u64 (a : Nat))) := Lib.hid (fun y g => by have := (HZS9.out.grew g).cell 2 _ rfl; rw [f2] at this; simpa using this)
    have HV4 : Hid (∀ y, Grew w8 y → y.cell? ⟨qS, 4, none⟩ = some (.int .i64 2)) := Lib.hid (fun y g => by have := (HZS9.out.grew g).cell 4 _ rfl; rw [f4] at this; simpa using this)
    have HBA8 : Hid (∀ y, Grew w8 y → y.rangeAt qA 0 kA.z.C.toList) := Lib.hid (fun y g => (HA9.out.grew g).cell)
    clear f0 f1 f2 f4 HF3
    go_upto_region 18 with fail
    refine wp_region_rel 43 (fun ix9 => match ix9 with
     | 0 => fun v _ => v = .int .i64 0
     | 1 => fun v _ => v = .int .i64 0
     | 2 => fun v _ => v = .int .i64 0
     | 3 => fun v _ => v = .int .i64 0
     | 4 => fun v _ => v = .int .i64 0
     | 5 => fun v _ => v = .bool true
     | 6 => fun v _ => v = .bool true
     | 7 => fun v _ => v = .int .i64 12
     | 8 => fun v _ => v = .bool true
     | 9 => fun v _ => v = .bool true
     | 10 => fun v _ => v = .bool true
     | 11 => fun v _ => v = .int .i64 13
     | 12 => fun v _ => v = .bool true
     | 13 => fun v _ => v = .bool true
     | 14 => fun v _ => v = .bool true
     | 15 => fun v _ => v = .int .i64 11
     | 16 => fun v _ => v = .bool true
     | 17 => fun v _ => v = .bool true
     | 18 => fun v _ => v = .bool true
     | 19 => fun v _ => v = .pointer (some ⟨qS, 0, none⟩)
     | 20 => fun v _ => v = .int .i64 3
     | 21 => fun v _ => v = .bool true
     | 22 => fun v _ => v = .bool true
     | 23 => fun v _ => v = .bool true
     | 24 => fun v _ => v = .pointer (some ⟨qS, 4, none⟩)
     | 25 => fun v _ => v = .pointer (some ⟨qS, 4, none⟩)
     | 26 => fun v _ => v = .int .i64 2
     | 27 => fun v _ => v = .bool true
     | 28 => fun v _ => v = .bool true
     | 29 => fun v _ => v = .bool true
     | 30 => fun v _ => v = .pointer (some ⟨qS, 1, none⟩)
     | 31 => fun v _ => v = .pointer (some ⟨qS, 1, none⟩)
     | 32 => fun v _ => v = .int .i64 1
     | 33 => fun v _ => v = .bool true
     | 34 => fun v _ => v = .bool true
     | 35 => fun v _ => v = .bool true
     | 36 => fun v _ => v = .pointer (some ⟨qS, 1, none⟩)
     | 37 => fun v _ => v = .pointer (some ⟨qS, 2, none⟩)
     | 38 => fun v _ => v = .int .u64 (a : Nat)
     | 39 => fun v _ => v = .agg kA.z.C
     | 40 => fun v _ => v = .int .u64 (a : Nat)
     | 41 => fun v _ => v = .bool true
     | 42 => fun v _ => v = .bool true
     | _ => fun _ _ => True) (by kernel_rfl) (by kernel_rfl) ?_ ?_ ?_
    ·intro i v x y h hg
     match i, h with
     | 0, h | 1, h | 2, h | 3, h | 4, h | 5, h | 6, h | 7, h | 8, h | 9, h | 10, h | 11, h | 12, h | 13, h | 14, h | 15, h | 16, h | 17, h | 18, h | 19, h | 20, h | 21, h | 22, h | 23, h | 24, h | 25, h | 26, h | 27, h | 28, h | 29, h | 30, h | 31, h | 32, h | 33, h | 34, h | 35, h | 36, h | 37, h | 38, h | 39, h | 40, h | 41, h | 42, h => exact h
     | m + 43, _ => trivial
    ·refine ⟨?_, ?_, ?_, ?_, ?_, ?_, ?_, ?_, ?_, ?_, ?_, ?_, ?_, ?_, ?_, ?_, ?_, ?_, ?_, ?_, ?_, ?_, ?_, ?_, ?_, ?_, ?_, ?_, ?_, ?_, ?_, ?_, ?_, ?_, ?_, ?_, ?_, ?_, ?_, ?_, ?_, ?_, ?_, trivial⟩
     ·intro vs y hg hd
      simp only [actOf, tk1, tk0, dr1, dr0, Act.put, si1, st1, st0, Nat.reduceAdd]
      go_wp2_with fail
      exact ⟨rfl, _, rfl, grew_refl _, rfl⟩
     ·intro vs y hg hd
      simp only [actOf, tk1, tk0, dr1, dr0, Act.put, si1, st1, st0, Nat.reduceAdd]
      go_wp2_with fail
      exact ⟨rfl, _, rfl, grew_refl _, rfl⟩
     ·intro vs y hg hd
      obtain ⟨h0, h1, _⟩ := hd
      replace h0 := h0 rfl
      replace h1 := h1 rfl
      simp only [actOf, tk1, tk0, dr1, dr0, Act.put, si1, st1, st0, Nat.reduceAdd]
      rw [show vs 0 = _ from h0, show vs 1 = _ from h1]
      go_wp2_with fail
      exact ⟨rfl, _, rfl, grew_refl _, rfl⟩
     ·intro vs y hg hd
      simp only [actOf, tk1, tk0, dr1, dr0, Act.put, si1, st1, st0, Nat.reduceAdd]
      go_wp2_with fail
      exact ⟨rfl, _, rfl, grew_refl _, rfl⟩
     ·intro vs y hg hd
      obtain ⟨h2, h3, _⟩ := hd
      replace h2 := h2 rfl
      replace h3 := h3 rfl
      simp only [actOf, tk1, tk0, dr1, dr0, Act.put, si1, st1, st0, Nat.reduceAdd]
      rw [show vs 2 = _ from h2, show vs 3 = _ from h3]
      go_wp2_with fail
      exact ⟨rfl, _, rfl, grew_refl _, rfl⟩
     ·intro vs y hg hd
      obtain ⟨h4, _⟩ := hd
      replace h4 := h4 rfl
      simp only [actOf, tk1, tk0, dr1, dr0, Act.put, si1, st1, st0, Nat.reduceAdd]
      rw [show vs 4 = _ from h4]
      go_wp2_with fail
      exact ⟨rfl, _, rfl, grew_refl _, rfl⟩
     ·intro vs y hg hd
      obtain ⟨h5, _⟩ := hd
      replace h5 := h5 rfl
      simp only [actOf, tk1, tk0, dr1, dr0, Act.put, si1, st1, st0, Nat.reduceAdd]
      rw [show vs 5 = _ from h5]
      go_wp2_with fail
      exact ⟨rfl, _, rfl, grew_refl _, rfl⟩
     ·intro vs y hg hd
      have hx : (Region.binds .any { on := 6, ground := .guard } = true → vs 6 = .bool true) ∧ True := hd
      have h6 : vs 6 = .bool true := hx.1 rfl
      clear hx
      simp only [actOf, tk1, tk0, dr1, dr0, Act.put, si1, st1, st0, Nat.reduceAdd]
      rw [show vs 6 = _ from h6]
      go_wp2_with fail
      exact ⟨rfl, _, rfl, grew_refl _, rfl⟩
     ·intro vs y hg hd
      have hx : (Region.binds .any { on := 7, ground := .data } = true → vs 7 = .int .i64 12) ∧ (Region.binds .any { on := 6, ground := .guard } = true → vs 6 = .bool true) ∧ True := hd
      have h7 : vs 7 = .int .i64 12 := hx.1 rfl
      have h6 : vs 6 = .bool true := hx.2.1 rfl
      clear hx
      simp only [actOf, tk1, tk0, dr1, dr0, Act.put, si1, st1, st0, Nat.reduceAdd]
      rw [show vs 7 = _ from h7, show vs 6 = _ from h6]
      go_wp2_with fail
      exact ⟨rfl, _, rfl, grew_refl _, rfl⟩
     ·intro vs y hg hd
      obtain ⟨h6, h8, _⟩ := hd
      replace h6 := h6 rfl
      replace h8 := h8 rfl
      simp only [actOf, tk1, tk0, dr1, dr0, Act.put, si1, st1, st0, Nat.reduceAdd]
      rw [show vs 6 = _ from h6, show vs 8 = _ from h8]
      go_wp2_with fail
      exact ⟨rfl, _, rfl, grew_refl _, rfl⟩
     ·intro vs y hg hd
      obtain ⟨h9, _⟩ := hd
      replace h9 := h9 rfl
      simp only [actOf, tk1, tk0, dr1, dr0, Act.put, si1, st1, st0, Nat.reduceAdd]
      rw [show vs 9 = _ from h9]
      go_wp2_with fail
      exact ⟨rfl, _, rfl, grew_refl _, rfl⟩
     ·intro vs y hg hd
      have hx : (Region.binds .any { on := 10, ground := .guard } = true → vs 10 = .bool true) ∧ True := hd
      have h10 : vs 10 = .bool true := hx.1 rfl
      clear hx
      simp only [actOf, tk1, tk0, dr1, dr0, Act.put, si1, st1, st0, Nat.reduceAdd]
      rw [show vs 10 = _ from h10]
      go_wp2_with fail
      exact ⟨rfl, _, rfl, grew_refl _, rfl⟩
     ·intro vs y hg hd
      have hx : (Region.binds .any { on := 11, ground := .data } = true → vs 11 = .int .i64 13) ∧ (Region.binds .any { on := 10, ground := .guard } = true → vs 10 = .bool true) ∧ True := hd
      have h11 : vs 11 = .int .i64 13 := hx.1 rfl
      have h10 : vs 10 = .bool true := hx.2.1 rfl
      clear hx
      simp only [actOf, tk1, tk0, dr1, dr0, Act.put, si1, st1, st0, Nat.reduceAdd]
      rw [show vs 11 = _ from h11, show vs 10 = _ from h10]
      go_wp2_with fail
      exact ⟨rfl, _, rfl, grew_refl _, rfl⟩
     ·intro vs y hg hd
      obtain ⟨h10, h12, _⟩ := hd
      replace h10 := h10 rfl
      replace h12 := h12 rfl
      simp only [actOf, tk1, tk0, dr1, dr0, Act.put, si1, st1, st0, Nat.reduceAdd]
      rw [show vs 10 = _ from h10, show vs 12 = _ from h12]
      go_wp2_with fail
      exact ⟨rfl, _, rfl, grew_refl _, rfl⟩
     ·intro vs y hg hd
      obtain ⟨h13, _⟩ := hd
      replace h13 := h13 rfl
      simp only [actOf, tk1, tk0, dr1, dr0, Act.put, si1, st1, st0, Nat.reduceAdd]
      rw [show vs 13 = _ from h13]
      go_wp2_with fail
      exact ⟨rfl, _, rfl, grew_refl _, rfl⟩
     ·intro vs y hg hd
      have hx : (Region.binds .any { on := 14, ground := .guard } = true → vs 14 = .bool true) ∧ True := hd
      have h14 : vs 14 = .bool true := hx.1 rfl
      clear hx
      simp only [actOf, tk1, tk0, dr1, dr0, Act.put, si1, st1, st0, Nat.reduceAdd]
      rw [show vs 14 = _ from h14]
      go_wp2_with fail
      exact ⟨rfl, _, rfl, grew_refl _, rfl⟩
     ·intro vs y hg hd
      have hx : (Region.binds .any { on := 15, ground := .data } = true → vs 15 = .int .i64 11) ∧ (Region.binds .any { on := 14, ground := .guard } = true → vs 14 = .bool true) ∧ True := hd
      have h15 : vs 15 = .int .i64 11 := hx.1 rfl
      have h14 : vs 14 = .bool true := hx.2.1 rfl
      clear hx
      simp only [actOf, tk1, tk0, dr1, dr0, Act.put, si1, st1, st0, Nat.reduceAdd]
      rw [show vs 15 = _ from h15, show vs 14 = _ from h14]
      go_wp2_with fail
      exact ⟨rfl, _, rfl, grew_refl _, rfl⟩
     ·intro vs y hg hd
      obtain ⟨h14, h16, _⟩ := hd
      replace h14 := h14 rfl
      replace h16 := h16 rfl
      simp only [actOf, tk1, tk0, dr1, dr0, Act.put, si1, st1, st0, Nat.reduceAdd]
      rw [show vs 14 = _ from h14, show vs 16 = _ from h16]
      go_wp2_with fail
      exact ⟨rfl, _, rfl, grew_refl _, rfl⟩
     ·intro vs y hg hd
      obtain ⟨h17, _⟩ := hd
      replace h17 := h17 rfl
      simp only [actOf, tk1, tk0, dr1, dr0, Act.put, si1, st1, st0, Nat.reduceAdd]
      rw [show vs 17 = _ from h17]
      go_wp2_with fail
      exact ⟨rfl, _, rfl, grew_refl _, rfl⟩
     ·intro vs y hg hd
      have hx : (Region.binds .any { on := 18, ground := .guard } = true → vs 18 = .bool true) ∧ True := hd
      have h18 : vs 18 = .bool true := hx.1 rfl
      clear hx
      simp only [actOf, tk1, tk0, dr1, dr0, Act.put, si1, st1, st0, Nat.reduceAdd]
      rw [show vs 18 = _ from h18]
      go_wp2_with fail
      exact ⟨rfl, _, rfl, grew_refl _, rfl⟩
     ·intro vs y hg hd
      have hx : (Region.binds .any { on := 19, ground := .data } = true → vs 19 = .pointer (some ⟨qS, 0, none⟩)) ∧ (Region.binds .any { on := 18, ground := .guard } = true → vs 18 = .bool true) ∧ True := hd
      have h19 : vs 19 = .pointer (some ⟨qS, 0, none⟩) := hx.1 rfl
      have h18 : vs 18 = .bool true := hx.2.1 rfl
      clear hx
      simp only [actOf, tk1, tk0, dr1, dr0, Act.put, si1, st1, st0, Nat.reduceAdd]
      rw [show vs 19 = _ from h19, show vs 18 = _ from h18]
      have hc := HV0.out y hg
      go_wp2_with fail
      exact ⟨rfl, _, rfl, grew_refl _, rfl⟩
     ·intro vs y hg hd
      have hx : (Region.binds .any { on := 20, ground := .data } = true → vs 20 = .int .i64 3) ∧ (Region.binds .any { on := 18, ground := .guard } = true → vs 18 = .bool true) ∧ True := hd
      have h20 : vs 20 = .int .i64 3 := hx.1 rfl
      have h18 : vs 18 = .bool true := hx.2.1 rfl
      clear hx
      simp only [actOf, tk1, tk0, dr1, dr0, Act.put, si1, st1, st0, Nat.reduceAdd]
      rw [show vs 20 = _ from h20, show vs 18 = _ from h18]
      go_wp2_with fail
      exact ⟨rfl, _, rfl, grew_refl _, rfl⟩
     ·intro vs y hg hd
      obtain ⟨h18, h21, _⟩ := hd
      replace h18 := h18 rfl
      replace h21 := h21 rfl
      simp only [actOf, tk1, tk0, dr1, dr0, Act.put, si1, st1, st0, Nat.reduceAdd]
      rw [show vs 18 = _ from h18, show vs 21 = _ from h21]
      go_wp2_with fail
      exact ⟨rfl, _, rfl, grew_refl _, rfl⟩
     ·intro vs y hg hd
      obtain ⟨h22, _⟩ := hd
      replace h22 := h22 rfl
      simp only [actOf, tk1, tk0, dr1, dr0, Act.put, si1, st1, st0, Nat.reduceAdd]
      rw [show vs 22 = _ from h22]
      go_wp2_with fail
      exact ⟨rfl, _, rfl, grew_refl _, rfl⟩
     ·intro vs y hg hd
      have hx : (Region.binds .any { on := 23, ground := .guard } = true → vs 23 = .bool true) ∧ True := hd
      have h23 : vs 23 = .bool true := hx.1 rfl
      clear hx
      simp only [actOf, tk1, tk0, dr1, dr0, Act.put, si1, st1, st0, Nat.reduceAdd]
      rw [show vs 23 = _ from h23]
      go_wp2_with fail
      exact ⟨rfl, _, rfl, grew_refl _, rfl⟩
     ·intro vs y hg hd
      have hx : (Region.binds .any { on := 24, ground := .data } = true → vs 24 = .pointer (some ⟨qS, 4, none⟩)) ∧ (Region.binds .any { on := 23, ground := .guard } = true → vs 23 = .bool true) ∧ True := hd
      have h24 : vs 24 = .pointer (some ⟨qS, 4, none⟩) := hx.1 rfl
      have h23 : vs 23 = .bool true := hx.2.1 rfl
      clear hx
      simp only [actOf, tk1, tk0, dr1, dr0, Act.put, si1, st1, st0, Nat.reduceAdd]
      rw [show vs 24 = _ from h24, show vs 23 = _ from h23]
      go_wp2_with fail
      exact ⟨rfl, _, rfl, grew_refl _, rfl⟩
     ·intro vs y hg hd
      have hx : (Region.binds .any { on := 25, ground := .data } = true → vs 25 = .pointer (some ⟨qS, 4, none⟩)) ∧ (Region.binds .any { on := 23, ground := .guard } = true → vs 23 = .bool true) ∧ True := hd
      have h25 : vs 25 = .pointer (some ⟨qS, 4, none⟩) := hx.1 rfl
      have h23 : vs 23 = .bool true := hx.2.1 rfl
      clear hx
      simp only [actOf, tk1, tk0, dr1, dr0, Act.put, si1, st1, st0, Nat.reduceAdd]
      rw [show vs 25 = _ from h25, show vs 23 = _ from h23]
      have hc := HV4.out y hg
      go_wp2_with fail
      exact ⟨rfl, _, rfl, grew_refl _, rfl⟩
     ·intro vs y hg hd
      have hx : (Region.binds .any { on := 26, ground := .data } = true → vs 26 = .int .i64 2) ∧ (Region.binds .any { on := 23, ground := .guard } = true → vs 23 = .bool true) ∧ True := hd
      have h26 : vs 26 = .int .i64 2 := hx.1 rfl
      have h23 : vs 23 = .bool true := hx.2.1 rfl
      clear hx
      simp only [actOf, tk1, tk0, dr1, dr0, Act.put, si1, st1, st0, Nat.reduceAdd]
      rw [show vs 26 = _ from h26, show vs 23 = _ from h23]
      go_wp2_with fail
      exact ⟨rfl, _, rfl, grew_refl _, rfl⟩
     ·intro vs y hg hd
      obtain ⟨h23, h27, _⟩ := hd
      replace h23 := h23 rfl
      replace h27 := h27 rfl
      simp only [actOf, tk1, tk0, dr1, dr0, Act.put, si1, st1, st0, Nat.reduceAdd]
      rw [show vs 23 = _ from h23, show vs 27 = _ from h27]
      go_wp2_with fail
      exact ⟨rfl, _, rfl, grew_refl _, rfl⟩
     ·intro vs y hg hd
      obtain ⟨h28, _⟩ := hd
      replace h28 := h28 rfl
      simp only [actOf, tk1, tk0, dr1, dr0, Act.put, si1, st1, st0, Nat.reduceAdd]
      rw [show vs 28 = _ from h28]
      go_wp2_with fail
      exact ⟨rfl, _, rfl, grew_refl _, rfl⟩
     ·intro vs y hg hd
      have hx : (Region.binds .any { on := 29, ground := .guard } = true → vs 29 = .bool true) ∧ True := hd
      have h29 : vs 29 = .bool true := hx.1 rfl
      clear hx
      simp only [actOf, tk1, tk0, dr1, dr0, Act.put, si1, st1, st0, Nat.reduceAdd]
      rw [show vs 29 = _ from h29]
      go_wp2_with fail
      exact ⟨rfl, _, rfl, grew_refl _, rfl⟩
     ·intro vs y hg hd
      have hx : (Region.binds .any { on := 30, ground := .data } = true → vs 30 = .pointer (some ⟨qS, 1, none⟩)) ∧ (Region.binds .any { on := 29, ground := .guard } = true → vs 29 = .bool true) ∧ True := hd
      have h30 : vs 30 = .pointer (some ⟨qS, 1, none⟩) := hx.1 rfl
      have h29 : vs 29 = .bool true := hx.2.1 rfl
      clear hx
      simp only [actOf, tk1, tk0, dr1, dr0, Act.put, si1, st1, st0, Nat.reduceAdd]
      rw [show vs 30 = _ from h30, show vs 29 = _ from h29]
      go_wp2_with fail
      exact ⟨rfl, _, rfl, grew_refl _, rfl⟩
     ·intro vs y hg hd
      have hx : (Region.binds .any { on := 31, ground := .data } = true → vs 31 = .pointer (some ⟨qS, 1, none⟩)) ∧ (Region.binds .any { on := 29, ground := .guard } = true → vs 29 = .bool true) ∧ True := hd
      have h31 : vs 31 = .pointer (some ⟨qS, 1, none⟩) := hx.1 rfl
      have h29 : vs 29 = .bool true := hx.2.1 rfl
      clear hx
      simp only [actOf, tk1, tk0, dr1, dr0, Act.put, si1, st1, st0, Nat.reduceAdd]
      rw [show vs 31 = _ from h31, show vs 29 = _ from h29]
      have hc := HV1.out y hg
      go_wp2_with fail
      exact ⟨rfl, _, rfl, grew_refl _, rfl⟩
     ·intro vs y hg hd
      have hx : (Region.binds .any { on := 32, ground := .data } = true → vs 32 = .int .i64 1) ∧ (Region.binds .any { on := 29, ground := .guard } = true → vs 29 = .bool true) ∧ True := hd
      have h32 : vs 32 = .int .i64 1 := hx.1 rfl
      have h29 : vs 29 = .bool true := hx.2.1 rfl
      clear hx
      simp only [actOf, tk1, tk0, dr1, dr0, Act.put, si1, st1, st0, Nat.reduceAdd]
      rw [show vs 32 = _ from h32, show vs 29 = _ from h29]
      go_wp2_with fail
      exact ⟨rfl, _, rfl, grew_refl _, rfl⟩
     ·intro vs y hg hd
      obtain ⟨h29, h33, _⟩ := hd
      replace h29 := h29 rfl
      replace h33 := h33 rfl
      simp only [actOf, tk1, tk0, dr1, dr0, Act.put, si1, st1, st0, Nat.reduceAdd]
      rw [show vs 29 = _ from h29, show vs 33 = _ from h33]
      go_wp2_with fail
      exact ⟨rfl, _, rfl, grew_refl _, rfl⟩
     ·intro vs y hg hd
      obtain ⟨h34, _⟩ := hd
      replace h34 := h34 rfl
      simp only [actOf, tk1, tk0, dr1, dr0, Act.put, si1, st1, st0, Nat.reduceAdd]
      rw [show vs 34 = _ from h34]
      go_wp2_with fail
      exact ⟨rfl, _, rfl, grew_refl _, rfl⟩
     ·intro vs y hg hd
      have hx : (Region.binds .any { on := 35, ground := .guard } = true → vs 35 = .bool true) ∧ True := hd
      have h35 : vs 35 = .bool true := hx.1 rfl
      clear hx
      simp only [actOf, tk1, tk0, dr1, dr0, Act.put, si1, st1, st0, Nat.reduceAdd]
      rw [show vs 35 = _ from h35]
      go_wp2_with fail
      exact ⟨rfl, _, rfl, grew_refl _, rfl⟩
     ·intro vs y hg hd
      have hx : (Region.binds .any { on := 36, ground := .data } = true → vs 36 = .pointer (some ⟨qS, 1, none⟩)) ∧ (Region.binds .any { on := 35, ground := .guard } = true → vs 35 = .bool true) ∧ True := hd
      have h36 : vs 36 = .pointer (some ⟨qS, 1, none⟩) := hx.1 rfl
      have h35 : vs 35 = .bool true := hx.2.1 rfl
      clear hx
      simp only [actOf, tk1, tk0, dr1, dr0, Act.put, si1, st1, st0, Nat.reduceAdd]
      rw [show vs 36 = _ from h36, show vs 35 = _ from h35]
      go_wp2_with fail
      exact ⟨rfl, _, rfl, grew_refl _, rfl⟩
     ·intro vs y hg hd
      have hx : (Region.binds .any { on := 37, ground := .data } = true → vs 37 = .pointer (some ⟨qS, 2, none⟩)) ∧ (Region.binds .any { on := 35, ground := .guard } = true → vs 35 = .bool true) ∧ True := hd
      have h37 : vs 37 = .pointer (some ⟨qS, 2, none⟩) := hx.1 rfl
      have h35 : vs 35 = .bool true := hx.2.1 rfl
      clear hx
      simp only [actOf, tk1, tk0, dr1, dr0, Act.put, si1, st1, st0, Nat.reduceAdd]
      rw [show vs 37 = _ from h37, show vs 35 = _ from h35]
      have hc := HV2.out y hg
      go_wp2_with fail
      exact ⟨rfl, _, rfl, grew_refl _, rfl⟩
     ·intro vs y hg hd
      have hx : (Region.binds .any { on := 35, ground := .guard } = true → vs 35 = .bool true) ∧ True := hd
      have h35 : vs 35 = .bool true := hx.1 rfl
      clear hx
      simp only [actOf, tk1, tk0, dr1, dr0, Act.put, si1, st1, st0, Nat.reduceAdd]
      rw [show vs 35 = _ from h35]
      have hm := HBA8.out y hg
      go_wp2_with (refine ltload_want (by rfl) 33 (.tmp 2) rfl qA 0 rfl kA.z.C.toList _ hm hub rfl SIA.out ?_; simp only [Array.toArray_toList])
      exact ⟨rfl, _, rfl, grew_refl _, rfl⟩
     ·intro vs y hg hd
      have hx : (Region.binds .any { on := 39, ground := .data } = true → vs 39 = .agg kA.z.C) ∧ (Region.binds .any { on := 35, ground := .chain } = true → vs 35 = .bool true) ∧ (Region.binds .any { on := 35, ground := .guard } = true → vs 35 = .bool true) ∧ True := hd
      have h39 : vs 39 = .agg kA.z.C := hx.1 rfl
      have h35 : vs 35 = .bool true := hx.2.2.1 rfl
      clear hx
      simp only [actOf, tk1, tk0, dr1, dr0, Act.put, si1, st1, st0, Nat.reduceAdd]
      rw [show vs 39 = _ from h39, show vs 35 = _ from h35]
      go_wp2_with (go_at_call 10; refine (CDA.out y (HST8.out.grew hg)).mono ?_; rintro e z ⟨rfl, gz⟩)
      exact ⟨rfl, _, rfl, gz, rfl⟩
     ·intro vs y hg hd
      have hx : (Region.binds .any { on := 38, ground := .data } = true → vs 38 = .int .u64 (a : Nat)) ∧ (Region.binds .any { on := 40, ground := .data } = true → vs 40 = .int .u64 (a : Nat)) ∧ (Region.binds .any { on := 35, ground := .guard } = true → vs 35 = .bool true) ∧ True := hd
      have h38 : vs 38 = .int .u64 (a : Nat) := hx.1 rfl
      have h40 : vs 40 = .int .u64 (a : Nat) := hx.2.1 rfl
      have h35 : vs 35 = .bool true := hx.2.2.1 rfl
      clear hx
      simp only [actOf, tk1, tk0, dr1, dr0, Act.put, si1, st1, st0, Nat.reduceAdd]
      rw [show vs 38 = _ from h38, show vs 40 = _ from h40, show vs 35 = _ from h35]
      go_wp2_with fail
      exact ⟨rfl, _, rfl, grew_refl _, rfl⟩
     ·intro vs y hg hd
      obtain ⟨h35, h41, _⟩ := hd
      replace h35 := h35 rfl
      replace h41 := h41 rfl
      simp only [actOf, tk1, tk0, dr1, dr0, Act.put, si1, st1, st0, Nat.reduceAdd]
      rw [show vs 35 = _ from h35, show vs 41 = _ from h41]
      go_wp2_with fail
      exact ⟨rfl, _, rfl, grew_refl _, rfl⟩
    ·intro vs y hg hJ
     have j0 : vs 0 = .int .i64 0 := hJ 0 (by decide)
     have j1 : vs 1 = .int .i64 0 := hJ 1 (by decide)
     have j2 : vs 2 = .int .i64 0 := hJ 2 (by decide)
     have j3 : vs 3 = .int .i64 0 := hJ 3 (by decide)
     have j4 : vs 4 = .int .i64 0 := hJ 4 (by decide)
     have j5 : vs 5 = .bool true := hJ 5 (by decide)
     have j6 : vs 6 = .bool true := hJ 6 (by decide)
     have j7 : vs 7 = .int .i64 12 := hJ 7 (by decide)
     have j8 : vs 8 = .bool true := hJ 8 (by decide)
     have j9 : vs 9 = .bool true := hJ 9 (by decide)
     have j10 : vs 10 = .bool true := hJ 10 (by decide)
     have j11 : vs 11 = .int .i64 13 := hJ 11 (by decide)
     have j12 : vs 12 = .bool true := hJ 12 (by decide)
     have j13 : vs 13 = .bool true := hJ 13 (by decide)
     have j14 : vs 14 = .bool true := hJ 14 (by decide)
     have j15 : vs 15 = .int .i64 11 := hJ 15 (by decide)
     have j16 : vs 16 = .bool true := hJ 16 (by decide)
     have j17 : vs 17 = .bool true := hJ 17 (by decide)
     have j18 : vs 18 = .bool true := hJ 18 (by decide)
     have j19 : vs 19 = .pointer (some ⟨qS, 0, none⟩) := hJ 19 (by decide)
     have j20 : vs 20 = .int .i64 3 := hJ 20 (by decide)
     have j21 : vs 21 = .bool true := hJ 21 (by decide)
     have j22 : vs 22 = .bool true := hJ 22 (by decide)
     have j23 : vs 23 = .bool true := hJ 23 (by decide)
     have j24 : vs 24 = .pointer (some ⟨qS, 4, none⟩) := hJ 24 (by decide)
     have j25 : vs 25 = .pointer (some ⟨qS, 4, none⟩) := hJ 25 (by decide)
     have j26 : vs 26 = .int .i64 2 := hJ 26 (by decide)
     have j27 : vs 27 = .bool true := hJ 27 (by decide)
     have j28 : vs 28 = .bool true := hJ 28 (by decide)
     have j29 : vs 29 = .bool true := hJ 29 (by decide)
     have j30 : vs 30 = .pointer (some ⟨qS, 1, none⟩) := hJ 30 (by decide)
     have j31 : vs 31 = .pointer (some ⟨qS, 1, none⟩) := hJ 31 (by decide)
     have j32 : vs 32 = .int .i64 1 := hJ 32 (by decide)
     have j33 : vs 33 = .bool true := hJ 33 (by decide)
     have j34 : vs 34 = .bool true := hJ 34 (by decide)
     have j35 : vs 35 = .bool true := hJ 35 (by decide)
     have j36 : vs 36 = .pointer (some ⟨qS, 1, none⟩) := hJ 36 (by decide)
     have j37 : vs 37 = .pointer (some ⟨qS, 2, none⟩) := hJ 37 (by decide)
     have j38 : vs 38 = .int .u64 (a : Nat) := hJ 38 (by decide)
     have j39 : vs 39 = .agg kA.z.C := hJ 39 (by decide)
     have j40 : vs 40 = .int .u64 (a : Nat) := hJ 40 (by decide)
     have j41 : vs 41 = .bool true := hJ 41 (by decide)
     have j42 : vs 42 = .bool true := hJ 42 (by decide)
     clear hJ
     simp only [actOf, tk1, tk0, dr1, dr0, Act.put, si1, st1, st0, Nat.reduceAdd]
     rw [j42]
     have GG := grew_trans HG9.out hg
     clear j0 j1 j2 j3 j4 j5 j6 j7 j8 j9 j10 j11 j12 j13 j14 j15 j16 j17 j18 j19 j20 j21 j22 j23 j24 j25 j26 j27 j28 j29 j30 j31 j32 j33 j34 j35 j36 j37 j38 j39 j40 j41 j42
     go_wp2_with fail
     go_ret
     exact ⟨rfl, GG⟩
end Go.Proofs.YtbohmmcmlabcdaaDoor

namespace Go.Proofs.YtbohmmcmlabcdaaDoor
set_option linter.unusedSimpArgs false
set_option linter.unusedVariables false
open Go.RowKit Go.Maps
set_option linter.unusedVariables false
set_option linter.unnecessarySimpa false
set_option linter.unusedSimpArgs false
def safP : Nat → BB
 | 0 => bb0
 | i + 1 => safB i
def KS : BL := (List.range 10).map fun i => (sd i, safP i)
theorem KS_len : KS.length = 10 := rfl
theorem KS_take (k : Nat) (h : k < 10) : KS.take (k + 1) = KS.take k ++ [(sd k, safP k)] := by
 rw [List.take_succ_eq_append_getElem (by rw [KS_len]; exact h)]
 simp [KS]
theorem sd_get (i j : Nat) (hi : i < 10) (hj : j < 10) (h : sd i = sd j) : i = j := by
 have hl : sdT.length = 10 := rfl
 unfold sd at h
 rw [List.getD_eq_getElem?_getD, List.getD_eq_getElem?_getD, List.getElem?_eq_getElem (by omega), List.getElem?_eq_getElem (by omega)] at h
 exact (List.getElem_inj sd_nodup).1 (by simpa using h)
theorem sd_mem (i : Nat) (hi : i < 10) : sd i ∈ sdT := by
 have hl : sdT.length = 10 := rfl
 unfold sd
 rw [List.getD_eq_getElem?_getD, List.getElem?_eq_getElem (by omega)]
 exact List.getElem_mem _
theorem sd_lt' (i : Nat) (hi : i < 10) : sd i < 18446744073709551616 := sd_lt _ (sd_mem i hi)
theorem sd_zero : sd 0 = 0 := rfl
theorem sd_ne0 (i : Nat) (h0 : 0 < i) (hi : i < 10) : sd i ≠ 0 := fun e => by have := sd_get i 0 hi (by omega) e; omega
theorem bget_none {K : BL} {d : Nat} (h : ∀ x ∈ K, x.1 ≠ d) : bget K d = none := by
 induction K with
 | nil => rfl
 | cons y r ih =>
  simp only [bget]
  rw [if_neg (h y (by simp))]
  exact ih (fun x hx => h x (by simp [hx]))
theorem KS_mem {m : Nat} {x : Nat × BB} (h : x ∈ KS.take m) : ∃ i, i < m ∧ i < 10 ∧ x = (sd i, safP i) := by
 obtain ⟨i, hi, rfl⟩ := List.getElem_of_mem h
 rw [List.length_take, KS_len] at hi
 exact ⟨i, by omega, by omega, by simp [KS]⟩
theorem ks_none (k : Nat) (hk : k < 10) : bget (KS.take k) (sd k) = none := bget_none fun x hx e => by
 obtain ⟨i, h1, h2, rfl⟩ := KS_mem hx
 have := sd_get i k h2 hk e
 omega
theorem ks_some (k m : Nat) (hk : k < m) (hm : m ≤ 10) : bget (KS.take m) (sd k) = some (safP k) := by
 induction m with
 | zero => omega
 | succ m ih =>
  rw [KS_take m (by omega), bget_app]
  by_cases hkm : k = m
  ·subst hkm
   rw [ks_none k (by omega)]
   simp
  ·rw [ih (by omega) (by omega)]
   rfl
theorem ks_out (m d : Nat) (h : d ∉ sdT) : bget (KS.take m) d = none := bget_none fun x hx e => by
 obtain ⟨i, h1, h2, rfl⟩ := KS_mem hx
 exact h (e ▸ sd_mem i h2)
theorem safP_ok (i : Nat) (hi : i < 10) : (safP i).ok := by
 cases i with
 | zero => exact bb0_ok
 | succ i =>
  have h := sd_lt' i (by omega)
  constructor <;> simp [safP, safB, in64] <;> omega
theorem safP_dig (i : Nat) (hi : i < 10) : blkD (safP i) = sd i := by
 cases i with
 | zero => rfl
 | succ i => rw [blkD_C]; exact sd_step i (by omega)
theorem safP_hi (i : Nat) : (safP i).hi = 5 * i := by cases i <;> simp [safP, safB, bb0]; omega
theorem safP_v (i : Nat) : (safP i).v = i := by cases i <;> simp [safP, safB, bb0]
theorem safP_qv (i : Nat) : (safP i).qv = ((i - 1 : Nat) : Int) := by cases i <;> simp [safP, safB, bb0]
theorem safP_qb (i : Nat) : (safP i).qb = sd (i - 1) := by cases i <;> simp [safP, safB, bb0, sd_zero]
def wl : Nat → List Nat
 | 0 => [0]
 | k + 1 => sd (k + 1) :: wl k
theorem wl_len (k : Nat) : (wl k).length = k + 1 := by induction k with
 | zero => rfl
 | succ k ih => simp [wl, ih]
theorem wl_mem (k i : Nat) (h : i ≤ k) : sd i ∈ wl k := by
 induction k with
 | zero => obtain rfl : i = 0 := by omega
           simp [wl, sd_zero]
 | succ k ih =>
  by_cases hi : i = k + 1
  ·subst hi; simp [wl]
  ·simp [wl, ih (by omega)]
theorem wl_way (K : BL) (k : Nat) (hk : k < 10) (h : ∀ i, i ≤ k → bget K (sd i) = some (safP i)) : WayB K (sd k) (wl k) := by
 induction k with
 | zero => exact .root (by rw [← sd_zero, h 0 (Nat.le_refl _)]; rfl)
 | succ k ih => exact .step (sd_ne0 _ (by omega) hk) (h _ (Nat.le_refl _)) (ih (by omega) (fun i hi => h i (by omega)))
/-- what binds votes behind j of them -/
def fS (j : Nat) : SF := ⟨j, ((j - 2 : Nat) : Int), sd (j - 2), ((j - 1 : Nat) : Int), sd (j - 1)⟩
theorem fS_may (j : Nat) : mayE (fS j) (safP (j + 1)) (wl (j + 1)) = 0 := by
 unfold mayE
 rw [safP_v, if_neg (by simp [fS]; omega), if_pos (show (fS j).lb ∈ wl (j + 1) from wl_mem (j + 1) (j - 2) (by omega))]
theorem fS_saw (j : Nat) : sawF ⟨(safP (j + 1)).v, (fS j).lv, (fS j).lb, (fS j).hv, (fS j).hb⟩ (safP (j + 1)).qv (safP (j + 1)).qb (safP j) = fS (j + 1) := by
 rw [safP_v, safP_qv, safP_qb]
 unfold sawF fS
 dsimp only
 rw [safP_qv, safP_qb, Nat.add_sub_cancel, show j + 1 - 2 = j - 1 by omega]
 by_cases h2 : 2 ≤ j
 ·rw [if_pos (by omega), if_pos (by omega), if_pos (by omega), if_pos (by omega)]
 ·rw [if_neg (by omega), if_neg (by omega)]
  have e1 : j - 2 = j - 1 := by omega
  by_cases h1 : j = 1
  ·subst h1
   rw [if_pos (by omega), if_pos (by omega)]
  ·obtain rfl : j = 0 := by omega
   rfl
theorem fS_end (n : Nat) (hn : 2 ≤ n) : sawF (fS n) (n : Int) (sd n) (safP n) = ⟨n, ((n - 1 : Nat) : Int), sd (n - 1), n, sd n⟩ := by
 unfold sawF fS
 dsimp only
 rw [safP_qv, safP_qb]
 rw [if_pos (by omega), if_pos (by omega), if_pos (by omega), if_pos (by omega)]
def blkL (k : Nat) : List (List Value) := (List.range k).map fun i => (safP (i + 1)).z.C.toList
theorem blkL_len (k : Nat) : (blkL k).length = k := by simp [blkL]
theorem blkL_z (k : Nat) : ∀ l ∈ blkL k, l.length = 8 := fun l hl => by
 obtain ⟨i, _, rfl⟩ := List.mem_map.1 hl
 rfl
theorem blkL_get (k i : Nat) (h : i < (blkL k).length) : (blkL k)[i] = (safP (i + 1)).z.C.toList := by simp [blkL]
theorem blkL_snoc (k : Nat) : (blkL (k + 1)).flatten = (blkL k).flatten ++ (safP (k + 1)).z.C.toList := by simp [blkL, List.range_succ]
/-- the fork -/
theorem safF_ok (v q : Nat) (hv : v < 100) (hq : q < 100) : (safF v q).ok := by constructor <;> simp [safF, in64] <;> omega
theorem fork_out (v q : Nat) (hv : v < 20) (hq : q < 12) : blkD (safF (v + 1) q) ∉ sdT := by rw [blkD_C]; exact sf_out v hv q hq
theorem fork_may (n v q df : Nat) (hn : 2 ≤ n) (hn9 : n ≤ 9) (hdf : df ∉ sdT) : mayE ⟨n, ((n - 1 : Nat) : Int), sd (n - 1), n, sd n⟩ (safF v q) [df, 0] = if (v : Int) ≤ n then 12 else if (q : Int) ≤ ((n - 1 : Nat) : Int) then 13 else 0 := by
 unfold mayE
 dsimp only [safF]
 have h1 : sd (n - 1) ∉ [df, 0] := by
  intro h
  simp only [List.mem_cons, List.not_mem_nil, or_false] at h
  rcases h with h | h
  ·exact hdf (h ▸ sd_mem (n - 1) (by omega))
  ·exact sd_ne0 (n - 1) (by omega) (by omega) h
 rw [if_neg h1]
 rfl
end Go.Proofs.YtbohmmcmlabcdaaDoor
