/- Laws of the walk, for seats without keys (copies of my own, under names of their own). -/
import Derived.Deep.Cut
import Derived.Deep.MidRow
import Derived.Deep.QuietTactic
import Derived.BigQuiet
import Derived.WalkArith
import Derived.IntWalk
import Derived.RegionTactic
import Derived.Test.YtbohmmcmlabcdaaDoorPae
import Derived.Test.YtbohmmcmlabcdaaDoorPal
import Derived.Laws.MakeOwn
namespace Go.Proofs.YtbohmmcmlabcdaaDoor
set_option linter.unusedSimpArgs false
set_option linter.unusedVariables false
open Go.RowKit
set_option linter.unusedVariables false
set_option linter.unnecessarySimpa false
theorem ltload_want {P : Program} {ops : Array Oper} {rest : List Oper} {o : Oper} {a : Act} {w : World} {Q : Exit → Act → World → Prop} (hw : Region.wanted o (yielded ops a.tmps) = true) (ty : TypeId) (x : Operand) (ho : o.op = .load ty x)
 (b m : Nat) (hx : a.eval x = .pointer (some ⟨b, m, none⟩)) (cs : List Value) (d : TypeDesc) (hc : w.rangeAt b m cs)
 (hu : P.underlying ty = some d) (hd : d.isRow = true) (hi : (P.info? ty).map (·.size) = some cs.length)
 (h : wpList P ops Q rest (a.put o.dst (.agg cs.toArray)) w) : wpList P ops Q (o :: rest) a w :=
 BigFrame.wpList_want hw fun _ hK => wp_load_mid ty x ho b m hx cs d hc hu hd hi (hK _ _ h)
/-- a whole struct laid into a block just made -/
theorem ltput_any (W : World) (t : TypeId) (z cs : Array Value) (h : cs.size = z.size) : ∃ W', (W.alloc (.cells z t)).setCells W.heap.size 0 cs.toList = W' ∧ (W.alloc (.cells z t)).there W.heap.size 0 cs.size ∧ Grew W W' ∧ Ag W' W.heap.size cs.toList :=
 ⟨_, rfl, by rw [h]; exact (Ag.new W t z).thereN z.size (by simp), setCells_grew (o := 0) (b := W.heap.size) cs.toList (grew_alloc (grew_refl W) _) (Nat.le_refl _), Ag.set (vs := cs.toList) (Ag.new W t z) (by simp [h])⟩
theorem ltres_ag1 {P : Program} {fn : Func} {p : Tmp} {ty : TypeId} (h : fn.results = #[.cell p ty]) (tmps : Array Value) (w : World) (b : Nat) (cs : List Value) (d : TypeDesc)
 (hp : tmps.getD p undef = .pointer (some ⟨b, 0, none⟩)) (hz : Ag w b cs) (hu : P.underlying ty = some d) (hd : d.isRow = true) (hi : (P.info? ty).map (·.size) = some cs.length) :
 (results fn tmps).run P w = .ok (.agg cs.toArray) w := by
 have hp' : tmps[p]?.getD undef = .pointer (some ⟨b, 0, none⟩) := by simpa using hp
 simp [results, h, hp', asAddr, run_loadVar_mid w b 0 ty cs d hz.cell hu hd hi]
theorem ltres_ag2 {P : Program} {fn : Func} {p u : Tmp} {ty : TypeId} (h : fn.results = #[.cell p ty, .tmp u]) (tmps : Array Value) (w : World) (b : Nat) (cs : List Value) (d : TypeDesc) (v : Value)
 (hp : tmps.getD p undef = .pointer (some ⟨b, 0, none⟩)) (hv : tmps.getD u undef = v) (hz : Ag w b cs) (hu : P.underlying ty = some d) (hd : d.isRow = true) (hi : (P.info? ty).map (·.size) = some cs.length) :
 (results fn tmps).run P w = .ok (.tuple #[.agg cs.toArray, v]) w := by
 rw [results_cell_tmp h, hp, hv]
 simp [asAddr, run_loadVar_mid w b 0 ty cs d hz.cell hu hd hi]
theorem ltbuild_is {P : Program} {ops : Array Oper} {rest : List Oper} {o : Oper} {a : Act} {w : World} {Q : Exit → Act → World → Prop} (hg : o.guard = none) (t : TypeId) (parts : Array (Nat × Operand)) (ho : o.op = .build t parts) (cells : Array Value)
 (hc : P.built t (parts.map fun (i, x) => (i, a.eval x)).toList = some cells) (h : wpList P ops Q rest (a.put o.dst (.agg cells)) w) : wpList P ops Q (o :: rest) a w :=
 wpList_build hg t parts ho (by rw [hc]; rfl) (by rw [hc]; exact h)
theorem ltcell_gr {w w' : World} {b o : Nat} {v : Value} (h : w.cell? ⟨b, o, none⟩ = some v) (g : Grew w w') : w'.cell? ⟨b, o, none⟩ = some v := by
 rw [← h]
 refine World.cell?_of_block (g.block _ ?_)
 rcases Nat.lt_or_ge b w.heap.size with h' | h'
 ·exact h'
 ·have : w.heap[b]? = none := Array.getElem?_eq_none h'
  simp only [World.cell?, this] at h
  cases h
/-- cells from offset m on -/
theorem ltrange_sub {w : World} {b o m : Nat} {cs sub : List Value} (h : w.rangeAt b o cs) (hs : ∀ j v, sub[j]? = some v → cs[m + j]? = some v) : w.rangeAt b (o + m) sub := fun j v hv => by
 rw [Nat.add_assoc]; exact h (m + j) v (hs j v hv)
end Go.Proofs.YtbohmmcmlabcdaaDoor

namespace Go.Proofs.YtbohmmcmlabcdaaDoor
set_option linter.unusedSimpArgs false
set_option linter.unusedVariables false
open Go.RowKit
set_option linter.unusedVariables false
set_option linter.unnecessarySimpa false
/-- the slice's elements, each a row of z cells, from the block's first cell on -/
def ltRdC (w : World) (A : Option Addr) (z : Nat) (L : List (List Value)) : Prop := ∀ k (h : k < L.length), ∃ q, A = some ⟨q, 0, none⟩ ∧ q < w.heap.size ∧ w.rangeAt q (k * z) L[k]
theorem ltRdC.nil (w : World) (A : Option Addr) (z : Nat) : ltRdC w A z [] := fun k h => absurd h (by simp)
theorem ltRdC.kp {S : Nat → Prop} {w w' : World} {A : Option Addr} {z : Nat} {L : List (List Value)} (h : ltRdC w A z L) (k : Kp S w w') (hs : ∀ q, A = some ⟨q, 0, none⟩ → ¬ S q) : ltRdC w' A z L := fun i hi => by
 obtain ⟨q, e, hq, hr⟩ := h i hi
 exact ⟨q, e, Nat.lt_of_lt_of_le hq k.size, fun j v hj => by
  rw [← hr j v hj]
  exact World.cell?_of_block (k.block q hq (hs q e))⟩
theorem ltRdC.gr {w w' : World} {A : Option Addr} {z : Nat} {L : List (List Value)} (h : ltRdC w A z L) (k : Grew w w') : ltRdC w' A z L := h.kp (S := fun _ => False) (kp_grew k) (fun _ _ h => h)
theorem ltRdC.take {w : World} {A : Option Addr} {z : Nat} {L : List (List Value)} (h : ltRdC w A z L) (n : Nat) : ltRdC w A z (L.take n) := fun i hi => by
 have hi' : i < L.length := by rw [List.length_take] at hi; omega
 obtain ⟨q, e, hq, hr⟩ := h i hi'
 exact ⟨q, e, hq, by rw [List.getElem_take]; exact hr⟩
end Go.Proofs.YtbohmmcmlabcdaaDoor
