/- Books: their cells; book.New. -/
import Derived.Test.YtoehfbfnijedfaaDoorZai
import Derived.Test.YtoehfbfnijedfaaDoorZar
import Derived.Test.YtoehfbfnijedfaaDoorZam
import Derived.Test.YtoehfbfnijedfaaDoorZag
import Derived.Deep.QuietTactic
import Derived.BigQuiet
import Derived.RegionTactic
import Derived.ChangeAlike
namespace Go.Proofs.YtoehfbfnijedfaaDoor
set_option linter.unusedSimpArgs false
set_option linter.unusedVariables false
open Go.RowKit
set_option linter.unusedVariables false
set_option linter.unusedSimpArgs false
def bkA (f : Nat → Int) : Array Value := #[.int .i64 (f 0), .int .i64 (f 1), .int .i64 (f 2), .int .i64 (f 3), .int .i64 (f 4), .int .i64 (f 5), .int .i64 (f 6), .int .i64 (f 7), .int .i64 (f 8), .int .i64 (f 9), .int .i64 (f 10), .int .i64 (f 11), .int .i64 (f 12), .int .i64 (f 13), .int .i64 (f 14), .int .i64 (f 15), .int .i64 (f 16), .int .i64 (f 17), .int .i64 (f 18), .int .i64 (f 19), .int .i64 (f 20), .int .i64 (f 21), .int .i64 (f 22), .int .i64 (f 23), .int .i64 (f 24), .int .i64 (f 25), .int .i64 (f 26), .int .i64 (f 27), .int .i64 (f 28), .int .i64 (f 29), .int .i64 (f 30), .int .i64 (f 31)]
def bkL (f : Nat → Int) : List Value := (bkA f).toList
theorem bkL_eq (f : Nat → Int) : bkL f = (List.range 32).map fun k => .int .i64 (f k) := rfl
def updF (f : Nat → Int) (i : Nat) (v : Int) : Nat → Int := fun k => if k = i then v else f k
theorem bkL_len (f : Nat → Int) : (bkL f).length = 32 := rfl
theorem bkA_size (f : Nat → Int) : (bkA f).size = 32 := rfl
theorem bkL_get (f : Nat → Int) (k : Nat) (h : k < 32) : (bkL f)[k]? = some (.int .i64 (f k)) := by simp [bkL_eq, h]
theorem bkL_set (f : Nat → Int) (i : Nat) (v : Int) (h : i < 32) : (bkL f).set i (.int .i64 v) = bkL (updF f i v) := by
  apply List.ext_getElem?
  intro j
  by_cases hj : j < 32
  · rw [bkL_get _ j hj]
    by_cases hij : i = j
    · subst hij
      rw [List.getElem?_set_self (by rw [bkL_len]; exact h)]
      simp [updF]
    · rw [List.getElem?_set_ne hij, bkL_get _ j hj]
      simp [updF, Ne.symm hij]
  · rw [List.getElem?_eq_none (by rw [List.length_set, bkL_len]; omega), List.getElem?_eq_none (by rw [bkL_len]; omega)]
theorem bkL_one (f : Nat → Int) : (bkA f).all (·.oneCell') = true := by
  simp [bkA, Value.oneCell']
theorem bkL_congr {f g : Nat → Int} (h : ∀ k, k < 32 → f k = g k) : bkL f = bkL g := by
  rw [bkL_eq, bkL_eq]
  apply List.map_congr_left
  intro k hk
  rw [h k (List.mem_range.1 hk)]
set_option maxRecDepth 100000 in
theorem bk_zero : Tryd.prog.built 27 [] = some (bkA fun _ => 0) := by kernel_rfl
set_option maxRecDepth 100000 in
theorem bk_zeroL : (#[.int .i64 0, .int .i64 0, .int .i64 0, .int .i64 0, .int .i64 0, .int .i64 0, .int .i64 0, .int .i64 0, .int .i64 0, .int .i64 0, .int .i64 0, .int .i64 0, .int .i64 0, .int .i64 0, .int .i64 0, .int .i64 0, .int .i64 0, .int .i64 0, .int .i64 0, .int .i64 0, .int .i64 0, .int .i64 0, .int .i64 0, .int .i64 0, .int .i64 0, .int .i64 0, .int .i64 0, .int .i64 0, .int .i64 0, .int .i64 0, .int .i64 0, .int .i64 0] : Array Value) = bkA fun _ => 0 := rfl
theorem bk_info : (Tryd.prog.info? 27).map (·.size) = some 32 := by kernel_rfl
theorem bk_at {w : World} {b : Nat} {f : Nat → Int} (h : Ag w b (bkL f)) (k : Nat) (hk : k < 32) : w.cell? ⟨b, k, none⟩ = some (.int .i64 (f k)) := by simpa using h.cell k _ (bkL_get f k hk)
theorem bk_fr {w : World} {b : Nat} {f : Nat → Int} (h : Ag w b (bkL f)) (k : Nat) (hk : k < 32) : w.frozen? ⟨b, k, none⟩ = false := by simpa using (h.there k (by rw [bkL_len]; exact hk)).2
theorem Ag.setB {w : World} {b : Nat} {f : Nat → Int} (h : Ag w b (bkL f)) (j : Nat) (v : Int) (hj : j < 32) : Ag (w.setCell ⟨b, j, none⟩ (.int .i64 v)) b (bkL (updF f j v)) := by
  have hl := bkL_len f
  have ht : w.there b j [Value.int .i64 v].length := fun i hi => by
    have : i = 0 := by simpa using hi
    subst this
    simpa using h.there j (by omega)
  have hs := World.rangeAt_setCells_same w b j [Value.int .i64 v] ht
  have e : w.setCells b j [Value.int .i64 v] = w.setCell ⟨b, j, none⟩ (.int .i64 v) := rfl
  rw [← bkL_set f j v hj]
  refine ⟨fun i x hx => ?_, fun i hi => ⟨?_, ?_⟩, Nat.lt_of_lt_of_le h.lt (by rw [← e]; exact (setCells_kp [Value.int .i64 v] b j w).size)⟩
  · by_cases hij : i = j
    · subst hij
      rw [List.getElem?_set_self (by omega)] at hx
      cases hx
      rw [← e]
      simpa using hs 0 _ rfl
    · rw [List.getElem?_set_ne (fun h => hij h.symm)] at hx
      rw [World.cell?_setCell_other _ _ _ _ (by intro h; injection h with _ h2; omega)]
      exact h.cell i x hx
  · by_cases hij : i = j
    · subst hij
      rw [← e]
      have := hs 0 _ rfl
      rw [Nat.add_zero] at this
      simp [this]
    · rw [World.cell?_setCell_other _ _ _ _ (by intro h; injection h with _ h2; omega)]
      exact (h.there i (by rw [List.length_set] at hi; exact hi)).1
  · rw [World.frozen?_setCell]
    exact (h.there i (by rw [List.length_set] at hi; exact hi)).2
theorem results_ag2 {P : Program} {fn : Func} {p u : Tmp} {ty : TypeId} (h : fn.results = #[.cell p ty, .tmp u]) (tmps : Array Value) (w : World) (b : Nat) (cs : List Value) (d : TypeDesc) (v : Value)
    (hp : tmps.getD p undef = .pointer (some ⟨b, 0, none⟩)) (hv : tmps.getD u undef = v) (hz : Ag w b cs) (hu : P.underlying ty = some d) (hd : d.isRow = true) (hi : (P.info? ty).map (·.size) = some cs.length) :
    (results fn tmps).run P w = .ok (.tuple #[.agg cs.toArray, v]) w := by
  rw [results_cell_tmp h, hp, hv]
  simp [asAddr, run_loadVar_mid w b 0 ty cs d hz.cell hu hd hi]
def goodN (x : Int) : Bool := decide (0 ≤ x ∧ x ≤ 1099511627776)
def nwE (l : List Int) : Int := if 16 < l.length then 4 else if l.all goodN = true then 0 else 1
def nwF (l : List Int) : Nat → Int := if nwE l = 0 then fun k => l.getD k 0 else fun _ => 0
set_option maxRecDepth 100000 in
theorem new_long (A : Option Addr) (c : Nat) (l : List Int) (h : 16 < l.length) (w : World) :
    Calls Tryd.prog 5 #[.slice A l.length c] w fun e w' => e = .returned (.tuple #[.agg (bkA (nwF l)), .int .i64 (nwE l)]) ∧ Grew w w' := by
  have h1 : (16 : Int) < (l.length : Int) := by omega
  have hE : nwE l = 4 := by unfold nwE; rw [if_pos h]
  have hF : nwF l = fun _ => 0 := by unfold nwF; rw [hE]; rfl
  rw [hE, hF]
  have z0 := Ag.new w 27 (#[.int .i64 0, .int .i64 0, .int .i64 0, .int .i64 0, .int .i64 0, .int .i64 0, .int .i64 0, .int .i64 0, .int .i64 0, .int .i64 0, .int .i64 0, .int .i64 0, .int .i64 0, .int .i64 0, .int .i64 0, .int .i64 0, .int .i64 0, .int .i64 0, .int .i64 0, .int .i64 0, .int .i64 0, .int .i64 0, .int .i64 0, .int .i64 0, .int .i64 0, .int .i64 0, .int .i64 0, .int .i64 0, .int .i64 0, .int .i64 0, .int .i64 0, .int .i64 0])
  have g0 := grew_alloc (grew_refl w) (.cells (#[.int .i64 0, .int .i64 0, .int .i64 0, .int .i64 0, .int .i64 0, .int .i64 0, .int .i64 0, .int .i64 0, .int .i64 0, .int .i64 0, .int .i64 0, .int .i64 0, .int .i64 0, .int .i64 0, .int .i64 0, .int .i64 0, .int .i64 0, .int .i64 0, .int .i64 0, .int .i64 0, .int .i64 0, .int .i64 0, .int .i64 0, .int .i64 0, .int .i64 0, .int .i64 0, .int .i64 0, .int .i64 0, .int .i64 0, .int .i64 0, .int .i64 0, .int .i64 0]) 27)
  have hub := Tryd.underlying27
  have bz : ∀ W, (Instr.build 27 #[]).run Tryd.prog W = .ok (.agg (#[.int .i64 0, .int .i64 0, .int .i64 0, .int .i64 0, .int .i64 0, .int .i64 0, .int .i64 0, .int .i64 0, .int .i64 0, .int .i64 0, .int .i64 0, .int .i64 0, .int .i64 0, .int .i64 0, .int .i64 0, .int .i64 0, .int .i64 0, .int .i64 0, .int .i64 0, .int .i64 0, .int .i64 0, .int .i64 0, .int .i64 0, .int .i64 0, .int .i64 0, .int .i64 0, .int .i64 0, .int .i64 0, .int .i64 0, .int .i64 0, .int .i64 0, .int .i64 0])) W := fun W => run_build W 27 #[] _ bk_zero
  have HSI : Hid ((Tryd.prog.info? 27).map (·.size) = some (#[.int .i64 0, .int .i64 0, .int .i64 0, .int .i64 0, .int .i64 0, .int .i64 0, .int .i64 0, .int .i64 0, .int .i64 0, .int .i64 0, .int .i64 0, .int .i64 0, .int .i64 0, .int .i64 0, .int .i64 0, .int .i64 0, .int .i64 0, .int .i64 0, .int .i64 0, .int .i64 0, .int .i64 0, .int .i64 0, .int .i64 0, .int .i64 0, .int .i64 0, .int .i64 0, .int .i64 0, .int .i64 0, .int .i64 0, .int .i64 0, .int .i64 0, .int .i64 0] : Array Value).size) := Lib.hid bk_info
  have HON : Hid ((#[.int .i64 0, .int .i64 0, .int .i64 0, .int .i64 0, .int .i64 0, .int .i64 0, .int .i64 0, .int .i64 0, .int .i64 0, .int .i64 0, .int .i64 0, .int .i64 0, .int .i64 0, .int .i64 0, .int .i64 0, .int .i64 0, .int .i64 0, .int .i64 0, .int .i64 0, .int .i64 0, .int .i64 0, .int .i64 0, .int .i64 0, .int .i64 0, .int .i64 0, .int .i64 0, .int .i64 0, .int .i64 0, .int .i64 0, .int .i64 0, .int .i64 0, .int .i64 0] : Array Value).all (·.oneCell') = true) := Lib.hid (by simp [Value.oneCell'])
  have HTH : Hid ((w.alloc (.cells (#[.int .i64 0, .int .i64 0, .int .i64 0, .int .i64 0, .int .i64 0, .int .i64 0, .int .i64 0, .int .i64 0, .int .i64 0, .int .i64 0, .int .i64 0, .int .i64 0, .int .i64 0, .int .i64 0, .int .i64 0, .int .i64 0, .int .i64 0, .int .i64 0, .int .i64 0, .int .i64 0, .int .i64 0, .int .i64 0, .int .i64 0, .int .i64 0, .int .i64 0, .int .i64 0, .int .i64 0, .int .i64 0, .int .i64 0, .int .i64 0, .int .i64 0, .int .i64 0]) 27)).there w.heap.size 0 (#[.int .i64 0, .int .i64 0, .int .i64 0, .int .i64 0, .int .i64 0, .int .i64 0, .int .i64 0, .int .i64 0, .int .i64 0, .int .i64 0, .int .i64 0, .int .i64 0, .int .i64 0, .int .i64 0, .int .i64 0, .int .i64 0, .int .i64 0, .int .i64 0, .int .i64 0, .int .i64 0, .int .i64 0, .int .i64 0, .int .i64 0, .int .i64 0, .int .i64 0, .int .i64 0, .int .i64 0, .int .i64 0, .int .i64 0, .int .i64 0, .int .i64 0, .int .i64 0] : Array Value).size) := Lib.hid (z0.thereN 32 rfl)
  have z2 := Ag.set (vs := (#[.int .i64 0, .int .i64 0, .int .i64 0, .int .i64 0, .int .i64 0, .int .i64 0, .int .i64 0, .int .i64 0, .int .i64 0, .int .i64 0, .int .i64 0, .int .i64 0, .int .i64 0, .int .i64 0, .int .i64 0, .int .i64 0, .int .i64 0, .int .i64 0, .int .i64 0, .int .i64 0, .int .i64 0, .int .i64 0, .int .i64 0, .int .i64 0, .int .i64 0, .int .i64 0, .int .i64 0, .int .i64 0, .int .i64 0, .int .i64 0, .int .i64 0, .int .i64 0] : Array Value).toList) z0 rfl
  have g2 := setCells_grew (o := 0) (b := w.heap.size) (#[.int .i64 0, .int .i64 0, .int .i64 0, .int .i64 0, .int .i64 0, .int .i64 0, .int .i64 0, .int .i64 0, .int .i64 0, .int .i64 0, .int .i64 0, .int .i64 0, .int .i64 0, .int .i64 0, .int .i64 0, .int .i64 0, .int .i64 0, .int .i64 0, .int .i64 0, .int .i64 0, .int .i64 0, .int .i64 0, .int .i64 0, .int .i64 0, .int .i64 0, .int .i64 0, .int .i64 0, .int .i64 0, .int .i64 0, .int .i64 0, .int .i64 0, .int .i64 0] : Array Value).toList g0 (Nat.le_refl _)
  go_enter Tryd.func5, Tryd.ntmps5
  go_wp2_with (with_reducible refine wpList_store_mid rfl 27 (.tmp 2) (.tmp 10) rfl w.heap.size 0 (#[.int .i64 0, .int .i64 0, .int .i64 0, .int .i64 0, .int .i64 0, .int .i64 0, .int .i64 0, .int .i64 0, .int .i64 0, .int .i64 0, .int .i64 0, .int .i64 0, .int .i64 0, .int .i64 0, .int .i64 0, .int .i64 0, .int .i64 0, .int .i64 0, .int .i64 0, .int .i64 0, .int .i64 0, .int .i64 0, .int .i64 0, .int .i64 0, .int .i64 0, .int .i64 0, .int .i64 0, .int .i64 0, .int .i64 0, .int .i64 0, .int .i64 0, .int .i64 0]) rfl rfl HTH.out HSI.out HON.out ?_)
  exact bodyPost_ret (results_ag2 Tryd.results5 _ _ w.heap.size _ _ _ rfl rfl z2 hub rfl bk_info) rfl ⟨rfl, g2⟩
def fillF (l : List Int) (k : Nat) : Nat → Int := fun j => if j < k then l.getD j 0 else 0
theorem fillF_zero (l : List Int) : bkA (fillF l 0) = #[.int .i64 0, .int .i64 0, .int .i64 0, .int .i64 0, .int .i64 0, .int .i64 0, .int .i64 0, .int .i64 0, .int .i64 0, .int .i64 0, .int .i64 0, .int .i64 0, .int .i64 0, .int .i64 0, .int .i64 0, .int .i64 0, .int .i64 0, .int .i64 0, .int .i64 0, .int .i64 0, .int .i64 0, .int .i64 0, .int .i64 0, .int .i64 0, .int .i64 0, .int .i64 0, .int .i64 0, .int .i64 0, .int .i64 0, .int .i64 0, .int .i64 0, .int .i64 0] := by simp [bkA, fillF]
theorem fillF_succ (l : List Int) (k : Nat) (h : k < l.length) : updF (fillF l k) k l[k] = fillF l (k + 1) := by
  funext j
  unfold updF fillF
  by_cases hj : j = k
  · subst hj; simp [List.getD_eq_getElem?_getD, h]
  · by_cases h2 : j < k
    · rw [if_neg hj, if_pos h2, if_pos (by omega)]
    · rw [if_neg hj, if_neg h2, if_neg (by omega)]
theorem fillF_full (l : List Int) : fillF l l.length = fun k => l.getD k 0 := by
  funext j
  unfold fillF
  by_cases h : j < l.length
  · rw [if_pos h]
  · rw [if_neg h, List.getD_eq_getElem?_getD, List.getElem?_eq_none (by omega)]; rfl
set_option maxRecDepth 100000 in
set_option maxHeartbeats 1000000 in
theorem new_ok (A : Option Addr) (c : Nat) (l : List Int) (h : l.length ≤ 16) (w : World) (hr : Rd w w.heap.size A (i64L l)) :
    Calls Tryd.prog 5 #[.slice A l.length c] w fun e w' => e = .returned (.tuple #[.agg (bkA (nwF l)), .int .i64 (nwE l)]) ∧ Grew w w' := by
  have h1 : ¬ (16 : Int) < (l.length : Int) := by omega
  have HR := Lib.hid (fun (wr : World) (g : Grew w wr) => hr.gr g)
  have hub := Tryd.underlying27
  have z0 := (Ag.new w 27 (#[.int .i64 0, .int .i64 0, .int .i64 0, .int .i64 0, .int .i64 0, .int .i64 0, .int .i64 0, .int .i64 0, .int .i64 0, .int .i64 0, .int .i64 0, .int .i64 0, .int .i64 0, .int .i64 0, .int .i64 0, .int .i64 0, .int .i64 0, .int .i64 0, .int .i64 0, .int .i64 0, .int .i64 0, .int .i64 0, .int .i64 0, .int .i64 0, .int .i64 0, .int .i64 0, .int .i64 0, .int .i64 0, .int .i64 0, .int .i64 0, .int .i64 0, .int .i64 0])).grew (grew_alloc (grew_refl _) (.cells (#[.int .i64 0, .int .i64 0, .int .i64 0, .int .i64 0, .int .i64 0, .int .i64 0, .int .i64 0, .int .i64 0, .int .i64 0, .int .i64 0, .int .i64 0, .int .i64 0, .int .i64 0, .int .i64 0, .int .i64 0, .int .i64 0, .int .i64 0, .int .i64 0, .int .i64 0, .int .i64 0, .int .i64 0, .int .i64 0, .int .i64 0, .int .i64 0, .int .i64 0, .int .i64 0, .int .i64 0, .int .i64 0, .int .i64 0, .int .i64 0, .int .i64 0, .int .i64 0]) 27))
  have z1 := Ag.new (w.alloc (.cells (#[.int .i64 0, .int .i64 0, .int .i64 0, .int .i64 0, .int .i64 0, .int .i64 0, .int .i64 0, .int .i64 0, .int .i64 0, .int .i64 0, .int .i64 0, .int .i64 0, .int .i64 0, .int .i64 0, .int .i64 0, .int .i64 0, .int .i64 0, .int .i64 0, .int .i64 0, .int .i64 0, .int .i64 0, .int .i64 0, .int .i64 0, .int .i64 0, .int .i64 0, .int .i64 0, .int .i64 0, .int .i64 0, .int .i64 0, .int .i64 0, .int .i64 0, .int .i64 0]) 27)) 27 (#[.int .i64 0, .int .i64 0, .int .i64 0, .int .i64 0, .int .i64 0, .int .i64 0, .int .i64 0, .int .i64 0, .int .i64 0, .int .i64 0, .int .i64 0, .int .i64 0, .int .i64 0, .int .i64 0, .int .i64 0, .int .i64 0, .int .i64 0, .int .i64 0, .int .i64 0, .int .i64 0, .int .i64 0, .int .i64 0, .int .i64 0, .int .i64 0, .int .i64 0, .int .i64 0, .int .i64 0, .int .i64 0, .int .i64 0, .int .i64 0, .int .i64 0, .int .i64 0])
  rw [alloc_size] at z1
  have g0 := grew_alloc (grew_alloc (grew_refl w) (.cells (#[.int .i64 0, .int .i64 0, .int .i64 0, .int .i64 0, .int .i64 0, .int .i64 0, .int .i64 0, .int .i64 0, .int .i64 0, .int .i64 0, .int .i64 0, .int .i64 0, .int .i64 0, .int .i64 0, .int .i64 0, .int .i64 0, .int .i64 0, .int .i64 0, .int .i64 0, .int .i64 0, .int .i64 0, .int .i64 0, .int .i64 0, .int .i64 0, .int .i64 0, .int .i64 0, .int .i64 0, .int .i64 0, .int .i64 0, .int .i64 0, .int .i64 0, .int .i64 0]) 27)) (.cells (#[.int .i64 0, .int .i64 0, .int .i64 0, .int .i64 0, .int .i64 0, .int .i64 0, .int .i64 0, .int .i64 0, .int .i64 0, .int .i64 0, .int .i64 0, .int .i64 0, .int .i64 0, .int .i64 0, .int .i64 0, .int .i64 0, .int .i64 0, .int .i64 0, .int .i64 0, .int .i64 0, .int .i64 0, .int .i64 0, .int .i64 0, .int .i64 0, .int .i64 0, .int .i64 0, .int .i64 0, .int .i64 0, .int .i64 0, .int .i64 0, .int .i64 0, .int .i64 0]) 27)
  rw [← fillF_zero l] at z0 z1 g0
  have HZ := Lib.hid (fillF_zero l)
  have bz : ∀ W, (Instr.build 27 #[]).run Tryd.prog W = .ok (.agg (bkA fun _ => 0)) W := fun W => run_build W 27 #[] _ bk_zero
  have HSI : Hid ((Tryd.prog.info? 27).map (·.size) = some (bkA fun _ => 0).size) := Lib.hid bk_info
  have HON : Hid ((bkA fun _ => 0).all (·.oneCell') = true) := Lib.hid (bkL_one _)
  clear hr
  go_enter Tryd.func5, Tryd.ntmps5
  go_wp2_with fail
  rw [← HZ.out]
  generalize hb0 : w.heap.size = b0 at *
  generalize hW : ((w.alloc (.cells (bkA (fillF l 0)) 27)).alloc (.cells (bkA (fillF l 0)) 27)) = W at *
  have HB0 := Lib.hid hb0
  clear hW hb0
  rw [HZ.out] at z0
  have hz0 : Hid ((#[.int .i64 0, .int .i64 0, .int .i64 0, .int .i64 0, .int .i64 0, .int .i64 0, .int .i64 0, .int .i64 0, .int .i64 0, .int .i64 0, .int .i64 0, .int .i64 0, .int .i64 0, .int .i64 0, .int .i64 0, .int .i64 0, .int .i64 0, .int .i64 0, .int .i64 0, .int .i64 0, .int .i64 0, .int .i64 0, .int .i64 0, .int .i64 0, .int .i64 0, .int .i64 0, .int .i64 0, .int .i64 0, .int .i64 0, .int .i64 0, .int .i64 0, .int .i64 0] : Array Value).toList = bkL fun _ => 0) := Lib.hid rfl
  rw [hz0.out] at z0
  go_loopw [5, 6, 13] (fun _ _ iv wr => ∃ k : Nat, k ≤ l.length ∧ iv = .int .i64 k ∧ Ag wr b0 (bkL fun _ => 0) ∧ Ag wr (b0 + 1) (bkL (fillF l k)) ∧ (l.take k).all goodN = true ∧ Grew w wr) (fun _ _ iv _ => l.length - (intOf iv).toNat)
  case atStart => exact ⟨0, Nat.zero_le _, rfl, z0, z1, by simp, g0⟩
  case round =>
    clear z0 z1 g0 hz0
    obtain ⟨k, hk, rfl, z0, z1, hgd, g⟩ := hrel
    by_cases hlt : k < l.length
    · obtain ⟨ad, hA, hbl, hc0⟩ := rd_i64 (HR.out wr g) k hlt
      subst hA
      have hk0 : (0 : Int) ≤ (k : Int) := by omega
      have hk1 : (k : Int) < (l.length : Int) := by omega
      have hk2 : (k : Int) < 16 := by omega
      have e1 : IntKind.i64.wrap ((k : Int) + 1) = ((k + 1 : Nat) : Int) := by rw [IntWalk.i64_in _ (by omega)]; omega
      have hs1 := fillF_succ l k hlt
      have htk : (l.take (k + 1)).all goodN = ((l.take k).all goodN && goodN l[k]) := by rw [List.take_succ_eq_append_getElem hlt, List.all_append]; simp
      have hal : goodN l[k] = false → l.all goodN = false := fun hb => by
        rw [List.all_eq_false]
        exact ⟨l[k], List.getElem_mem hlt, by simpa using hb⟩
      generalize l[k] = x at *
      have HK := Lib.hid hlt
      have HS1 := Lib.hid hs1
      have HTK := Lib.hid htk
      have HAL := Lib.hid hal
      have HGD := Lib.hid hgd
      clear hlt hk hs1 htk hal hgd h1
      by_cases hbad : x < 0 ∨ 1099511627776 < x
      · have hg2 : goodN x = false := by unfold goodN; exact decide_eq_false (by omega)
        have hE : nwE l = 1 := by unfold nwE; rw [if_neg (by omega), HAL.out hg2]; rfl
        have hF : nwF l = fun _ => 0 := by unfold nwF; rw [hE]; rfl
        have HTH : Hid (wr.there b0 0 (bkA fun _ => 0).size) := Lib.hid (z0.thereN 32 rfl)
        have z2 := Ag.set (vs := bkL fun _ => 0) z0 rfl
        have hb0' := HB0.out
        have g2 := setCells_grew (o := 0) (b := b0) (bkL fun _ => 0) g (by omega)
        rcases hbad with hn | hn
        · have t1 : decide (x < 0) = true := by simpa using hn
          go_wp2_with (with_reducible refine wpList_store_mid rfl 27 (.tmp 2) (.tmp 24) rfl b0 0 (bkA fun _ => 0) rfl rfl HTH.out HSI.out HON.out ?_)
          exact bodyPost_ret (results_ag2 Tryd.results5 _ _ b0 _ _ _ rfl rfl z2 hub rfl bk_info) rfl ⟨by rw [hE, hF]; rfl, g2⟩
        · have t1 : decide (x < 0) = false := by simp; omega
          go_wp2_with (with_reducible refine wpList_store_mid rfl 27 (.tmp 2) (.tmp 24) rfl b0 0 (bkA fun _ => 0) rfl rfl HTH.out HSI.out HON.out ?_)
          exact bodyPost_ret (results_ag2 Tryd.results5 _ _ b0 _ _ _ rfl rfl z2 hub rfl bk_info) rfl ⟨by rw [hE, hF]; rfl, g2⟩
      · have hg2 : goodN x = true := by unfold goodN; exact decide_eq_true (by omega)
        have t1 : decide (x < 0) = false := by simp; omega
        have t2 : decide (1099511627776 < x) = false := by simp; omega
        have hc2 := bk_at z1 k (by have := HK.out; omega)
        have hf2 := bk_fr z1 k (by have := HK.out; omega)
        have M1 := Lib.hid (z1.setB k x (by have := HK.out; omega))
        have hb0' := HB0.out
        have M0 := Lib.hid (z0.kp (setCells_kp [Value.int .i64 x] (b0 + 1) k wr) (by omega))
        have MG := Lib.hid (setCells_grew (o := k) (b := b0 + 1) [Value.int .i64 x] g (by omega))
        clear z0 z1 g hb0' hbad
        go_wp2_with fail
        go_roundw
        case rel => exact ⟨k + 1, by have := HK.out; omega, by go_num, M0.out, by rw [← HS1.out]; exact M1.out, by rw [HTK.out, HGD.out, hg2]; rfl, MG.out⟩
        case measure => have := HK.out; simp [intOf]; omega
    · obtain rfl : k = l.length := by omega
      rw [List.take_length] at hgd
      rw [fillF_full] at z1
      have hE : nwE l = 0 := by unfold nwE; rw [if_neg (by omega), hgd]; rfl
      have hF : nwF l = fun k => l.getD k 0 := by unfold nwF; rw [hE]; rfl
      generalize (fun k => l.getD k 0) = f at *
      have HSF : Hid ((Tryd.prog.info? 27).map (·.size) = some (bkA f).size) := Lib.hid bk_info
      have HOF : Hid ((bkA f).all (·.oneCell') = true) := Lib.hid (bkL_one _)
      have HLF : Hid ((Tryd.prog.info? 27).map (·.size) = some (bkL f).length) := Lib.hid bk_info
      have HTH : Hid (wr.there b0 0 (bkA f).size) := Lib.hid (z0.thereN 32 rfl)
      have z2 := Ag.set (vs := bkL f) z0 rfl
      have hb0' := HB0.out
      have g2 := setCells_grew (o := 0) (b := b0) (bkL f) g (by omega)
      have hm := z1.cell
      clear hgd hlt
      go_wp2_with (first
        | (with_reducible refine wpList_load_mid rfl 27 (.tmp 4) rfl (b0 + 1) 0 rfl (bkL f) _ hm hub rfl HLF.out ?_)
        | (with_reducible refine wpList_store_mid rfl 27 (.tmp 2) (.tmp 30) rfl b0 0 (bkA f) rfl rfl HTH.out HSF.out HOF.out ?_))
      exact bodyPost_ret (results_ag2 Tryd.results5 _ _ b0 _ _ _ rfl rfl z2 hub rfl bk_info) rfl ⟨by rw [hE, hF]; rfl, g2⟩
end Go.Proofs.YtoehfbfnijedfaaDoor

namespace Go.Proofs.YtoehfbfnijedfaaDoor
set_option linter.unusedSimpArgs false
set_option linter.unusedVariables false
open Go.RowKit
set_option linter.unusedVariables false
set_option linter.unusedSimpArgs false
set_option maxRecDepth 100000 in
set_option maxHeartbeats 1000000 in
theorem apply_ok (f : Nat → Int) (cl fr tt : Nat) (no am : Int) (hok : okC ⟨cl, no, fr, tt, am⟩) (ht : no = f (16 + cl)) (hf : ¬ f fr < am) (hb : ∀ k, k < 32 → 0 ≤ f k ∧ f k ≤ 4611686018427387904) (w : World) :
    Calls Tryd.prog 6 #[.agg (bkA f), .agg #[.int .i64 cl, .int .i64 no, .int .i64 fr, .int .i64 tt, .int .i64 am]] w fun e w' => e = .returned (.tuple #[.agg (bkA (updF (updF (updF f (16 + cl) (f (16 + cl) + 1)) fr (f fr - am)) tt (f tt + am))), .int .i64 0]) ∧ Grew w w' := by
  have HOK := Lib.hid hok
  obtain ⟨k0, k1, k2, k3, k4, k5, k6, k7, k8, k9, k10⟩ := hok
  dsimp only at k0 k1 k2 k3 k4 k5 k6 k7 k8 k9 k10
  have e10 : (no != f (16 + cl)) = false := by simp [ht]
  have e17 : decide (f fr < am) = false := by simpa using hf
  clear ht hf
  have hub := Tryd.underlying27
  have huc := Tryd.underlying34
  have z0 := ((Ag.new w 27 (bkA f)).grew (grew_alloc (grew_refl _) (.cells #[.int .i64 cl, .int .i64 no, .int .i64 fr, .int .i64 tt, .int .i64 am] 34))).grew (grew_alloc (grew_refl _) (.cells (#[.int .i64 0, .int .i64 0, .int .i64 0, .int .i64 0, .int .i64 0, .int .i64 0, .int .i64 0, .int .i64 0, .int .i64 0, .int .i64 0, .int .i64 0, .int .i64 0, .int .i64 0, .int .i64 0, .int .i64 0, .int .i64 0, .int .i64 0, .int .i64 0, .int .i64 0, .int .i64 0, .int .i64 0, .int .i64 0, .int .i64 0, .int .i64 0, .int .i64 0, .int .i64 0, .int .i64 0, .int .i64 0, .int .i64 0, .int .i64 0, .int .i64 0, .int .i64 0]) 27))
  have z1 := (Ag.new (w.alloc (.cells (bkA f) 27)) 34 #[.int .i64 cl, .int .i64 no, .int .i64 fr, .int .i64 tt, .int .i64 am]).grew (grew_alloc (grew_refl _) (.cells (#[.int .i64 0, .int .i64 0, .int .i64 0, .int .i64 0, .int .i64 0, .int .i64 0, .int .i64 0, .int .i64 0, .int .i64 0, .int .i64 0, .int .i64 0, .int .i64 0, .int .i64 0, .int .i64 0, .int .i64 0, .int .i64 0, .int .i64 0, .int .i64 0, .int .i64 0, .int .i64 0, .int .i64 0, .int .i64 0, .int .i64 0, .int .i64 0, .int .i64 0, .int .i64 0, .int .i64 0, .int .i64 0, .int .i64 0, .int .i64 0, .int .i64 0, .int .i64 0]) 27))
  have z2 := Ag.new ((w.alloc (.cells (bkA f) 27)).alloc (.cells #[.int .i64 cl, .int .i64 no, .int .i64 fr, .int .i64 tt, .int .i64 am] 34)) 27 (#[.int .i64 0, .int .i64 0, .int .i64 0, .int .i64 0, .int .i64 0, .int .i64 0, .int .i64 0, .int .i64 0, .int .i64 0, .int .i64 0, .int .i64 0, .int .i64 0, .int .i64 0, .int .i64 0, .int .i64 0, .int .i64 0, .int .i64 0, .int .i64 0, .int .i64 0, .int .i64 0, .int .i64 0, .int .i64 0, .int .i64 0, .int .i64 0, .int .i64 0, .int .i64 0, .int .i64 0, .int .i64 0, .int .i64 0, .int .i64 0, .int .i64 0, .int .i64 0])
  rw [alloc_size] at z1 z2
  rw [alloc_size] at z2
  have g0 := grew_alloc (grew_alloc (grew_alloc (grew_refl w) (.cells (bkA f) 27)) (.cells #[.int .i64 cl, .int .i64 no, .int .i64 fr, .int .i64 tt, .int .i64 am] 34)) (.cells (#[.int .i64 0, .int .i64 0, .int .i64 0, .int .i64 0, .int .i64 0, .int .i64 0, .int .i64 0, .int .i64 0, .int .i64 0, .int .i64 0, .int .i64 0, .int .i64 0, .int .i64 0, .int .i64 0, .int .i64 0, .int .i64 0, .int .i64 0, .int .i64 0, .int .i64 0, .int .i64 0, .int .i64 0, .int .i64 0, .int .i64 0, .int .i64 0, .int .i64 0, .int .i64 0, .int .i64 0, .int .i64 0, .int .i64 0, .int .i64 0, .int .i64 0, .int .i64 0]) 27)
  have HCL : Hid ((Tryd.prog.info? 34).map (·.size) = some (#[.int .i64 cl, .int .i64 no, .int .i64 fr, .int .i64 tt, .int .i64 am] : Array Value).toList.length) := Lib.hid (by kernel_rfl)
  have CK := Lib.hid (fun W => check_any ⟨cl, no, fr, tt, am⟩ W)
  unfold Cm.v at CK
  dsimp only at CK
  rw [chkC_ok HOK.out] at CK
  go_enter Tryd.func6, Tryd.ntmps6
  generalize hW : (((w.alloc (.cells (bkA f) 27)).alloc (.cells #[.int .i64 cl, .int .i64 no, .int .i64 fr, .int .i64 tt, .int .i64 am] 34)).alloc (.cells (#[.int .i64 0, .int .i64 0, .int .i64 0, .int .i64 0, .int .i64 0, .int .i64 0, .int .i64 0, .int .i64 0, .int .i64 0, .int .i64 0, .int .i64 0, .int .i64 0, .int .i64 0, .int .i64 0, .int .i64 0, .int .i64 0, .int .i64 0, .int .i64 0, .int .i64 0, .int .i64 0, .int .i64 0, .int .i64 0, .int .i64 0, .int .i64 0, .int .i64 0, .int .i64 0, .int .i64 0, .int .i64 0, .int .i64 0, .int .i64 0, .int .i64 0, .int .i64 0]) 27)) = W at *
  have hm1 : ∀ W', W = W' → W'.rangeAt (w.heap.size + 1) 0 (#[.int .i64 cl, .int .i64 no, .int .i64 fr, .int .i64 tt, .int .i64 am] : Array Value).toList := fun W' h => h ▸ z1.cell
  have hm := z1.cell
  clear hm1
  go_wp2_with (with_reducible refine wpList_load_mid rfl 34 (.tmp 3) rfl (w.heap.size + 1) 0 rfl (#[.int .i64 cl, .int .i64 no, .int .i64 fr, .int .i64 tt, .int .i64 am] : Array Value).toList _ hm huc rfl HCL.out ?_)
  refine CK.out _ |>.mono ?_
  rintro e w1 ⟨rfl, gg⟩
  have G1 := grew_trans g0 gg
  have y0 := z0.grew gg
  have y1 := z1.grew gg
  have y2 := z2.grew gg
  clear z0 z1 z2 g0 gg CK hW
  have c0 : w1.cell? ⟨w.heap.size + 1, 0, none⟩ = some (.int .i64 cl) := by simpa using y1.cell 0 _ rfl
  have c1 : w1.cell? ⟨w.heap.size + 1, 1, none⟩ = some (.int .i64 no) := by simpa using y1.cell 1 _ rfl
  have n0 := bk_at y0 (16 + cl) (by omega)
  go_wp2_with fail
  go_quiet (fail)
  have gd := grew_drewN (grew_refl w1) nq
  have G2 := grew_trans G1 gd
  have x0 := y0.grew gd
  have x1 := y1.grew gd
  have x2 := y2.grew gd
  clear c0 c1 n0 y0 y1 y2 G1 gd
  generalize w1.drewN nq = w2 at *
  have HB := Lib.hid hb
  have hn1 := hb (16 + cl) (by omega)
  clear hb
  have c0 : w2.cell? ⟨w.heap.size + 1, 0, none⟩ = some (.int .i64 cl) := by simpa using x1.cell 0 _ rfl
  have n0 := bk_at x0 (16 + cl) (by omega)
  have f0 := bk_fr x0 (16 + cl) (by omega)
  have hk1 : (cl : Int) < 16 := by omega
  have e1 : IntKind.i64.wrap (f (16 + cl) + 1) = f (16 + cl) + 1 := by rw [IntWalk.i64_in _ (by omega)]
  have M0 := Lib.hid (x0.setB (16 + cl) (f (16 + cl) + 1) (by omega))
  have K0 := setCells_kp [Value.int .i64 (f (16 + cl) + 1)] w.heap.size (16 + cl) w2
  have M1 := Lib.hid (x1.kp K0 (by omega))
  have M2 := Lib.hid (x2.kp K0 (by omega))
  have MG := Lib.hid (setCells_grew (o := 16 + cl) (b := w.heap.size) [Value.int .i64 (f (16 + cl) + 1)] G2 (Nat.le_refl _))
  clear K0 x0 x1 x2 G2
  go_wp2_with fail
  have hF1 : ∀ k, k < 16 → updF f (16 + cl) (f (16 + cl) + 1) k = f k := fun k hk => by unfold updF; rw [if_neg (by omega)]
  have q0 := M0.out
  have q1 := M1.out
  have q2 := M2.out
  have qg := MG.out
  rw [show w2.setCells w.heap.size (16 + cl) [Value.int .i64 (f (16 + cl) + 1)] = w2.setCell ⟨w.heap.size, 16 + cl, none⟩ (.int .i64 (f (16 + cl) + 1)) from rfl] at q1 q2 qg
  clear M0 M1 M2 MG c0 n0 f0 e1 hn1
  generalize w2.setCell ⟨w.heap.size, 16 + cl, none⟩ (.int .i64 (f (16 + cl) + 1)) = w3 at *
  obtain ⟨f1, hf1⟩ : ∃ f1, updF f (16 + cl) (f (16 + cl) + 1) = f1 := ⟨_, rfl⟩
  rw [hf1] at q0 hF1
  have HF1 := Lib.hid hf1
  clear hf1
  have c2 : w3.cell? ⟨w.heap.size + 1, 2, none⟩ = some (.int .i64 fr) := by simpa using q1.cell 2 _ rfl
  have c4 : w3.cell? ⟨w.heap.size + 1, 4, none⟩ = some (.int .i64 am) := by simpa using q1.cell 4 _ rfl
  have n2 := bk_at q0 fr (by omega)
  rw [hF1 fr (by omega)] at n2
  have hfr : (fr : Int) < 16 := by omega
  have hfr0 : (0 : Int) ≤ fr := by omega
  go_quiet (fail)
  go_wp2_with fail
  have gd := grew_drewN (grew_refl w3) nq
  have G3 := grew_trans qg gd
  have x0 := q0.grew gd
  have x1 := q1.grew gd
  have x2 := q2.grew gd
  clear c2 c4 n2 q0 q1 q2 qg gd
  generalize w3.drewN nq = w4 at *
  have c2 : w4.cell? ⟨w.heap.size + 1, 2, none⟩ = some (.int .i64 fr) := by simpa using x1.cell 2 _ rfl
  have c4 : w4.cell? ⟨w.heap.size + 1, 4, none⟩ = some (.int .i64 am) := by simpa using x1.cell 4 _ rfl
  have n2 := bk_at x0 fr (by omega)
  have f2 := bk_fr x0 fr (by omega)
  rw [hF1 fr (by omega)] at n2
  have b2 := HB.out fr (by omega)
  have e2 : IntKind.i64.wrap (f fr - am) = f fr - am := by rw [IntWalk.i64_in _ (by omega)]
  have M0 := Lib.hid (x0.setB fr (f fr - am) (by omega))
  have K0 := setCells_kp [Value.int .i64 (f fr - am)] w.heap.size fr w4
  have M1 := Lib.hid (x1.kp K0 (by omega))
  have M2 := Lib.hid (x2.kp K0 (by omega))
  have MG := Lib.hid (setCells_grew (o := fr) (b := w.heap.size) [Value.int .i64 (f fr - am)] G3 (Nat.le_refl _))
  clear K0 x0 x1 x2 G3
  go_region
  have q0 := M0.out
  have q1 := M1.out
  have q2 := M2.out
  have qg := MG.out
  rw [show w4.setCells w.heap.size fr [Value.int .i64 (f fr - am)] = w4.setCell ⟨w.heap.size, fr, none⟩ (.int .i64 (f fr - am)) from rfl] at q1 q2 qg
  clear M0 M1 M2 MG c2 c4 n2 f2 e2 b2
  generalize w4.setCell ⟨w.heap.size, fr, none⟩ (.int .i64 (f fr - am)) = w5 at *
  have gd : Grew w5 w5.drew := grew_drewN (grew_refl w5) 1
  have G5 := grew_trans qg gd
  have x0 := q0.grew gd
  have x1 := q1.grew gd
  have x2 := q2.grew gd
  clear q0 q1 q2 qg gd
  generalize w5.drew = w6 at *
  have hF2 : updF f1 fr (f fr - am) tt = f tt := by unfold updF; rw [if_neg (by omega)]; exact hF1 tt (by omega)
  obtain ⟨f2, hf2⟩ : ∃ f2, updF f1 fr (f fr - am) = f2 := ⟨_, rfl⟩
  rw [hf2] at x0 hF2
  have HF2 := Lib.hid hf2
  clear hf2 hF1
  have c3 : w6.cell? ⟨w.heap.size + 1, 3, none⟩ = some (.int .i64 tt) := by simpa using x1.cell 3 _ rfl
  have c4 : w6.cell? ⟨w.heap.size + 1, 4, none⟩ = some (.int .i64 am) := by simpa using x1.cell 4 _ rfl
  have n3 := bk_at x0 tt (by omega)
  have f3 := bk_fr x0 tt (by omega)
  rw [hF2] at n3
  have b3 := HB.out tt (by omega)
  have htt : (tt : Int) < 16 := by omega
  have htt0 : (0 : Int) ≤ tt := by omega
  have e3 : IntKind.i64.wrap (f tt + am) = f tt + am := by rw [IntWalk.i64_in _ (by omega)]
  have M0 := Lib.hid (x0.setB tt (f tt + am) (by omega))
  have K0 := setCells_kp [Value.int .i64 (f tt + am)] w.heap.size tt w6
  have M2 := Lib.hid (x2.kp K0 (by omega))
  have MG := Lib.hid (setCells_grew (o := tt) (b := w.heap.size) [Value.int .i64 (f tt + am)] G5 (Nat.le_refl _))
  clear K0 x0 x1 x2 G5
  go_wp2_with fail
  go_region
  have q0 := M0.out
  have q2 := M2.out
  have qg := MG.out
  rw [show w6.setCells w.heap.size tt [Value.int .i64 (f tt + am)] = w6.setCell ⟨w.heap.size, tt, none⟩ (.int .i64 (f tt + am)) from rfl] at q2 qg
  clear M0 M2 MG c3 c4 n3 f3 e3 b3
  generalize w6.setCell ⟨w.heap.size, tt, none⟩ (.int .i64 (f tt + am)) = w7 at *
  have gd : Grew w7 w7.drew := grew_drewN (grew_refl w7) 1
  have G7 := grew_trans qg gd
  have x0 := q0.grew gd
  have x2 := q2.grew gd
  clear q0 q2 qg gd
  generalize w7.drew = w8 at *
  obtain ⟨f3, hf3⟩ : ∃ f3, updF f2 tt (f tt + am) = f3 := ⟨_, rfl⟩
  rw [hf3] at x0
  have HF3 : Hid (updF (updF (updF f (16 + cl) (f (16 + cl) + 1)) fr (f fr - am)) tt (f tt + am) = f3) := Lib.hid (by rw [HF1.out, HF2.out, hf3])
  clear hf3
  have hm := x0.cell
  have HSF : Hid ((Tryd.prog.info? 27).map (·.size) = some (bkA f3).size) := Lib.hid bk_info
  have HOF : Hid ((bkA f3).all (·.oneCell') = true) := Lib.hid (bkL_one _)
  have HLF : Hid ((Tryd.prog.info? 27).map (·.size) = some (bkL f3).length) := Lib.hid bk_info
  have HTH : Hid (w8.there (w.heap.size + 1 + 1) 0 (bkA f3).size) := Lib.hid (x2.thereN 32 rfl)
  have z9 := Ag.set (vs := bkL f3) x2 rfl
  have g9 := setCells_grew (o := 0) (b := w.heap.size + 1 + 1) (bkL f3) G7 (by omega)
  go_wp2_with (first
    | (with_reducible refine wpList_load_mid rfl 27 (.tmp 2) rfl w.heap.size 0 rfl (bkL f3) _ hm hub rfl HLF.out ?_)
    | (with_reducible refine wpList_store_mid rfl 27 (.tmp 4) (.tmp 59) rfl (w.heap.size + 1 + 1) 0 (bkA f3) rfl rfl HTH.out HSF.out HOF.out ?_))
  exact bodyPost_ret (results_ag2 Tryd.results6 _ _ (w.heap.size + 1 + 1) _ _ _ rfl rfl z9 hub rfl bk_info) rfl ⟨by rw [HF3.out]; rfl, g9⟩
set_option maxRecDepth 100000 in
set_option maxHeartbeats 1000000 in
theorem apply_funds (f : Nat → Int) (cl fr tt : Nat) (no am : Int) (hok : okC ⟨cl, no, fr, tt, am⟩) (ht : no = f (16 + cl)) (hf : f fr < am) (hb : ∀ k, k < 32 → 0 ≤ f k ∧ f k ≤ 4611686018427387904) (w : World) :
    Calls Tryd.prog 6 #[.agg (bkA f), .agg #[.int .i64 cl, .int .i64 no, .int .i64 fr, .int .i64 tt, .int .i64 am]] w fun e w' => e = .returned (.tuple #[.agg (bkA (updF f (16 + cl) (f (16 + cl) + 1))), .int .i64 17]) ∧ Grew w w' := by
  have HOK := Lib.hid hok
  obtain ⟨k0, k1, k2, k3, k4, k5, k6, k7, k8, k9, k10⟩ := hok
  dsimp only at k0 k1 k2 k3 k4 k5 k6 k7 k8 k9 k10
  have e10 : (no != f (16 + cl)) = false := by simp [ht]
  have e17 : decide (f fr < am) = true := by simpa using hf
  clear ht hf
  have hub := Tryd.underlying27
  have huc := Tryd.underlying34
  have z0 := ((Ag.new w 27 (bkA f)).grew (grew_alloc (grew_refl _) (.cells #[.int .i64 cl, .int .i64 no, .int .i64 fr, .int .i64 tt, .int .i64 am] 34))).grew (grew_alloc (grew_refl _) (.cells (#[.int .i64 0, .int .i64 0, .int .i64 0, .int .i64 0, .int .i64 0, .int .i64 0, .int .i64 0, .int .i64 0, .int .i64 0, .int .i64 0, .int .i64 0, .int .i64 0, .int .i64 0, .int .i64 0, .int .i64 0, .int .i64 0, .int .i64 0, .int .i64 0, .int .i64 0, .int .i64 0, .int .i64 0, .int .i64 0, .int .i64 0, .int .i64 0, .int .i64 0, .int .i64 0, .int .i64 0, .int .i64 0, .int .i64 0, .int .i64 0, .int .i64 0, .int .i64 0]) 27))
  have z1 := (Ag.new (w.alloc (.cells (bkA f) 27)) 34 #[.int .i64 cl, .int .i64 no, .int .i64 fr, .int .i64 tt, .int .i64 am]).grew (grew_alloc (grew_refl _) (.cells (#[.int .i64 0, .int .i64 0, .int .i64 0, .int .i64 0, .int .i64 0, .int .i64 0, .int .i64 0, .int .i64 0, .int .i64 0, .int .i64 0, .int .i64 0, .int .i64 0, .int .i64 0, .int .i64 0, .int .i64 0, .int .i64 0, .int .i64 0, .int .i64 0, .int .i64 0, .int .i64 0, .int .i64 0, .int .i64 0, .int .i64 0, .int .i64 0, .int .i64 0, .int .i64 0, .int .i64 0, .int .i64 0, .int .i64 0, .int .i64 0, .int .i64 0, .int .i64 0]) 27))
  have z2 := Ag.new ((w.alloc (.cells (bkA f) 27)).alloc (.cells #[.int .i64 cl, .int .i64 no, .int .i64 fr, .int .i64 tt, .int .i64 am] 34)) 27 (#[.int .i64 0, .int .i64 0, .int .i64 0, .int .i64 0, .int .i64 0, .int .i64 0, .int .i64 0, .int .i64 0, .int .i64 0, .int .i64 0, .int .i64 0, .int .i64 0, .int .i64 0, .int .i64 0, .int .i64 0, .int .i64 0, .int .i64 0, .int .i64 0, .int .i64 0, .int .i64 0, .int .i64 0, .int .i64 0, .int .i64 0, .int .i64 0, .int .i64 0, .int .i64 0, .int .i64 0, .int .i64 0, .int .i64 0, .int .i64 0, .int .i64 0, .int .i64 0])
  rw [alloc_size] at z1 z2
  rw [alloc_size] at z2
  have g0 := grew_alloc (grew_alloc (grew_alloc (grew_refl w) (.cells (bkA f) 27)) (.cells #[.int .i64 cl, .int .i64 no, .int .i64 fr, .int .i64 tt, .int .i64 am] 34)) (.cells (#[.int .i64 0, .int .i64 0, .int .i64 0, .int .i64 0, .int .i64 0, .int .i64 0, .int .i64 0, .int .i64 0, .int .i64 0, .int .i64 0, .int .i64 0, .int .i64 0, .int .i64 0, .int .i64 0, .int .i64 0, .int .i64 0, .int .i64 0, .int .i64 0, .int .i64 0, .int .i64 0, .int .i64 0, .int .i64 0, .int .i64 0, .int .i64 0, .int .i64 0, .int .i64 0, .int .i64 0, .int .i64 0, .int .i64 0, .int .i64 0, .int .i64 0, .int .i64 0]) 27)
  have HCL : Hid ((Tryd.prog.info? 34).map (·.size) = some (#[.int .i64 cl, .int .i64 no, .int .i64 fr, .int .i64 tt, .int .i64 am] : Array Value).toList.length) := Lib.hid (by kernel_rfl)
  have CK := Lib.hid (fun W => check_any ⟨cl, no, fr, tt, am⟩ W)
  unfold Cm.v at CK
  dsimp only at CK
  rw [chkC_ok HOK.out] at CK
  go_enter Tryd.func6, Tryd.ntmps6
  generalize hW : (((w.alloc (.cells (bkA f) 27)).alloc (.cells #[.int .i64 cl, .int .i64 no, .int .i64 fr, .int .i64 tt, .int .i64 am] 34)).alloc (.cells (#[.int .i64 0, .int .i64 0, .int .i64 0, .int .i64 0, .int .i64 0, .int .i64 0, .int .i64 0, .int .i64 0, .int .i64 0, .int .i64 0, .int .i64 0, .int .i64 0, .int .i64 0, .int .i64 0, .int .i64 0, .int .i64 0, .int .i64 0, .int .i64 0, .int .i64 0, .int .i64 0, .int .i64 0, .int .i64 0, .int .i64 0, .int .i64 0, .int .i64 0, .int .i64 0, .int .i64 0, .int .i64 0, .int .i64 0, .int .i64 0, .int .i64 0, .int .i64 0]) 27)) = W at *
  have hm1 : ∀ W', W = W' → W'.rangeAt (w.heap.size + 1) 0 (#[.int .i64 cl, .int .i64 no, .int .i64 fr, .int .i64 tt, .int .i64 am] : Array Value).toList := fun W' h => h ▸ z1.cell
  have hm := z1.cell
  clear hm1
  go_wp2_with (with_reducible refine wpList_load_mid rfl 34 (.tmp 3) rfl (w.heap.size + 1) 0 rfl (#[.int .i64 cl, .int .i64 no, .int .i64 fr, .int .i64 tt, .int .i64 am] : Array Value).toList _ hm huc rfl HCL.out ?_)
  refine CK.out _ |>.mono ?_
  rintro e w1 ⟨rfl, gg⟩
  have G1 := grew_trans g0 gg
  have y0 := z0.grew gg
  have y1 := z1.grew gg
  have y2 := z2.grew gg
  clear z0 z1 z2 g0 gg CK hW
  have c0 : w1.cell? ⟨w.heap.size + 1, 0, none⟩ = some (.int .i64 cl) := by simpa using y1.cell 0 _ rfl
  have c1 : w1.cell? ⟨w.heap.size + 1, 1, none⟩ = some (.int .i64 no) := by simpa using y1.cell 1 _ rfl
  have n0 := bk_at y0 (16 + cl) (by omega)
  go_wp2_with fail
  go_quiet (fail)
  have gd := grew_drewN (grew_refl w1) nq
  have G2 := grew_trans G1 gd
  have x0 := y0.grew gd
  have x1 := y1.grew gd
  have x2 := y2.grew gd
  clear c0 c1 n0 y0 y1 y2 G1 gd
  generalize w1.drewN nq = w2 at *
  have HB := Lib.hid hb
  have hn1 := hb (16 + cl) (by omega)
  clear hb
  have c0 : w2.cell? ⟨w.heap.size + 1, 0, none⟩ = some (.int .i64 cl) := by simpa using x1.cell 0 _ rfl
  have n0 := bk_at x0 (16 + cl) (by omega)
  have f0 := bk_fr x0 (16 + cl) (by omega)
  have hk1 : (cl : Int) < 16 := by omega
  have e1 : IntKind.i64.wrap (f (16 + cl) + 1) = f (16 + cl) + 1 := by rw [IntWalk.i64_in _ (by omega)]
  have M0 := Lib.hid (x0.setB (16 + cl) (f (16 + cl) + 1) (by omega))
  have K0 := setCells_kp [Value.int .i64 (f (16 + cl) + 1)] w.heap.size (16 + cl) w2
  have M1 := Lib.hid (x1.kp K0 (by omega))
  have M2 := Lib.hid (x2.kp K0 (by omega))
  have MG := Lib.hid (setCells_grew (o := 16 + cl) (b := w.heap.size) [Value.int .i64 (f (16 + cl) + 1)] G2 (Nat.le_refl _))
  clear K0 x0 x1 x2 G2
  go_wp2_with fail
  have hF1 : ∀ k, k < 16 → updF f (16 + cl) (f (16 + cl) + 1) k = f k := fun k hk => by unfold updF; rw [if_neg (by omega)]
  have q0 := M0.out
  have q1 := M1.out
  have q2 := M2.out
  have qg := MG.out
  rw [show w2.setCells w.heap.size (16 + cl) [Value.int .i64 (f (16 + cl) + 1)] = w2.setCell ⟨w.heap.size, 16 + cl, none⟩ (.int .i64 (f (16 + cl) + 1)) from rfl] at q1 q2 qg
  clear M0 M1 M2 MG c0 n0 f0 e1 hn1
  generalize w2.setCell ⟨w.heap.size, 16 + cl, none⟩ (.int .i64 (f (16 + cl) + 1)) = w3 at *
  obtain ⟨f1, hf1⟩ : ∃ f1, updF f (16 + cl) (f (16 + cl) + 1) = f1 := ⟨_, rfl⟩
  rw [hf1] at q0 hF1
  have HF1 := Lib.hid hf1
  clear hf1
  have c2 : w3.cell? ⟨w.heap.size + 1, 2, none⟩ = some (.int .i64 fr) := by simpa using q1.cell 2 _ rfl
  have c4 : w3.cell? ⟨w.heap.size + 1, 4, none⟩ = some (.int .i64 am) := by simpa using q1.cell 4 _ rfl
  have n2 := bk_at q0 fr (by omega)
  rw [hF1 fr (by omega)] at n2
  have hfr : (fr : Int) < 16 := by omega
  have hfr0 : (0 : Int) ≤ fr := by omega
  go_quiet (fail)
  have gd := grew_drewN (grew_refl w3) nq
  have G3 := grew_trans qg gd
  have x0 := q0.grew gd
  have x2 := q2.grew gd
  clear c2 c4 n2 q0 q1 q2 qg gd
  generalize w3.drewN nq = w4 at *
  have hm := x0.cell
  have HSF : Hid ((Tryd.prog.info? 27).map (·.size) = some (bkA f1).size) := Lib.hid bk_info
  have HOF : Hid ((bkA f1).all (·.oneCell') = true) := Lib.hid (bkL_one _)
  have HLF : Hid ((Tryd.prog.info? 27).map (·.size) = some (bkL f1).length) := Lib.hid bk_info
  have HTH : Hid (w4.there (w.heap.size + 1 + 1) 0 (bkA f1).size) := Lib.hid (x2.thereN 32 rfl)
  have z9 := Ag.set (vs := bkL f1) x2 rfl
  have g9 := setCells_grew (o := 0) (b := w.heap.size + 1 + 1) (bkL f1) G3 (by omega)
  go_wp2_with (first
    | (with_reducible refine wpList_load_mid rfl 27 (.tmp 2) rfl w.heap.size 0 rfl (bkL f1) _ hm hub rfl HLF.out ?_)
    | (with_reducible refine wpList_store_mid rfl 27 (.tmp 4) (.tmp 38) rfl (w.heap.size + 1 + 1) 0 (bkA f1) rfl rfl HTH.out HSF.out HOF.out ?_))
  exact bodyPost_ret (results_ag2 Tryd.results6 _ _ (w.heap.size + 1 + 1) _ _ _ rfl rfl z9 hub rfl bk_info) rfl ⟨by rw [HF1.out]; rfl, g9⟩
set_option maxRecDepth 100000 in
set_option maxHeartbeats 1000000 in
theorem apply_turn (f : Nat → Int) (cl fr tt : Nat) (no am : Int) (hok : okC ⟨cl, no, fr, tt, am⟩) (ht : no ≠ f (16 + cl)) (hb : ∀ k, k < 32 → 0 ≤ f k ∧ f k ≤ 4611686018427387904) (w : World) :
    Calls Tryd.prog 6 #[.agg (bkA f), .agg #[.int .i64 cl, .int .i64 no, .int .i64 fr, .int .i64 tt, .int .i64 am]] w fun e w' => e = .returned (.tuple #[.agg (bkA f), .int .i64 10]) ∧ Grew w w' := by
  have HOK := Lib.hid hok
  obtain ⟨k0, k1, k2, k3, k4, k5, k6, k7, k8, k9, k10⟩ := hok
  dsimp only at k0 k1 k2 k3 k4 k5 k6 k7 k8 k9 k10
  have e10 : (no != f (16 + cl)) = true := by simpa using ht
  clear ht
  have hub := Tryd.underlying27
  have huc := Tryd.underlying34
  have z0 := ((Ag.new w 27 (bkA f)).grew (grew_alloc (grew_refl _) (.cells #[.int .i64 cl, .int .i64 no, .int .i64 fr, .int .i64 tt, .int .i64 am] 34))).grew (grew_alloc (grew_refl _) (.cells (#[.int .i64 0, .int .i64 0, .int .i64 0, .int .i64 0, .int .i64 0, .int .i64 0, .int .i64 0, .int .i64 0, .int .i64 0, .int .i64 0, .int .i64 0, .int .i64 0, .int .i64 0, .int .i64 0, .int .i64 0, .int .i64 0, .int .i64 0, .int .i64 0, .int .i64 0, .int .i64 0, .int .i64 0, .int .i64 0, .int .i64 0, .int .i64 0, .int .i64 0, .int .i64 0, .int .i64 0, .int .i64 0, .int .i64 0, .int .i64 0, .int .i64 0, .int .i64 0]) 27))
  have z1 := (Ag.new (w.alloc (.cells (bkA f) 27)) 34 #[.int .i64 cl, .int .i64 no, .int .i64 fr, .int .i64 tt, .int .i64 am]).grew (grew_alloc (grew_refl _) (.cells (#[.int .i64 0, .int .i64 0, .int .i64 0, .int .i64 0, .int .i64 0, .int .i64 0, .int .i64 0, .int .i64 0, .int .i64 0, .int .i64 0, .int .i64 0, .int .i64 0, .int .i64 0, .int .i64 0, .int .i64 0, .int .i64 0, .int .i64 0, .int .i64 0, .int .i64 0, .int .i64 0, .int .i64 0, .int .i64 0, .int .i64 0, .int .i64 0, .int .i64 0, .int .i64 0, .int .i64 0, .int .i64 0, .int .i64 0, .int .i64 0, .int .i64 0, .int .i64 0]) 27))
  have z2 := Ag.new ((w.alloc (.cells (bkA f) 27)).alloc (.cells #[.int .i64 cl, .int .i64 no, .int .i64 fr, .int .i64 tt, .int .i64 am] 34)) 27 (#[.int .i64 0, .int .i64 0, .int .i64 0, .int .i64 0, .int .i64 0, .int .i64 0, .int .i64 0, .int .i64 0, .int .i64 0, .int .i64 0, .int .i64 0, .int .i64 0, .int .i64 0, .int .i64 0, .int .i64 0, .int .i64 0, .int .i64 0, .int .i64 0, .int .i64 0, .int .i64 0, .int .i64 0, .int .i64 0, .int .i64 0, .int .i64 0, .int .i64 0, .int .i64 0, .int .i64 0, .int .i64 0, .int .i64 0, .int .i64 0, .int .i64 0, .int .i64 0])
  rw [alloc_size] at z1 z2
  rw [alloc_size] at z2
  have g0 := grew_alloc (grew_alloc (grew_alloc (grew_refl w) (.cells (bkA f) 27)) (.cells #[.int .i64 cl, .int .i64 no, .int .i64 fr, .int .i64 tt, .int .i64 am] 34)) (.cells (#[.int .i64 0, .int .i64 0, .int .i64 0, .int .i64 0, .int .i64 0, .int .i64 0, .int .i64 0, .int .i64 0, .int .i64 0, .int .i64 0, .int .i64 0, .int .i64 0, .int .i64 0, .int .i64 0, .int .i64 0, .int .i64 0, .int .i64 0, .int .i64 0, .int .i64 0, .int .i64 0, .int .i64 0, .int .i64 0, .int .i64 0, .int .i64 0, .int .i64 0, .int .i64 0, .int .i64 0, .int .i64 0, .int .i64 0, .int .i64 0, .int .i64 0, .int .i64 0]) 27)
  have HCL : Hid ((Tryd.prog.info? 34).map (·.size) = some (#[.int .i64 cl, .int .i64 no, .int .i64 fr, .int .i64 tt, .int .i64 am] : Array Value).toList.length) := Lib.hid (by kernel_rfl)
  have CK := Lib.hid (fun W => check_any ⟨cl, no, fr, tt, am⟩ W)
  unfold Cm.v at CK
  dsimp only at CK
  rw [chkC_ok HOK.out] at CK
  go_enter Tryd.func6, Tryd.ntmps6
  generalize hW : (((w.alloc (.cells (bkA f) 27)).alloc (.cells #[.int .i64 cl, .int .i64 no, .int .i64 fr, .int .i64 tt, .int .i64 am] 34)).alloc (.cells (#[.int .i64 0, .int .i64 0, .int .i64 0, .int .i64 0, .int .i64 0, .int .i64 0, .int .i64 0, .int .i64 0, .int .i64 0, .int .i64 0, .int .i64 0, .int .i64 0, .int .i64 0, .int .i64 0, .int .i64 0, .int .i64 0, .int .i64 0, .int .i64 0, .int .i64 0, .int .i64 0, .int .i64 0, .int .i64 0, .int .i64 0, .int .i64 0, .int .i64 0, .int .i64 0, .int .i64 0, .int .i64 0, .int .i64 0, .int .i64 0, .int .i64 0, .int .i64 0]) 27)) = W at *
  have hm1 : ∀ W', W = W' → W'.rangeAt (w.heap.size + 1) 0 (#[.int .i64 cl, .int .i64 no, .int .i64 fr, .int .i64 tt, .int .i64 am] : Array Value).toList := fun W' h => h ▸ z1.cell
  have hm := z1.cell
  clear hm1
  go_wp2_with (with_reducible refine wpList_load_mid rfl 34 (.tmp 3) rfl (w.heap.size + 1) 0 rfl (#[.int .i64 cl, .int .i64 no, .int .i64 fr, .int .i64 tt, .int .i64 am] : Array Value).toList _ hm huc rfl HCL.out ?_)
  refine CK.out _ |>.mono ?_
  rintro e w1 ⟨rfl, gg⟩
  have G1 := grew_trans g0 gg
  have y0 := z0.grew gg
  have y1 := z1.grew gg
  have y2 := z2.grew gg
  clear z0 z1 z2 g0 gg CK hW
  have c0 : w1.cell? ⟨w.heap.size + 1, 0, none⟩ = some (.int .i64 cl) := by simpa using y1.cell 0 _ rfl
  have c1 : w1.cell? ⟨w.heap.size + 1, 1, none⟩ = some (.int .i64 no) := by simpa using y1.cell 1 _ rfl
  have n0 := bk_at y0 (16 + cl) (by omega)
  go_wp2_with fail
  go_quiet (fail)
  have gd := grew_drewN (grew_refl w1) nq
  have G3 := grew_trans G1 gd
  have x0 := y0.grew gd
  have x2 := y2.grew gd
  clear c0 c1 n0 y0 y1 y2 G1 gd
  generalize w1.drewN nq = w4 at *
  have hm : w4.rangeAt w.heap.size 0 (bkL f) := x0.cell
  have HSF : Hid ((Tryd.prog.info? 27).map (·.size) = some (bkA f).size) := Lib.hid bk_info
  have HOF : Hid ((bkA f).all (·.oneCell') = true) := Lib.hid (bkL_one _)
  have HLF : Hid ((Tryd.prog.info? 27).map (·.size) = some (bkL f).length) := Lib.hid bk_info
  have HTH : Hid (w4.there (w.heap.size + 1 + 1) 0 (bkA f).size) := Lib.hid (x2.thereN 32 rfl)
  have z9 := Ag.set (vs := bkL f) x2 rfl
  have g9 := setCells_grew (o := 0) (b := w.heap.size + 1 + 1) (bkL f) G3 (by omega)
  go_wp2_with (first
    | (with_reducible refine wpList_load_mid rfl 27 (.tmp 2) rfl w.heap.size 0 rfl (bkL f) _ hm hub rfl HLF.out ?_)
    | (with_reducible refine wpList_store_mid rfl 27 (.tmp 4) (.tmp 21) rfl (w.heap.size + 1 + 1) 0 (bkA f) rfl rfl HTH.out HSF.out HOF.out ?_))
  exact bodyPost_ret (results_ag2 Tryd.results6 _ _ (w.heap.size + 1 + 1) _ _ _ rfl rfl z9 hub rfl bk_info) rfl ⟨by rfl, g9⟩
set_option maxRecDepth 100000 in
set_option maxHeartbeats 1000000 in
theorem apply_arg (f : Nat → Int) (cl no fr tt am : Int) (hok : ¬ okC ⟨cl, no, fr, tt, am⟩) (w : World) :
    Calls Tryd.prog 6 #[.agg (bkA f), .agg #[.int .i64 cl, .int .i64 no, .int .i64 fr, .int .i64 tt, .int .i64 am]] w fun e w' => e = .returned (.tuple #[.agg (bkA f), .int .i64 1]) ∧ Grew w w' := by
  have hub := Tryd.underlying27
  have huc := Tryd.underlying34
  have z0 := ((Ag.new w 27 (bkA f)).grew (grew_alloc (grew_refl _) (.cells #[.int .i64 cl, .int .i64 no, .int .i64 fr, .int .i64 tt, .int .i64 am] 34))).grew (grew_alloc (grew_refl _) (.cells (#[.int .i64 0, .int .i64 0, .int .i64 0, .int .i64 0, .int .i64 0, .int .i64 0, .int .i64 0, .int .i64 0, .int .i64 0, .int .i64 0, .int .i64 0, .int .i64 0, .int .i64 0, .int .i64 0, .int .i64 0, .int .i64 0, .int .i64 0, .int .i64 0, .int .i64 0, .int .i64 0, .int .i64 0, .int .i64 0, .int .i64 0, .int .i64 0, .int .i64 0, .int .i64 0, .int .i64 0, .int .i64 0, .int .i64 0, .int .i64 0, .int .i64 0, .int .i64 0]) 27))
  have z1 := (Ag.new (w.alloc (.cells (bkA f) 27)) 34 #[.int .i64 cl, .int .i64 no, .int .i64 fr, .int .i64 tt, .int .i64 am]).grew (grew_alloc (grew_refl _) (.cells (#[.int .i64 0, .int .i64 0, .int .i64 0, .int .i64 0, .int .i64 0, .int .i64 0, .int .i64 0, .int .i64 0, .int .i64 0, .int .i64 0, .int .i64 0, .int .i64 0, .int .i64 0, .int .i64 0, .int .i64 0, .int .i64 0, .int .i64 0, .int .i64 0, .int .i64 0, .int .i64 0, .int .i64 0, .int .i64 0, .int .i64 0, .int .i64 0, .int .i64 0, .int .i64 0, .int .i64 0, .int .i64 0, .int .i64 0, .int .i64 0, .int .i64 0, .int .i64 0]) 27))
  have z2 := Ag.new ((w.alloc (.cells (bkA f) 27)).alloc (.cells #[.int .i64 cl, .int .i64 no, .int .i64 fr, .int .i64 tt, .int .i64 am] 34)) 27 (#[.int .i64 0, .int .i64 0, .int .i64 0, .int .i64 0, .int .i64 0, .int .i64 0, .int .i64 0, .int .i64 0, .int .i64 0, .int .i64 0, .int .i64 0, .int .i64 0, .int .i64 0, .int .i64 0, .int .i64 0, .int .i64 0, .int .i64 0, .int .i64 0, .int .i64 0, .int .i64 0, .int .i64 0, .int .i64 0, .int .i64 0, .int .i64 0, .int .i64 0, .int .i64 0, .int .i64 0, .int .i64 0, .int .i64 0, .int .i64 0, .int .i64 0, .int .i64 0])
  rw [alloc_size] at z1 z2
  rw [alloc_size] at z2
  have g0 := grew_alloc (grew_alloc (grew_alloc (grew_refl w) (.cells (bkA f) 27)) (.cells #[.int .i64 cl, .int .i64 no, .int .i64 fr, .int .i64 tt, .int .i64 am] 34)) (.cells (#[.int .i64 0, .int .i64 0, .int .i64 0, .int .i64 0, .int .i64 0, .int .i64 0, .int .i64 0, .int .i64 0, .int .i64 0, .int .i64 0, .int .i64 0, .int .i64 0, .int .i64 0, .int .i64 0, .int .i64 0, .int .i64 0, .int .i64 0, .int .i64 0, .int .i64 0, .int .i64 0, .int .i64 0, .int .i64 0, .int .i64 0, .int .i64 0, .int .i64 0, .int .i64 0, .int .i64 0, .int .i64 0, .int .i64 0, .int .i64 0, .int .i64 0, .int .i64 0]) 27)
  have HCL : Hid ((Tryd.prog.info? 34).map (·.size) = some (#[.int .i64 cl, .int .i64 no, .int .i64 fr, .int .i64 tt, .int .i64 am] : Array Value).toList.length) := Lib.hid (by kernel_rfl)
  have CK := Lib.hid (fun W => check_any ⟨cl, no, fr, tt, am⟩ W)
  unfold Cm.v at CK
  dsimp only at CK
  rw [chkC_no hok] at CK
  go_enter Tryd.func6, Tryd.ntmps6
  generalize hW : (((w.alloc (.cells (bkA f) 27)).alloc (.cells #[.int .i64 cl, .int .i64 no, .int .i64 fr, .int .i64 tt, .int .i64 am] 34)).alloc (.cells (#[.int .i64 0, .int .i64 0, .int .i64 0, .int .i64 0, .int .i64 0, .int .i64 0, .int .i64 0, .int .i64 0, .int .i64 0, .int .i64 0, .int .i64 0, .int .i64 0, .int .i64 0, .int .i64 0, .int .i64 0, .int .i64 0, .int .i64 0, .int .i64 0, .int .i64 0, .int .i64 0, .int .i64 0, .int .i64 0, .int .i64 0, .int .i64 0, .int .i64 0, .int .i64 0, .int .i64 0, .int .i64 0, .int .i64 0, .int .i64 0, .int .i64 0, .int .i64 0]) 27)) = W at *
  have hm1 : ∀ W', W = W' → W'.rangeAt (w.heap.size + 1) 0 (#[.int .i64 cl, .int .i64 no, .int .i64 fr, .int .i64 tt, .int .i64 am] : Array Value).toList := fun W' h => h ▸ z1.cell
  have hm := z1.cell
  clear hm1
  go_wp2_with (with_reducible refine wpList_load_mid rfl 34 (.tmp 3) rfl (w.heap.size + 1) 0 rfl (#[.int .i64 cl, .int .i64 no, .int .i64 fr, .int .i64 tt, .int .i64 am] : Array Value).toList _ hm huc rfl HCL.out ?_)
  refine CK.out _ |>.mono ?_
  rintro e w1 ⟨rfl, gg⟩
  have G1 := grew_trans g0 gg
  have y0 := z0.grew gg
  have y2 := z2.grew gg
  clear z0 z1 z2 g0 gg CK hW
  have G3 := G1
  have x0 := y0
  have x2 := y2
  clear y0 y2 G1
  generalize w1 = w4 at *
  have hm : w4.rangeAt w.heap.size 0 (bkL f) := x0.cell
  have HSF : Hid ((Tryd.prog.info? 27).map (·.size) = some (bkA f).size) := Lib.hid bk_info
  have HOF : Hid ((bkA f).all (·.oneCell') = true) := Lib.hid (bkL_one _)
  have HLF : Hid ((Tryd.prog.info? 27).map (·.size) = some (bkL f).length) := Lib.hid bk_info
  have HTH : Hid (w4.there (w.heap.size + 1 + 1) 0 (bkA f).size) := Lib.hid (x2.thereN 32 rfl)
  have z9 := Ag.set (vs := bkL f) x2 rfl
  have g9 := setCells_grew (o := 0) (b := w.heap.size + 1 + 1) (bkL f) G3 (by omega)
  go_wp2_with (first
    | (with_reducible refine wpList_load_mid rfl 27 (.tmp 2) rfl w.heap.size 0 rfl (bkL f) _ hm hub rfl HLF.out ?_)
    | (with_reducible refine wpList_store_mid rfl 27 (.tmp 4) (.tmp 11) rfl (w.heap.size + 1 + 1) 0 (bkA f) rfl rfl HTH.out HSF.out HOF.out ?_))
  exact bodyPost_ret (results_ag2 Tryd.results6 _ _ (w.heap.size + 1 + 1) _ _ _ rfl rfl z9 hub rfl bk_info) rfl ⟨by rfl, g9⟩
end Go.Proofs.YtoehfbfnijedfaaDoor
