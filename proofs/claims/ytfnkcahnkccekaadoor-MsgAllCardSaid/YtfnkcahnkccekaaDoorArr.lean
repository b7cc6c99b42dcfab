/- Rows of cells that a loop fills; whole rows loaded and stored. -/
import Derived.Test.YtfnkcahnkccekaaDoorMem
import Derived.Deep.WholeRow
namespace Go.Proofs.YtfnkcahnkccekaaDoor
open Go.RowKit

/-- a row of n cells, the first k of them filled by f, the others z -/
def rowF (n : Nat) (f : Nat → Value) (z : Value) (k : Nat) : Array Value := ((List.range n).map fun j => if j < k then f j else z).toArray
theorem rowF_size (n : Nat) (f : Nat → Value) (z : Value) (k : Nat) : (rowF n f z k).size = n := by simp [rowF]
theorem rowF_get (n : Nat) (f : Nat → Value) (z : Value) (k i : Nat) (h : i < (rowF n f z k).size) : (rowF n f z k)[i] = if i < k then f i else z := by
  simp [rowF]
theorem rowF_at (n : Nat) (f : Nat → Value) (z : Value) (k : Nat) (h : k < n) : (rowF n f z k)[k]? = some z := by
  rw [Array.getElem?_eq_getElem (by rw [rowF_size]; exact h), rowF_get, if_neg (by omega)]
theorem rowF_done (n : Nat) (f : Nat → Value) (z : Value) (k i : Nat) (h : i < n) (hk : i < k) : (rowF n f z k)[i]? = some (f i) := by
  rw [Array.getElem?_eq_getElem (by rw [rowF_size]; exact h), rowF_get, if_pos hk]
theorem rowF_set (n : Nat) (f : Nat → Value) (z : Value) (k : Nat) (_h : k < n) : (rowF n f z k).setIfInBounds k (f k) = rowF n f z (k + 1) := by
  apply Array.ext
  · rw [Array.size_setIfInBounds, rowF_size, rowF_size]
  · intro i h1 h2
    have hi : i < n := by rw [rowF_size] at h2; exact h2
    rw [Array.getElem_setIfInBounds, rowF_get, rowF_get]
    by_cases hk : k = i
    · rw [if_pos hk, if_pos (by omega), hk]
    · rw [if_neg hk]
      by_cases hik : i < k
      · rw [if_pos hik, if_pos (by omega)]
      · rw [if_neg hik, if_neg (by omega)]
    · rw [rowF_size]; exact hi
theorem rowF_full (n : Nat) (f : Nat → Value) (z : Value) : rowF n f z n = ((List.range n).map f).toArray := by
  unfold rowF
  congr 1
  apply List.map_congr_left
  intro j hj
  rw [if_pos (List.mem_range.1 hj)]
theorem rowF_zero (n : Nat) (f : Nat → Value) (z : Value) : rowF n f z 0 = (List.replicate n z).toArray := by
  unfold rowF
  congr 1
  apply List.ext_getElem
  · simp
  · intro i h1 h2; simp
theorem rowF_one (n : Nat) (f : Nat → Value) (z : Value) (k : Nat) (hf : ∀ j, (f j).oneCell' = true) (hz : z.oneCell' = true) : (rowF n f z k).all (·.oneCell') = true := by
  refine Array.all_eq_true_iff_forall_mem.2 fun v hv => ?_
  obtain ⟨j, hj, rfl⟩ := List.mem_map.1 (show v ∈ (List.range n).map (fun j => if j < k then f j else z) by simpa [rowF] using hv)
  split
  · exact hf j
  · exact hz
theorem map_one (l : List Nat) (f : Nat → Value) (hf : ∀ j, (f j).oneCell' = true) : ((l.map f).toArray).all (·.oneCell') = true := by
  refine Array.all_eq_true_iff_forall_mem.2 fun v hv => ?_
  obtain ⟨j, _, rfl⟩ := List.mem_map.1 (show v ∈ l.map f by simpa using hv)
  exact hf j
section
variable {P : Program}
/-- a whole row out of a block, as the walk meets it -/
theorem run_loadAt_row (w : World) (g : Nat) (t ty : TypeId) (cs : Array Value) (fr : Nat × Nat) (d : TypeDesc) (hg : w.heap[g]? = some (.cells cs t fr))
    (hu : P.underlying ty = some d) (hd : (match d with | .struct _ | .array _ _ => true | _ => false) = true) (hi : (P.info? ty).map (·.size) = some cs.size) :
    (Instr.loadAt ty (.pointer (some ⟨g, 0, none⟩))).run P w = .ok (.agg cs) w := by
  simp only [Instr.loadAt, Instr.sureAddr, Sem.run_bind, Sem.run_pure, Result.andThen]
  exact run_loadVar_row w g t ty cs fr d hg hu hd hi
/-- a whole row into a block, as the walk meets it -/
theorem run_storeAt_row (w : World) (g : Nat) (t ty : TypeId) (old cells : Array Value) (hg : w.heap[g]? = some (.cells old t (0, 0))) (hi : (P.info? ty).map (·.size) = some cells.size)
    (ho : old.size = cells.size) (h1 : cells.all (·.oneCell') = true) :
    (Instr.storeAt ty (.pointer (some ⟨g, 0, none⟩)) (.agg cells)).run P w = .ok () (w.setRow g cells) := by
  simp only [Instr.storeAt, Instr.sureAddr, Sem.run_bind, Sem.run_pure, Result.andThen]
  exact run_storeVar_row w g t ty old cells hg hi ho h1
theorem below_setRow {B : Nat} {a w : World} (h : Below B a w) {g : Nat} (hg : B ≤ g) (cs : Array Value) : Below B a (w.setRow g cs) :=
  h.trans ⟨rfl, rfl, rfl, by simp, fun k hk => setRow_other w g k cs (by omega)⟩
end
/-- block g holds just the cells cs, of element type t, none frozen -/
def Bk (w : World) (g : Nat) (t : TypeId) (cs : Array Value) : Prop := w.heap[g]? = some (.cells cs t (0, 0))
theorem Bk.lt {w : World} {g : Nat} {t : TypeId} {cs : Array Value} (h : Bk w g t cs) : g < w.heap.size := by
  rcases Nat.lt_or_ge g w.heap.size with hlt | hge
  · exact hlt
  · unfold Bk at h; rw [Array.getElem?_eq_none hge] at h; cases h
theorem Bk.cell {w : World} {g : Nat} {t : TypeId} {cs : Array Value} (h : Bk w g t cs) (i : Nat) : w.cell? ⟨g, i, none⟩ = cs[i]? := cell_of_row w g i cs t (0, 0) h
theorem Bk.frozen {w : World} {g : Nat} {t : TypeId} {cs : Array Value} (h : Bk w g t cs) (i : Nat) : w.frozen? ⟨g, i, none⟩ = false := frozen_of_row w g i cs t h
theorem Bk.new (w : World) (t : TypeId) (cs : Array Value) : Bk (w.alloc (.cells cs t)) w.heap.size t cs := heap_alloc_new w _
theorem Bk.alloc {w : World} {g : Nat} {t : TypeId} {cs : Array Value} (h : Bk w g t cs) (o : Obj) : Bk (w.alloc o) g t cs := (Below.heap_alloc w o g h.lt).trans h
theorem Bk.drew {w : World} {g : Nat} {t : TypeId} {cs : Array Value} (h : Bk w g t cs) : Bk w.drew g t cs := h
theorem Bk.set_ {w : World} {g : Nat} {t : TypeId} {cs : Array Value} (h : Bk w g t cs) (i : Nat) (u : Value) : Bk (w.setCell ⟨g, i, none⟩ u) g t (cs.setIfInBounds i u) := heap_setCell_same w g i cs t u h
theorem Bk.far {w : World} {g : Nat} {t : TypeId} {cs : Array Value} (h : Bk w g t cs) {p : Addr} (hp : g ≠ p.block) (u : Value) : Bk (w.setCell p u) g t cs := (heap_setCell_other w p g u hp).trans h
theorem Bk.below {w w' : World} {g B : Nat} {t : TypeId} {cs : Array Value} (h : Bk w g t cs) (hb : Below B w w') (hg : g < B) : Bk w' g t cs := (hb.block g hg).trans h
theorem Bk.grew {w w' : World} {g : Nat} {t : TypeId} {cs : Array Value} (h : Bk w g t cs) (hb : Grew w w') : Bk w' g t cs := h.below hb h.lt
theorem Bk.row {w : World} {g : Nat} {t : TypeId} {cs : Array Value} (h : Bk w g t cs) (cs' : Array Value) : Bk (w.setRow g cs') g t cs' := setRow_heap _ _ _ _ _ _ h
theorem Bk.rowFar {w : World} {g : Nat} {t : TypeId} {cs : Array Value} (h : Bk w g t cs) {g' : Nat} (hg : g ≠ g') (cs' : Array Value) : Bk (w.setRow g' cs') g t cs := (setRow_other w g' g cs' hg).trans h
set_option maxRecDepth 100000 in
/-- 'a[i]' of an array by value, i in its bounds, elements of one cell -/
theorem run_index_arr {P : Program} (t e : TypeId) (n : Nat) (i : TypeInfo) (cs : Array Value) (k : Nat) (u : Value) (h : P.underlying t = some (.array n e)) (hk : k < n)
    (he : ∀ w, (isAgg e).run P w = .ok false w) (hi : P.info? e = some i) (h1 : i.size = 1) (hu : cs[k]? = some u) (w : World) :
    (Instr.index t (.agg cs) (.int .i64 (k : Nat))).run P w = .ok u w := by
  have hin : 0 ≤ (k : Int) ∧ (k : Int) < (n : Int) := by omega
  simp [Instr.index, run_underlying h, asIntOf, hin, part, he, sizeOf, typeInfo, hi, h1, hu, go_sem]
  intro hh
  omega
/-- eighteen digests, as an array's cells -/
def arrU (s : Nat → Nat) : Array Value := ((List.range 18).map fun k => u64V (s k)).toArray
theorem arrU_size (s : Nat → Nat) : (arrU s).size = 18 := by simp [arrU]
theorem arrU_get (s : Nat → Nat) (k : Nat) (h : k < 18) : (arrU s)[k]? = some (.int .u64 (s k : Nat)) := by
  rw [Array.getElem?_eq_getElem (by rw [arrU_size]; exact h)]
  simp [arrU, u64V]
theorem arrU_one (s : Nat → Nat) : (arrU s).all (·.oneCell') = true := map_one _ _ (fun _ => rfl)
/-- the first k done, the others as they were -/
def mixRow (s f : Nat → Nat) (k : Nat) : Array Value := arrU (fun j => if j < k then f j else s j)
theorem mixRow_zero (s f : Nat → Nat) : mixRow s f 0 = arrU s := by
  unfold mixRow; congr 1
theorem arrU_congr (f g : Nat → Nat) (h : ∀ k, k < 18 → f k = g k) : arrU f = arrU g := by
  unfold arrU
  congr 1
  apply List.map_congr_left
  intro j hj
  rw [h j (List.mem_range.1 hj)]
theorem mixRow_full (s f : Nat → Nat) : mixRow s f 18 = arrU f := arrU_congr _ _ (fun k hk => if_pos hk)
theorem mixRow_size (s f : Nat → Nat) (k : Nat) : (mixRow s f k).size = 18 := arrU_size _
theorem mixRow_at (s f : Nat → Nat) (k : Nat) (h : k < 18) : (mixRow s f k)[k]? = some (.int .u64 (s k : Nat)) := by
  unfold mixRow
  rw [arrU_get _ k h, if_neg (by omega)]
theorem mixRow_get (s f : Nat → Nat) (k i : Nat) (h : i < (mixRow s f k).size) : (mixRow s f k)[i] = .int .u64 ((if i < k then f i else s i : Nat) : Int) := by
  simp [mixRow, arrU, u64V]
theorem mixRow_set (s f : Nat → Nat) (k : Nat) (_h : k < 18) : (mixRow s f k).setIfInBounds k (.int .u64 (f k : Nat)) = mixRow s f (k + 1) := by
  apply Array.ext
  · rw [Array.size_setIfInBounds, mixRow_size, mixRow_size]
  · intro i h1 h2
    have hi : i < 18 := by rw [mixRow_size] at h2; exact h2
    rw [Array.getElem_setIfInBounds, mixRow_get, mixRow_get]
    by_cases hk : k = i
    · rw [if_pos hk, if_pos (by omega), hk]
    · rw [if_neg hk]
      by_cases hik : i < k
      · rw [if_pos hik, if_pos (by omega)]
      · rw [if_neg hik, if_neg (by omega)]
    · rw [mixRow_size]; exact hi
end Go.Proofs.YtfnkcahnkccekaaDoor
