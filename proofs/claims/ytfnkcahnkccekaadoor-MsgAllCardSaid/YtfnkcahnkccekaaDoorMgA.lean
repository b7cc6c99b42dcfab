/- Rows of structs and structs in blocks, for seats without signatures: generic words. -/
import Derived.Laws.MakeOwn
import Derived.Great.BuildSlice
import Derived.Deep.Cut
import Derived.BigFrame
import Derived.Lib.SliceRun
import Derived.Test.YtfnkcahnkccekaaDoorAg
namespace Go.Proofs.YtfnkcahnkccekaaDoor
open Go.RowKit
set_option linter.unusedVariables false
theorem mgflat_get {z : Nat} : ∀ (L : List (List Value)), (∀ l ∈ L, l.length = z) → ∀ k j (hk : k < L.length), j < z → L.flatten[k * z + j]? = L[k][j]?
  | [], _, k, _, hk, _ => absurd hk (by simp)
  | l :: r, h, 0, j, _, hj => by
    have hl := h l (by simp)
    simp only [List.flatten_cons, Nat.zero_mul, Nat.zero_add, List.getElem_cons_zero]
    exact List.getElem?_append_left (by omega)
  | l :: r, h, k + 1, j, hk, hj => by
    have hl := h l (by simp)
    have e : (k + 1) * z + j = l.length + (k * z + j) := by rw [hl, Nat.add_mul]; omega
    rw [List.flatten_cons, e, List.getElem?_append_right (by omega), Nat.add_sub_cancel_left]
    simpa using mgflat_get r (fun x hx => h x (by simp [hx])) k j (by simpa using hk) hj
/-- the slice's elements, each a row of z cells, from the block's first cell on -/
def RdM (w : World) (A : Option Addr) (z : Nat) (L : List (List Value)) : Prop := ∀ k (h : k < L.length), ∃ q, A = some ⟨q, 0, none⟩ ∧ q < w.heap.size ∧ w.rangeAt q (k * z) L[k]
theorem RdM.nil (w : World) (A : Option Addr) (z : Nat) : RdM w A z [] := fun k h => absurd h (by simp)
theorem RdM.gr {w w' : World} {A : Option Addr} {z : Nat} {L : List (List Value)} (h : RdM w A z L) (k : Grew w w') : RdM w' A z L := fun i hi => by
  obtain ⟨q, e, hq, hr⟩ := h i hi
  exact ⟨q, e, Nat.lt_of_lt_of_le hq k.size, fun j v hj => by
    rw [← hr j v hj]
    exact World.cell?_of_block (k.block q hq)⟩
theorem own_rdM {w : World} {base n z : Nat} {e : TypeId} {v : Value} {L : List (List Value)} (h : w.ownsRow base e z v n L.flatten) (hz : ∀ l ∈ L, l.length = z) (hz0 : 0 < z) (hn : L.length = n) :
    ∃ A c, v = .slice A n c ∧ RdM w A z L ∧ n ≤ c ∧ c ≤ maxLen := by
  rcases h.2 with ⟨rfl, h0⟩ | ⟨g, cap, cur, rfl, hb, hh, h1, h2, h3, h4⟩
  · subst h0
    obtain rfl := List.eq_nil_of_length_eq_zero hn
    exact ⟨none, 0, rfl, RdM.nil _ _ _, Nat.le_refl _, Nat.zero_le _⟩
  · have hlt : g < w.heap.size := (Array.getElem?_eq_some_iff.1 hh).1
    refine ⟨some ⟨g, 0, none⟩, cap, rfl, fun k hk => ⟨g, rfl, hlt, fun j u hj => ?_⟩, h1, h2⟩
    have hjz : j < z := by have := (List.getElem?_eq_some_iff.1 hj).1; rw [hz L[k] (List.getElem_mem hk)] at this; exact this
    have hf := mgflat_get L hz k j hk hjz
    rw [hj] at hf
    have := h.cells (g := g) rfl (k * z + j) u hf
    rwa [show (⟨g, 0, none⟩ : Addr).add (k * z + j) = ⟨g, k * z + j, none⟩ from by unfold Addr.add; split <;> simp_all] at this
theorem mgput (W : World) (t : TypeId) (z cs : Array Value) (h : cs.size = z.size) : ∃ W', (W.alloc (.cells z t)).setCells W.heap.size 0 cs.toList = W' ∧ (W.alloc (.cells z t)).there W.heap.size 0 cs.size ∧ Grew W W' ∧ Ag W' W.heap.size cs.toList :=
  ⟨_, rfl, by rw [h]; exact (Ag.new W t z).thereN z.size (by simp), setCells_grew (o := 0) (b := W.heap.size) cs.toList (grew_alloc (grew_refl W) _) (Nat.le_refl _), Ag.set (vs := cs.toList) (Ag.new W t z) (by simp [h])⟩
/-- cells in the midst of a struct, laid anew -/
theorem Ag.setMid {w : World} {b : Nat} {cs : List Value} (h : Ag w b cs) (o : Nat) (vs : List Value) (hl : o + vs.length ≤ cs.length) : Ag (w.setCells b o vs) b (cs.take o ++ vs ++ cs.drop (o + vs.length)) := by
  have hn : (cs.take o ++ vs ++ cs.drop (o + vs.length)).length = cs.length := by
    simp only [List.length_append, List.length_take, List.length_drop]; omega
  have ht : w.there b o vs.length := fun i hi => by simpa using h.there (o + i) (by omega)
  have hs := World.rangeAt_setCells_same w b o vs ht
  have hto : (cs.take o).length = o := by rw [List.length_take]; omega
  refine ⟨fun j v hj => ?_, fun j hj => ⟨?_, ?_⟩, Nat.lt_of_lt_of_le h.lt (setCells_kp vs b o w).size⟩
  · by_cases h1 : j < o
    · rw [List.append_assoc, List.getElem?_append_left (by omega)] at hj
      rw [List.getElem?_take_of_lt h1] at hj
      rw [World.cell?_setCells_out b vs o w _ (fun _ _ => .inl (by simpa using h1))]
      exact h.cell j v hj
    · by_cases h2 : j < o + vs.length
      · rw [List.append_assoc, List.getElem?_append_right (by omega), List.getElem?_append_left (by omega), hto] at hj
        have := hs (j - o) v hj
        rwa [show o + (j - o) = 0 + j by omega] at this
      · rw [List.getElem?_append_right (by simp only [List.length_append]; omega)] at hj
        rw [World.cell?_setCells_out b vs o w _ (fun _ _ => .inr (by simp; omega))]
        refine h.cell j v ?_
        rw [List.getElem?_drop] at hj
        rwa [show o + vs.length + (j - (cs.take o ++ vs).length) = j by simp only [List.length_append, hto]; omega] at hj
  · exact World.isSome_setCells b vs o w _ (h.there j (by omega)).1
  · rw [World.frozen?_setCells]; exact (h.there j (by omega)).2
theorem Ag.mid {w : World} {b : Nat} {cs : List Value} (h : Ag w b cs) (o n : Nat) : w.rangeAt b o ((cs.drop o).take n) := fun j v hj => by
  have h1 : j < n := by have := (List.getElem?_eq_some_iff.1 hj).1; rw [List.length_take] at this; omega
  rw [List.getElem?_take_of_lt h1, List.getElem?_drop] at hj
  have := h.cell (o + j) v hj
  rwa [show 0 + (o + j) = o + j by omega] at this
theorem Ag.thereMid {w : World} {b : Nat} {cs : List Value} (h : Ag w b cs) (o n : Nat) (hn : o + n ≤ cs.length) : w.there b o n := fun i hi => by
  have := h.there (o + i) (by omega)
  rwa [show 0 + (o + i) = o + i by omega] at this
theorem results_mg {P : Program} {fn : Func} {p : Tmp} {ty : TypeId} (h : fn.results = #[.cell p ty]) (tmps : Array Value) (w : World) (b : Nat) (cs : List Value) (d : TypeDesc)
    (hp : tmps.getD p undef = .pointer (some ⟨b, 0, none⟩)) (hz : Ag w b cs) (hu : P.underlying ty = some d) (hd : d.isRow = true) (hi : (P.info? ty).map (·.size) = some cs.length) :
    (results fn tmps).run P w = .ok (.agg cs.toArray) w := by
  have hp' : tmps[p]?.getD undef = .pointer (some ⟨b, 0, none⟩) := by simpa using hp
  simp [results, h, hp', asAddr, run_loadVar_mid w b 0 ty cs d hz.cell hu hd hi]
theorem mgcell_gr {w w' : World} {b o : Nat} {v : Value} (h : w.cell? ⟨b, o, none⟩ = some v) (g : Grew w w') : w'.cell? ⟨b, o, none⟩ = some v := by
  rw [← h]
  refine World.cell?_of_block (g.block _ ?_)
  rcases Nat.lt_or_ge b w.heap.size with h' | h'
  · exact h'
  · have : w.heap[b]? = none := Array.getElem?_eq_none h'
    simp only [World.cell?, this] at h
    cases h
theorem mgappend {P : Program} (w : World) {ops : Array Oper} {rest : List Oper} {o : Oper} {a : Act} {Q : Exit → Act → World → Prop} (hgd : o.guard = none) (s x : Operand) (t : TypeId)
    (ho : o.op = .call { callee := .builtin .append, args := #[s, x], argTypes := #[t, t] })
    (base : Nat) (e : TypeId) (i : TypeInfo) (z : Value) (size bytes : Nat) (ht : P.underlying t = some (.slice e)) (hi : P.info? e = some i) (hz : i.zero = some z)
    (hsize : i.size = size) (hby : i.bytes = bytes) (hzs : z.cells.size = size) (hsz : 0 < size)
    (v : Value) (n : Nat) (xs : List Value) (hs : a.eval s = v) (hown : w.ownsRow base e size v n xs)
    (ad : Addr) (m c : Nat) (news : List Value) (hx : a.eval x = .slice (some ad) m c) (hl : news.length = m * size) (hnews : ∀ j u, news[j]? = some u → w.cell? (ad.add j) = some u) (h1 : ∀ u ∈ news, u.oneCell' = true)
    (h63 : n + m ≤ maxLen) (hbytes : (n + m) * bytes ≤ 140737488355328) (hbase : base ≤ w.heap.size)
    (h : ∀ v' w', w'.ownsRow base e size v' (n + m) (xs ++ news) → w.grownBy w' v.ownBlock → (v'.ownBlock = v.ownBlock ∨ v'.ownBlock = some w.heap.size) → wpList P ops Q rest (a.put o.dst v') w') : wpList P ops Q (o :: rest) a w :=
  wpList_plain hgd fun _ hK => by
    obtain ⟨v', w', hrun, h2, h3, _, h4⟩ := run_append_own_at (P := P) w base t o.type e i z size bytes ht hi hz hsize hby hzs hsz v n xs hown ad m c news hl hnews h1 h63 hbytes hbase
    unfold Oper.wp execOp
    simp only [ho, resolve, invoke, builtin, Sem.run_bind, Sem.run_pure, Result.andThen_ok, List.map_toArray, List.map_cons, List.map_nil, hs, hx, hrun]
    exact hK _ _ (h v' w' h2 h3 h4)
theorem mgload_want {P : Program} {ops : Array Oper} {rest : List Oper} {o : Oper} {a : Act} {w : World} {Q : Exit → Act → World → Prop} (hw : Region.wanted o (yielded ops a.tmps) = true) (ty : TypeId) (x : Operand) (ho : o.op = .load ty x)
    (b m : Nat) (hx : a.eval x = .pointer (some ⟨b, m, none⟩)) (cs : List Value) (d : TypeDesc) (hc : w.rangeAt b m cs)
    (hu : P.underlying ty = some d) (hd : d.isRow = true) (hi : (P.info? ty).map (·.size) = some cs.length)
    (h : wpList P ops Q rest (a.put o.dst (.agg cs.toArray)) w) : wpList P ops Q (o :: rest) a w :=
  BigFrame.wpList_want hw fun _ hK => wp_load_mid ty x ho b m hx cs d hc hu hd hi (hK _ _ h)
theorem mgbuild_is {P : Program} {ops : Array Oper} {rest : List Oper} {o : Oper} {a : Act} {w : World} {Q : Exit → Act → World → Prop} (hg : o.guard = none) (t : TypeId) (parts : Array (Nat × Operand)) (ho : o.op = .build t parts) (cells : Array Value)
    (hc : P.built t (parts.map fun (i, x) => (i, a.eval x)).toList = some cells) (h : wpList P ops Q rest (a.put o.dst (.agg cells)) w) : wpList P ops Q (o :: rest) a w :=
  wpList_build hg t parts ho (by rw [hc]; rfl) (by rw [hc]; exact h)
end Go.Proofs.YtfnkcahnkccekaaDoor
