/- Rows of calls of a key: a slice of structs of three integers, opened to be read; a struct of a slice loaded whole. -/
import Derived.Deep.Fields
import Derived.Laws.Rows
import Derived.Test.YtpgbfglfgcidaaaGreatDoorZao
import Derived.Test.YtpgbfglfgcidaaaGreatDoorZaf
namespace Go.Proofs.YtpgbfglfgcidaaaGreatDoor
set_option linter.unusedSimpArgs false
set_option linter.unusedVariables false
open Go.ChangeShapes Go.WideShapes Go.RowKit Go.Deep
/-- a whole struct or row is loaded from wherever its cells lie -/
theorem run_loadVar_at {P : Program} (w : World) (ad : Addr) (ty : TypeId) (cs : List Value) (d : TypeDesc) (hc : ∀ j v, cs[j]? = some v → w.cell? (ad.add j) = some v)
    (hu : P.underlying ty = some d) (hd : (match d with | .struct _ | .array _ _ => true | _ => false) = true) (hi : (P.info? ty).map (·.size) = some cs.length) :
    (loadVar ty ad).run P w = .ok (.agg cs.toArray) w := by
  have hl : (loadCells ad cs.length).run P w = .ok cs.toArray w := run_loadCells_list (P := P) w ad cs (fun j v hv => hc j v hv)
  cases hq : P.info? ty with
  | none => simp [hq] at hi
  | some i =>
    have hs : i.size = cs.length := by simpa [hq] using hi
    have hagg : (isAgg ty).run P w = .ok true w := by
      unfold isAgg
      rw [Sem.run_bind, run_underlying hu w]
      cases d <;> simp_all
    simp [loadVar, Sem.run_bind, hagg, sizeOf, typeInfo, hq, hs, hl]
theorem wp_load_at {P : Program} {op : Oper} {a : Act} {w : World} {K : Act → World → Prop} {Q : Exit → Act → World → Prop} (ty : TypeId) (x : Operand) (ho : op.op = .load ty x)
    (ad : Addr) (hx : a.eval x = .pointer (some ad)) (cs : List Value) (d : TypeDesc) (hc : ∀ j v, cs[j]? = some v → w.cell? (ad.add j) = some v)
    (hu : P.underlying ty = some d) (hd : (match d with | .struct _ | .array _ _ => true | _ => false) = true) (hi : (P.info? ty).map (·.size) = some cs.length)
    (h : K (a.put op.dst (.agg cs.toArray)) w) : op.wp P a w K Q := by
  unfold Oper.wp execOp
  simp only [ho, hx, Instr.loadAt, Instr.sureAddr, Sem.run_bind, Sem.run_pure, Result.andThen_ok, run_loadVar_at w ad ty cs d hc hu hd hi]
  exact h
theorem wpList_load_at {P : Program} {ops : Array Oper} {rest : List Oper} {op : Oper} {a : Act} {w : World} {Q : Exit → Act → World → Prop} (hgd : op.guard = none) (ty : TypeId) (x : Operand) (ho : op.op = .load ty x)
    (ad : Addr) (hx : a.eval x = .pointer (some ad)) (cs : List Value) (d : TypeDesc) (hc : ∀ j v, cs[j]? = some v → w.cell? (ad.add j) = some v)
    (hu : P.underlying ty = some d) (hd : (match d with | .struct _ | .array _ _ => true | _ => false) = true) (hi : (P.info? ty).map (·.size) = some cs.length)
    (h : wpList P ops Q rest (a.put op.dst (.agg cs.toArray)) w) : wpList P ops Q (op :: rest) a w :=
  wpList_plain hgd fun _ hK => wp_load_at ty x ho ad hx cs d hc hu hd hi (hK _ _ h)
/-- the cells behind a slice's address are rows of n cells each, in blocks below B -/
def RdS (w : World) (B : Nat) (A : Option Addr) (n : Nat) (rows : List (List Value)) : Prop :=
  ∀ k (h : k < rows.length), ∃ ad, A = some ad ∧ ad.block < B ∧ ∀ j v, rows[k][j]? = some v → w.cell? ((ad.add (k * n)).add j) = some v
theorem RdS.keep {w w' : World} {B : Nat} {A : Option Addr} {n : Nat} {rows : List (List Value)} (h : RdS w B A n rows) (hk : ∀ p : Addr, p.block < B → w'.cell? p = w.cell? p) : RdS w' B A n rows := by
  intro k hk'
  obtain ⟨ad, e, hb, hc⟩ := h k hk'
  exact ⟨ad, e, hb, fun j v hv => by rw [hk _ (by rw [blk_add, blk_add]; exact hb)]; exact hc j v hv⟩
theorem RdS.below {w w' : World} {B : Nat} {A : Option Addr} {n : Nat} {rows : List (List Value)} (h : RdS w B A n rows) (hb : Below B w w') : RdS w' B A n rows := h.keep fun _ hp => hb.cell hp
def act3 (p : Int × Int × Int) : List Value := [.int .i64 p.1, .int .i64 p.2.1, .int .u64 p.2.2]
section
variable {H : Type} {enc : TypeId × Value → H} {P : Program}
theorem three_fields {W : World} {e : TypeId} {fs : Array Field} {n : Nat} {cs : List Value} {x : DataW H × List MemPlace} (he : P.underlying e = some (.struct fs)) (hone : oneCellFields P fs = true) (h2 : fs.size = 3) (hcl : cs.length = 3)
    (hi : ∀ (j : Nat) (f : Field), fs[j]? = some f → P.underlying f.type = some (.int (if j = 2 then .u64 else .i64))) (h : DataW.trod enc P W 0 (fun _ => true) true n e cs = some x) :
    ∃ p : Int × Int × Int, cs = act3 p ∧ (Lit.int .i64 p.1).wf = true ∧ (Lit.int .i64 p.2.1).wf = true ∧ (Lit.int .u64 p.2.2).wf = true := by
  obtain ⟨ys, n', _, _, hlen, _, hf⟩ := DataW.trod_struct he h
  have one : ∀ j, j < 3 → ∃ z : Int, cs[j]? = some (.int (if j = 2 then .u64 else .i64) z) ∧ (Lit.int (if j = 2 then .u64 else .i64) z).wf = true := by
    intro j hj
    have hfj : fs[j]? = some (fs[j]'(by omega)) := Array.getElem?_eq_getElem (by omega)
    obtain ⟨ho, hk⟩ := hone_of hone j _ hfj
    have h1 := hf j _ hfj
    rw [ho, hk] at h1
    have hd : (cs.drop j).take 1 = [cs[j]'(by omega)] := by
      rw [List.drop_eq_getElem_cons (by omega)]
      rfl
    rw [hd] at h1
    have hne : ys[j]? = some (ys[j]'(by omega)) := List.getElem?_eq_getElem (by omega)
    obtain ⟨z, hz1, _, hz2⟩ := DataW.trod_int (hi j _ hfj) (h1.trans hne)
    injection hz1 with hz1
    exact ⟨z, by rw [List.getElem?_eq_getElem (by omega), hz1], hz2⟩
  obtain ⟨a, ha, ha2⟩ := one 0 (by omega)
  obtain ⟨b, hb, hb2⟩ := one 1 (by omega)
  obtain ⟨g, hg, hg2⟩ := one 2 (by omega)
  refine ⟨(a, b, g), ?_, by simpa using ha2, by simpa using hb2, by simpa using hg2⟩
  have hcd : ∃ c d f, cs = [c, d, f] := by
    match cs, hcl with
    | [c, d, f], _ => exact ⟨c, d, f, rfl⟩
  obtain ⟨c, d, f, rfl⟩ := hcd
  simp at ha hb hg
  rw [ha, hb, hg]
  rfl
/-- a slice of such structs, opened to be read -/
theorem open_acts3 {W : World} {r : Reach} {b0 : Nat} {t e : TypeId} {fs : Array Field} {v : Value} {d : DataW H} {ps : List MemPlace} (ht : P.underlying t = some (.slice e)) (he : P.underlying e = some (.struct fs))
    (hone : oneCellFields P fs = true) (h2 : fs.size = 3) (hC : P.cellsOf e = 3) (hi : ∀ (j : Nat) (f : Field), fs[j]? = some f → P.underlying f.type = some (.int (if j = 2 then .u64 else .i64)))
    (hval : Value.okWide P W r b0 t v) (h : DataW.Trod enc P W 0 (fun _ => true) true t v d ps) :
    ∃ (A : Option Addr) (c : Nat) (l : List (Int × Int × Int)), v = .slice A l.length c ∧ l.length ≤ c ∧ c ≤ maxLen ∧ RdS W W.heap.size A 3 (l.map act3) ∧ ∀ p ∈ l, (Lit.int .i64 p.1).wf = true ∧ (Lit.int .i64 p.2.1).wf = true ∧ (Lit.int .u64 p.2.2).wf = true := by
  obtain ⟨A, l, c, rfl⟩ := okWide_slice ht hval
  obtain ⟨fuel, hf⟩ := h
  rw [show (Value.slice A l c).cells.toList = [Value.slice A l c] from rfl] at hf
  rcases Deep.open_slice ht hf with ⟨h1, _⟩ | ⟨a, len, cap, m, n, D, Pl, h1, hb, hl, hm, hmm, hx, hV⟩
  · injection h1 with h1
    injection h1 with h1 h2 h3
    subst h1 h2 h3
    exact ⟨none, 0, [], rfl, Nat.zero_le _, Nat.zero_le _, fun k hk => absurd hk (by simp), by simp⟩
  · injection h1 with h1
    injection h1 with h1 h3 h4
    subst h1 h3 h4
    have hlm : l ≤ m := by rw [hmm]; split <;> omega
    have key : ∀ i, i < l → ∃ p : Int × Int × Int, (∀ j v, (act3 p)[j]? = some v → W.cell? ((a.add (i * 3)).add j) = some v) ∧ (Lit.int .i64 p.1).wf = true ∧ (Lit.int .i64 p.2.1).wf = true ∧ (Lit.int .u64 p.2.2).wf = true := by
      intro i hi'
      obtain ⟨cs', hc, ht'⟩ := hV i (by omega)
      rw [hC] at hc
      obtain ⟨_, hcl, hat⟩ := World.cells?_some hc
      obtain ⟨p, rfl, w1, w2, w3⟩ := three_fields he hone h2 (by omega) hi ht'
      refine ⟨p, fun j v hv => ?_, w1, w2, w3⟩
      have hj : j < 3 := (List.getElem?_eq_some_iff.1 hv).1
      have := hat j (by omega)
      rw [hv] at this
      exact this
    obtain ⟨L, hL⟩ := choose_lt (α := Int × Int × Int) (p := fun i p => (∀ j v, (act3 p)[j]? = some v → W.cell? ((a.add (i * 3)).add j) = some v) ∧ (Lit.int .i64 p.1).wf = true ∧ (Lit.int .i64 p.2.1).wf = true ∧ (Lit.int .u64 p.2.2).wf = true) key
    refine ⟨some a, c, (List.range l).map L, by simp, by simpa using hl, hm, ?_, ?_⟩
    · intro k hk
      have hk' : k < l := by simpa using hk
      obtain ⟨h5, _⟩ := hL k hk'
      refine ⟨a, rfl, ?_, fun j v hv => h5 j v (by simpa using hv)⟩
      rcases Nat.lt_or_ge a.block W.heap.size with h' | h'
      · exact h'
      · have : W.heap[((a.add (k * 3)).add 0).block]? = none := by rw [blk_add, blk_add]; exact Array.getElem?_eq_none h'
        have h6 := h5 0 _ rfl
        simp only [World.cell?, this] at h6
        cases h6
    · intro p hp
      obtain ⟨i, hi', rfl⟩ := List.mem_map.1 hp
      exact (hL i (by simpa using hi')).2
end
end Go.Proofs.YtpgbfglfgcidaaaGreatDoor
