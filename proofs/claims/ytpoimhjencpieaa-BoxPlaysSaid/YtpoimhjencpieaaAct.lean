/- Rows of calls: a slice of structs of two integers, opened to be read. -/
import Derived.Test.YtpoimhjencpieaaLaw
import Derived.Test.YtpoimhjencpieaaTurn
import Derived.Deep.Fields
namespace Go.Proofs.Ytpoimhjencpieaa
open Go.ChangeShapes Go.WideShapes Go.RowKit Go.Deep
theorem addr_one (a : Addr) : a.add 1 = ⟨a.block, a.off + 1, none⟩ := by unfold Addr.add; simp
/-- the cells behind a slice's address are the pairs, in blocks below B -/
def RdA (w : World) (B : Nat) (A : Option Addr) (l : List (Int × Int)) : Prop :=
  ∀ k (h : k < l.length), ∃ ad, A = some ad ∧ ad.block < B ∧ w.cell? (ad.add (k * 2)) = some (.int .i64 l[k].1) ∧ w.cell? ⟨(ad.add (k * 2)).block, (ad.add (k * 2)).off + 1, none⟩ = some (.int .i64 l[k].2)
theorem RdA.keep {w w' : World} {B : Nat} {A : Option Addr} {l : List (Int × Int)} (h : RdA w B A l) (hk : ∀ p : Addr, p.block < B → w'.cell? p = w.cell? p) : RdA w' B A l := by
  intro k hk'
  obtain ⟨ad, e, hb, hc, hd⟩ := h k hk'
  exact ⟨ad, e, hb, by rw [hk _ (by rw [blk_add]; exact hb)]; exact hc, by rw [hk _ (by show (ad.add (k * 2)).block < B; rw [blk_add]; exact hb)]; exact hd⟩
theorem RdA.below {w w' : World} {B : Nat} {A : Option Addr} {l : List (Int × Int)} (h : RdA w B A l) (hb : Below B w w') : RdA w' B A l := h.keep fun _ hp => hb.cell hp
section
variable {H : Type} {enc : TypeId × Value → H} {P : Program}
theorem two_fields {W : World} {e : TypeId} {fs : Array Field} {n : Nat} {cs : List Value} {x : DataW H × List MemPlace} (he : P.underlying e = some (.struct fs)) (hone : oneCellFields P fs = true) (h2 : fs.size = 2) (hcl : cs.length = 2)
    (hi : ∀ (j : Nat) (f : Field), fs[j]? = some f → P.underlying f.type = some (.int .i64)) (h : DataW.trod enc P W 0 (fun _ => true) true n e cs = some x) :
    ∃ p : Int × Int, cs = [.int .i64 p.1, .int .i64 p.2] ∧ (Lit.int .i64 p.1).wf = true ∧ (Lit.int .i64 p.2).wf = true := by
  obtain ⟨ys, n', _, _, hlen, _, hf⟩ := DataW.trod_struct he h
  have one : ∀ j, j < 2 → ∃ z : Int, cs[j]? = some (.int .i64 z) ∧ (Lit.int .i64 z).wf = true := by
    intro j hj
    have hfj : fs[j]? = some (fs[j]'(by omega)) := Array.getElem?_eq_getElem (by omega)
    obtain ⟨ho, hk⟩ := hone_of hone j _ hfj
    have h1 := hf j _ hfj
    rw [ho, hk] at h1
    have hd : (cs.drop j).take 1 = [cs[j]'(by omega)] := by
      rw [List.drop_eq_getElem_cons (by omega)]
      rfl
    rw [hd] at h1
    have hne : ys[j]? = some (ys[j]'(by omega)) := List.getElem?_eq_getElem (by omega)
    obtain ⟨z, hz1, _, hz2⟩ := DataW.trod_int (hi j _ hfj) (h1.trans hne)
    injection hz1 with hz1
    exact ⟨z, by rw [List.getElem?_eq_getElem (by omega), hz1], hz2⟩
  obtain ⟨a, ha, ha2⟩ := one 0 (by omega)
  obtain ⟨b, hb, hb2⟩ := one 1 (by omega)
  refine ⟨(a, b), ?_, ha2, hb2⟩
  have hcd : ∃ c d, cs = [c, d] := by
    match cs, hcl with
    | [c, d], _ => exact ⟨c, d, rfl⟩
  obtain ⟨c, d, rfl⟩ := hcd
  simp at ha hb
  rw [ha, hb]
/-- a slice of pairs of integers, opened to be read -/
theorem open_acts {W : World} {r : Reach} {b0 : Nat} {t e : TypeId} {fs : Array Field} {v : Value} {d : DataW H} {ps : List MemPlace} (ht : P.underlying t = some (.slice e)) (he : P.underlying e = some (.struct fs))
    (hone : oneCellFields P fs = true) (h2 : fs.size = 2) (hC : P.cellsOf e = 2) (hi : ∀ (j : Nat) (f : Field), fs[j]? = some f → P.underlying f.type = some (.int .i64))
    (hval : Value.okWide P W r b0 t v) (h : DataW.Trod enc P W 0 (fun _ => true) true t v d ps) :
    ∃ (A : Option Addr) (c : Nat) (l : List (Int × Int)), v = .slice A l.length c ∧ l.length ≤ c ∧ c ≤ maxLen ∧ RdA W W.heap.size A l ∧ ∀ p ∈ l, (Lit.int .i64 p.1).wf = true ∧ (Lit.int .i64 p.2).wf = true := by
  obtain ⟨A, l, c, rfl⟩ := okWide_slice ht hval
  obtain ⟨fuel, hf⟩ := h
  rw [show (Value.slice A l c).cells.toList = [Value.slice A l c] from rfl] at hf
  rcases Deep.open_slice ht hf with ⟨h1, _⟩ | ⟨a, len, cap, m, n, D, Pl, h1, hb, hl, hm, hmm, hx, hV⟩
  · injection h1 with h1
    injection h1 with h1 h2 h3
    subst h1 h2 h3
    exact ⟨none, 0, [], rfl, Nat.zero_le _, Nat.zero_le _, fun k hk => absurd hk (by simp), by simp⟩
  · injection h1 with h1
    injection h1 with h1 h3 h4
    subst h1 h3 h4
    have hlm : l ≤ m := by rw [hmm]; split <;> omega
    have key : ∀ i, i < l → ∃ p : Int × Int, (W.cell? (a.add (i * 2)) = some (.int .i64 p.1) ∧ W.cell? (a.add (i * 2 + 1)) = some (.int .i64 p.2)) ∧ (Lit.int .i64 p.1).wf = true ∧ (Lit.int .i64 p.2).wf = true := by
      intro i hi'
      obtain ⟨cs', hc, ht'⟩ := hV i (by omega)
      rw [hC] at hc
      obtain ⟨_, hcl, hat⟩ := World.cells?_some hc
      obtain ⟨p, rfl, w1, w2⟩ := two_fields he hone h2 (by omega) hi ht'
      refine ⟨p, ⟨?_, ?_⟩, w1, w2⟩
      · have := hat 0 (by omega)
        rw [addr_add] at this
        simpa using this
      · have := hat 1 (by omega)
        rw [addr_add] at this
        simpa using this
    obtain ⟨L, hL⟩ := choose_lt (α := Int × Int) (p := fun i p => (W.cell? (a.add (i * 2)) = some (.int .i64 p.1) ∧ W.cell? (a.add (i * 2 + 1)) = some (.int .i64 p.2)) ∧ (Lit.int .i64 p.1).wf = true ∧ (Lit.int .i64 p.2).wf = true) key
    refine ⟨some a, c, (List.range l).map L, by simp, by simpa using hl, hm, ?_, ?_⟩
    · intro k hk
      have hk' : k < l := by simpa using hk
      obtain ⟨⟨h5, h6⟩, _⟩ := hL k hk'
      refine ⟨a, rfl, ?_, by simpa using h5, by rw [← addr_one, addr_add]; simpa using h6⟩
      rcases Nat.lt_or_ge a.block W.heap.size with h' | h'
      · exact h'
      · have : W.heap[(a.add (k * 2)).block]? = none := by rw [blk_add]; exact Array.getElem?_eq_none h'
        simp [World.cell?, this] at h5
    · intro p hp
      obtain ⟨i, hi', rfl⟩ := List.mem_map.1 hp
      exact (hL i (by simpa using hi')).2
end
end Go.Proofs.Ytpoimhjencpieaa
