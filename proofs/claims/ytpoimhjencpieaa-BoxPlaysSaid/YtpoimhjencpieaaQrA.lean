/- The reference's N, Q, CheckConf; Distinct by insertion. -/
import Derived.Deep.RegionHeld3
import Derived.Test.YtpoimhjencpieaaQfa
import Derived.Test.YtpoimhjencpieaaInt
namespace Go.Proofs.Ytpoimhjencpieaa
open Go.RowKit Go.Lib
set_option linter.unusedVariables false
theorem rn_ok (f : Int) (hf : 1 ≤ f ∧ f ≤ 3) (w : World) : Calls Try.prog 24 #[.int .i64 f] w fun e w' => e = .returned (.int .i64 (3 * f + 1)) ∧ w' = w := by
  have e1 : IntKind.i64.wrap (3 * f) = 3 * f := IntWalk.i64_in _ (by omega)
  have e2 : IntKind.i64.wrap (3 * f + 1) = 3 * f + 1 := IntWalk.i64_in _ (by omega)
  go_enter Try.func24, Try.ntmps24
  go_wp2_with fail
  go_ret
  exact ⟨rfl, rfl⟩
theorem rq_ok (f : Int) (hf : 1 ≤ f ∧ f ≤ 3) (w : World) : Calls Try.prog 26 #[.int .i64 f] w fun e w' => e = .returned (.int .i64 (2 * f + 1)) ∧ w' = w := by
  have e1 : IntKind.i64.wrap (2 * f) = 2 * f := IntWalk.i64_in _ (by omega)
  have e2 : IntKind.i64.wrap (2 * f + 1) = 2 * f + 1 := IntWalk.i64_in _ (by omega)
  go_enter Try.func26, Try.ntmps26
  go_wp2_with fail
  go_ret
  exact ⟨rfl, rfl⟩
theorem rcheck_ok (f : Int) (w : World) : Calls Try.prog 16 #[.int .i64 f] w fun e w' => e = .returned (.int .i64 (if f < 1 ∨ 3 < f then 1 else 0)) ∧ w' = w := by
  by_cases h1 : f < 1
  · rw [if_pos (.inl h1)]
    go_enter Try.func16, Try.ntmps16
    go_wp2_with fail
    go_ret
    exact ⟨rfl, rfl⟩
  · by_cases h2 : 3 < f
    · rw [if_pos (.inr h2)]
      go_enter Try.func16, Try.ntmps16
      go_wp2_with fail
      go_ret
      exact ⟨rfl, rfl⟩
    · rw [if_neg (by omega)]
      go_enter Try.func16, Try.ntmps16
      go_wp2_with fail
      go_ret
      exact ⟨rfl, rfl⟩
theorem step_append_rd {P : Program} {w : World} {ops : Array Oper} {o : Oper} {a : Act} {K : Act → World → Prop} {Q : Exit → Act → World → Prop} {E : Prop} (hgd : o.guard = none) (s x : Operand) (t : TypeId)
    (ho : o.op = .call { callee := .builtin .append, args := #[s, x], argTypes := #[t, t] })
    (base : Nat) (e : TypeId) (i : TypeInfo) (z : Value) (bytes : Nat) (ht : P.underlying t = some (.slice e)) (hi : P.info? e = some i) (hz : i.zero = some z)
    (hsize : i.size = 1) (hby : i.bytes = bytes) (hzs : z.cells.size = 1) (v : Value) (n : Nat) (xs : List Value) (hs : a.eval s = v) (hown : w.ownsRow base e 1 v n xs)
    (B : Nat) (A : Option Addr) (m c : Nat) (news : List Value) (hx : a.eval x = .slice A m c) (hm : news.length = m) (hr : Rd w B A news) (h1 : ∀ u ∈ news, u.oneCell' = true)
    (h63 : n + m ≤ maxLen) (hbytes : (n + m) * bytes ≤ 140737488355328) (hbase : base ≤ w.heap.size)
    (h : ∀ v' w', w'.ownsRow base e 1 v' (n + m) (xs ++ news) → w.grownBy w' v.ownBlock → (v'.ownBlock = v.ownBlock ∨ v'.ownBlock = some w.heap.size) → K (a.put o.dst v') w') :
    if Region.wanted o (yielded ops a.tmps) = true then Oper.wp P o a w K Q else E := by
  have hw : Region.wanted o (yielded ops a.tmps) = true := by simp [Region.wanted, hgd]
  rw [if_pos hw]
  exact wp_append_rd w s x t ho base e i z bytes ht hi hz hsize hby hzs v n xs hs hown B A m c news hx hm hr h1 h63 hbytes hbase h
/-- where an element goes among those that rise -/
theorem dist_put (l : List Int) (z : Int) (k : Nat) (hk : k ≤ (distI l).length) (hlo : ∀ x ∈ (distI l).take k, x < z) (hhi : ∀ h : k < (distI l).length, z < (distI l)[k]) :
    distI (l ++ [z]) = (distI l).take k ++ z :: (distI l).drop k := by
  obtain ⟨hp, hm⟩ := distI_facts l
  generalize distI l = d at *
  have hdr : ∀ x ∈ d.drop k, z < x := by
    intro x hx
    obtain ⟨j, hj, rfl⟩ := List.getElem_of_mem hx
    rw [List.length_drop] at hj
    have h0 := hhi (by omega)
    rw [List.getElem_drop]
    by_cases hj0 : j = 0
    · subst hj0; simpa using h0
    · have := List.pairwise_iff_getElem.1 hp k (k + j) (by omega) (by omega) (by omega)
      omega
  refine distI_eq _ _ ?_ fun y => ?_
  · rw [List.pairwise_append]
    refine ⟨hp.sublist (List.take_sublist _ _), ?_, ?_⟩
    · rw [List.pairwise_cons]
      exact ⟨hdr, hp.sublist (List.drop_sublist _ _)⟩
    · intro a ha b hb
      have h1 := hlo a ha
      rcases List.mem_cons.1 hb with rfl | hb
      · exact h1
      · have := hdr b hb; omega
  · have hy : y ∈ d ↔ y ∈ d.take k ∨ y ∈ d.drop k := by rw [← List.mem_append, List.take_append_drop]
    simp only [List.mem_append, List.mem_cons, List.not_mem_nil, or_false, ← hm y, hy]
    constructor
    · rintro (h | h | h)
      · exact .inl (.inl h)
      · exact .inr h
      · exact .inl (.inr h)
    · rintro ((h | h) | h)
      · exact .inl h
      · exact .inr (.inr h)
      · exact .inr (.inl h)
theorem dist_has (l : List Int) (z : Int) (h : z ∈ distI l) : distI (l ++ [z]) = distI l := dist_same _ _ fun x => by
  have := ((distI_facts l).2 z).1 h
  simp only [List.mem_append, List.mem_cons, List.not_mem_nil, or_false]
  exact ⟨fun h' => h'.elim id (fun e => e ▸ this), .inl⟩
end Go.Proofs.Ytpoimhjencpieaa
