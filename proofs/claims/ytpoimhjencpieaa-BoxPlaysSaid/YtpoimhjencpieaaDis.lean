/- quorum.Distinct: each number once, ascending. -/
import Derived.Sort.OwnSorted
import Derived.Lib.SlKeysI
import Derived.Test.YtpoimhjencpieaaShf
import Derived.Test.YtpoimhjencpieaaCol
namespace Go.Proofs.Ytpoimhjencpieaa
open Go.RowKit Go.Shelf Go.Lib Go.Sort
set_option linter.unusedVariables false
def sortI (l : List Int) : List Int := l.mergeSort fun x y => decide (x ≤ y)
def distI (l : List Int) : List Int := Lib.compact (sortI l)
theorem sortI_length (l : List Int) : (sortI l).length = l.length := by simp [sortI]
theorem appendSeq_ok (Bs n₀ : Nat) (A : Option Addr) (cap : Nat) (zs : List Int) (hz : zs.length ≤ 1048576) (w : World) (hBs : Bs < w.heap.size) (hn₀ : n₀ ≤ w.heap.size)
    (hc : w.cell? ⟨Bs, 0, none⟩ = some (.slice A zs.length cap)) (hr : Rd w n₀ A (i64L zs)) :
    Calls Try.prog 80 #[.slice none 0 0, .func (.func 79) #[] #[.pointer (some ⟨Bs, 0, none⟩)]] w fun e W' => ∃ v, e = .returned v ∧ W'.ownsRow w.heap.size 3 1 v zs.length (zs.map (Value.int .i64)) ∧ (v = .slice none 0 0 ↔ zs = []) ∧ Below w.heap.size w W' :=
  callsIn_wide.1 (appendSeq_in Fence.wide 6 trivial trivial rfl (by omega) Bs n₀ A cap zs hz w hBs hn₀ hc hr)
theorem values_ok (A : Option Addr) (len cap : Nat) (w : World) :
    Calls Try.prog 67 #[.slice A len cap] w fun e w' => e = .returned (.func (.func 79) #[] #[.pointer (some ⟨w.heap.size, 0, none⟩)]) ∧ w' = w.alloc (.cells #[.slice A len cap] 22) :=
  callsIn_wide.1 (values_in Fence.wide 6 trivial rfl A len cap w)
set_option maxRecDepth 100000 in
theorem collect_ok (Bs n₀ : Nat) (A : Option Addr) (cap : Nat) (zs : List Int) (hz : zs.length ≤ 1048576) (w : World) (hBs : Bs < w.heap.size) (hn₀ : n₀ ≤ w.heap.size)
    (hc : w.cell? ⟨Bs, 0, none⟩ = some (.slice A zs.length cap)) (hr : Rd w n₀ A (i64L zs)) :
    Calls Try.prog 77 #[.func (.func 79) #[] #[.pointer (some ⟨Bs, 0, none⟩)]] w fun e W' => ∃ v, e = .returned v ∧ W'.ownsRow w.heap.size 3 1 v zs.length (zs.map (Value.int .i64)) ∧ (v = .slice none 0 0 ↔ zs = []) ∧ Below w.heap.size w W' := by
  go_enter Try.func77, Try.ntmps77
  go_wp2_with (go_at_call 80; refine (appendSeq_ok Bs n₀ A cap zs hz _ hBs hn₀ hc hr).mono ?_; rintro e W ⟨v, rfl, hrow, hnil, hb⟩)
  go_ret
  exact ⟨v, rfl, hrow, hnil, hb⟩
set_option maxRecDepth 100000 in
theorem sorted_ok (Bs n₀ : Nat) (A : Option Addr) (cap : Nat) (zs : List Int) (hz : zs.length ≤ 1048576) (w : World) (hBs : Bs < w.heap.size) (hn₀ : n₀ ≤ w.heap.size)
    (hc : w.cell? ⟨Bs, 0, none⟩ = some (.slice A zs.length cap)) (hr : Rd w n₀ A (i64L zs)) :
    Calls Try.prog 66 #[.func (.func 79) #[] #[.pointer (some ⟨Bs, 0, none⟩)]] w fun e W' => ∃ v, e = .returned v ∧ W'.ownsRow w.heap.size 3 1 v zs.length ((sortI zs).map (Value.int .i64)) ∧ (v = .slice none 0 0 ↔ zs = []) ∧ Below w.heap.size w W' := by
  go_enter Try.func66, Try.ntmps66
  go_wp2_with (go_at_call 77; refine (collect_ok Bs n₀ A cap zs hz _ hBs hn₀ hc hr).mono ?_; rintro e W ⟨v, rfl, hrow, hnil, hb⟩)
  rcases hrow.2 with ⟨rfl, hz0⟩ | ⟨gb, cap, cur, rfl, hbase, hgb, r1, r2, r3, r4⟩
  · have hss : zs = [] := List.eq_nil_of_length_eq_zero hz0
    subst hss
    go_wp2_with (go_at_call 78; refine (sort_int_none none 0 W).mono ?_; rintro e w' ⟨rfl, rfl⟩)
    go_ret
    exact ⟨.slice none 0 0, rfl, by simpa [sortI] using hrow, by simp, hb⟩
  · have hH : Holds (Value.int .i64) W gb 0 zs.toArray := holds_of_block_i hgb (by simpa using r4)
    have hgl : gb < W.heap.size := (Array.getElem?_eq_some_iff.1 hgb).1
    have cS := sort_int gb 0 cap zs W hH hgl (by omega)
    go_wp2_with (go_at_call 78; refine cS.mono ?_; rintro e w' ⟨rfl, nn, os, rfl⟩)
    go_ret
    exact ⟨_, rfl, ownsRow_sorted_i (by simp) hbase hgb r1 r2 r3, hnil, hb.grown (grownBy_sorted_i _) hb.size (fun j hj => by cases hj; exact hbase)⟩
theorem ownsRow_low {w : World} {base base' : Nat} {e : TypeId} {size : Nat} {v : Value} {n : Nat} {xs : List Value} (h : w.ownsRow base e size v n xs) (hb : base' ≤ base) : w.ownsRow base' e size v n xs := by
  refine ⟨h.1, ?_⟩
  rcases h.2 with hn | ⟨g, cap, cur, hv, hbg, rest⟩
  · exact .inl hn
  · exact .inr ⟨g, cap, cur, hv, Nat.le_trans hb hbg, rest⟩
theorem ownsRow_cut {w : World} {base g cap n m : Nat} {e : TypeId} {xs ys : List Int} (h : w.ownsRow base e 1 (.slice (some ⟨g, 0, none⟩) n cap) n ((xs ++ ys).map (Value.int .i64))) (hm : xs.length = m) : w.ownsRow base e 1 (.slice (some ⟨g, 0, none⟩) m cap) m (xs.map (Value.int .i64)) := by
  refine ⟨by simp [hm], ?_⟩
  have hlen := h.1
  simp at hlen
  rcases h.2 with ⟨hn, _⟩ | ⟨g', cap', cur, hv, hbg, h1, h2, h3, h4, h5⟩
  · simp at hn
  · obtain ⟨rfl, rfl⟩ : g = g' ∧ cap = cap' := by simpa using hv
    refine .inr ⟨g, cap, cur, rfl, hbg, h1, by omega, h3, h4, ?_⟩
    have := congrArg (List.take m) h5
    rw [List.take_take, Nat.min_eq_left (by omega), List.map_append, List.take_append_of_le_length (by simp; omega)] at this
    rw [List.take_of_length_le (l := xs.map (Value.int .i64)) (by simp; omega)] at this
    rw [Nat.mul_one]; exact this
set_option maxRecDepth 100000 in
theorem distinct_ok (A : Option Addr) (c : Nat) (l : List Int) (hz : l.length ≤ 1048576) (w : World) (hr : Rd w w.heap.size A (i64L l)) :
    Calls Try.prog 19 #[.slice A l.length c] w fun e W' => ∃ v, e = .returned v ∧ W'.ownsRow w.heap.size 3 1 v (distI l).length ((distI l).map (Value.int .i64)) ∧ Below w.heap.size w W' := by
  have hB0 : Below w.heap.size w (w.alloc (.cells #[.slice A l.length c] 22)) := (Below.refl _ w).alloc (Nat.le_refl _) _
  have bN := (Boxed.new w 22 (.slice A l.length c)).cell
  have hr1 := hr.below hB0
  have cS := sorted_ok w.heap.size w.heap.size A c l hz (w.alloc (.cells #[.slice A l.length c] 22)) (by simp) (by simp) bN hr1
  go_enter Try.func19, Try.ntmps19
  go_wp2_with (first
    | (go_at_call 67; refine (values_ok A l.length c _).mono ?_; rintro e W ⟨rfl, rfl⟩)
    | (go_at_call 66; refine cS.mono ?_; rintro e W ⟨v, rfl, hrow, hnil, hb⟩))
  have hB1 : Below w.heap.size w W := hB0.trans (hb.mono (by simp))
  have hrow' := ownsRow_low hrow (base' := w.heap.size) (by simp)
  rcases hrow'.2 with ⟨rfl, hz0⟩ | ⟨gb, cap, cur, rfl, hbase, hgb, r1, r2, r3, r4⟩
  · have hss : l = [] := List.eq_nil_of_length_eq_zero hz0
    subst hss
    go_wp2_with (go_at_call 65; refine (compact_int_empty none 0 W).mono ?_; rintro e w' ⟨rfl, rfl⟩)
    go_ret
    have hd : distI [] = [] := by simp [distI, sortI, Lib.compact, Lib.compactUpTo]
    rw [hd]
    exact ⟨.slice none 0 0, rfl, World.ownsRow_nil _ _ _ _, hB1⟩
  · have hsl := sortI_length l
    have hH : Holds (Value.int .i64) W gb 0 (sortI l).toArray := holds_of_block_i hgb (by rw [hsl]; simpa using r4)
    have cC := compact_int gb 0 cap (sortI l) W hH (by omega) (by omega)
    rw [hsl] at cC
    go_wp2_with (go_at_call 65; refine cC.mono ?_; rintro e w' ⟨rfl, q, rfl⟩)
    go_ret
    have hle := Lib.compact_length_le (sortI l)
    have hlt : (Lib.compact (sortI l) ++ List.replicate (l.length - (Lib.compact (sortI l)).length) (0 : Int)).length = l.length := by simp; omega
    have ho := ownsRow_sorted_i (w := W) (n := q) (os := #[]) (ss := l) hlt hbase hgb r1 r2 r3
    have hg := grownBy_sorted_i (w := W) (g := gb) (n := q) (os := #[]) (Lib.compact (sortI l) ++ List.replicate (l.length - (Lib.compact (sortI l)).length) (0 : Int)).toArray
    rw [grow_empty] at ho hg
    exact ⟨_, rfl, ownsRow_cut ho rfl, hB1.grown hg hB1.size (fun j hj => by cases hj; exact hbase)⟩
end Go.Proofs.Ytpoimhjencpieaa
