/- Steps of drawn regions that make memory: append of whatever source; worlds that grow. -/
import Derived.Deep.RegionHeld3
import Derived.Test.YtfnkcahnkccekaaDoorApp
import Derived.Test.YtfnkcahnkccekaaDoorRel
namespace Go.Proofs.YtfnkcahnkccekaaDoor
open Go.RowKit
set_option linter.unusedVariables false
theorem step_append_any {P : Program} {w : World} {ops : Array Oper} {o : Oper} {a : Act} {K : Act → World → Prop} {Q : Exit → Act → World → Prop} {E : Prop} (hgd : o.guard = none) (s x : Operand) (t : TypeId)
    (ho : o.op = .call { callee := .builtin .append, args := #[s, x], argTypes := #[t, t] })
    (base : Nat) (e : TypeId) (i : TypeInfo) (z : Value) (bytes : Nat) (ht : P.underlying t = some (.slice e)) (hi : P.info? e = some i) (hz : i.zero = some z)
    (hsize : i.size = 1) (hby : i.bytes = bytes) (hzs : z.cells.size = 1) (v : Value) (n : Nat) (xs : List Value) (hs : a.eval s = v) (hown : w.ownsRow base e 1 v n xs)
    (B : Nat) (A : Option Addr) (m c : Nat) (news : List Value) (hx : a.eval x = .slice A m c) (hm : news.length = m) (hr : Rd w B A news) (h1 : ∀ u ∈ news, u.oneCell' = true)
    (h63 : n + m ≤ maxLen) (hbytes : (n + m) * bytes ≤ 140737488355328) (hbase : base ≤ w.heap.size)
    (h : ∀ v' w', w'.ownsRow base e 1 v' (n + m) (xs ++ news) → w.grownBy w' v.ownBlock → (v'.ownBlock = v.ownBlock ∨ v'.ownBlock = some w.heap.size) → K (a.put o.dst v') w') :
    if Region.wanted o (yielded ops a.tmps) = true then Oper.wp P o a w K Q else E := by
  have hw : Region.wanted o (yielded ops a.tmps) = true := by simp [Region.wanted, hgd]
  rw [if_pos hw]
  exact wp_append_rd w s x t ho base e i z bytes ht hi hz hsize hby hzs v n xs hs hown B A m c news hx hm hr h1 h63 hbytes hbase h
theorem grew_draw {a b : World} (h : Grew a b) : Grew a b.drew := ⟨h.os, h.tape, h.output, h.size, h.block⟩
theorem grew_by {a b c : World} {r : Option Nat} (h : Grew a b) (k : b.grownBy c r) (hr : ∀ i, r = some i → a.heap.size ≤ i) : Grew a c := h.grown k h.size hr
/-- what is read below stays as memory grows -/
theorem Rd.up {w w' : World} {B : Nat} {A : Option Addr} {xs : List Value} (h : Rd w B A xs) (hb : Grew w w') (hB : B ≤ w.heap.size) : Rd w' B A xs := h.keep fun p hp => hb.cell (Nat.lt_of_lt_of_le hp hB)
theorem Rd.gr {w w' : World} {A : Option Addr} {xs : List Value} (h : Rd w w.heap.size A xs) (hb : Grew w w') : Rd w' w'.heap.size A xs := (h.below hb).more hb.size
theorem ownsRow_gr {w w' : World} {base : Nat} {e : TypeId} {size n : Nat} {v : Value} {xs : List Value} (h : w.ownsRow base e size v n xs) (hg : Grew w w') : w'.ownsRow base e size v n xs := ownsRow_kp (S := fun _ => False) h (kp_grew hg) (fun _ _ h => h)
/-- the row just made -/
theorem rd_made (w : World) (t : TypeId) (cs : Array Value) : Rd (w.alloc (.cells cs t)) (w.alloc (.cells cs t)).heap.size (some ⟨w.heap.size, 0, none⟩) cs.toList := (rd_new w t cs (0, 0)).more (by simp)
theorem alloc_size (w : World) (o : Obj) : (w.alloc o).heap.size = w.heap.size + 1 := by simp
theorem rd_made2 (w : World) (o : Obj) (t : TypeId) (cs : Array Value) : Rd ((w.alloc o).alloc (.cells cs t)) ((w.alloc o).alloc (.cells cs t)).heap.size (some ⟨w.heap.size + 1, 0, none⟩) cs.toList := by
  have h := rd_made (w.alloc o) t cs
  rwa [show (⟨(w.alloc o).heap.size, 0, none⟩ : Addr) = ⟨w.heap.size + 1, 0, none⟩ from by rw [alloc_size]] at h
theorem drew_size (w : World) : w.drew.heap.size = w.heap.size := rfl
end Go.Proofs.YtfnkcahnkccekaaDoor
