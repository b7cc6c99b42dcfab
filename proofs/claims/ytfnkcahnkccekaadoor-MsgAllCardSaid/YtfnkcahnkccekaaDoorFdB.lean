/- The reference's Join. -/
import Derived.Test.YtfnkcahnkccekaaDoorFdA
namespace Go.Proofs.YtfnkcahnkccekaaDoor
open Go.RowKit
set_option linter.unusedVariables false
theorem grew_put {a b c : World} {o : Obj} {r : Option Nat} (h : Grew a b) (k : (b.alloc o).grownBy c r) (hr : ∀ i, r = some i → a.heap.size ≤ i) : Grew a c := (h.alloc h.size o).grown k (by have := h.size; simp; omega) hr
theorem esc_len (c : UInt8) : (esc c).length ≤ 2 := by
  unfold esc; split <;> simp
theorem fld_len (f : List UInt8) : (fld f).length ≤ 2 * f.length := by
  induction f with
  | nil => simp [fld_nil]
  | cons c f ih => rw [fld_cons, List.length_append, List.length_cons]; have := esc_len c; omega
theorem fld_ge (f : List UInt8) : f.length ≤ (fld f).length := by
  induction f with
  | nil => simp
  | cons c f ih =>
    rw [fld_cons, List.length_append, List.length_cons]
    have : 1 ≤ (esc c).length := by unfold esc; split <;> simp
    omega
theorem row_two {w : World} {b n f : Nat} {e : TypeId} {v : Value} {P F : List UInt8} {c0 : UInt8} (h : w.ownsRow b e 1 v (n + f + 1 + 1) (byL (P ++ F) ++ [.int .u8 92] ++ [.int .u8 (c0.toNat : Int)])) : w.ownsRow b e 1 v (n + (f + [(92 : UInt8), c0].length)) (byL (P ++ (F ++ [92, c0]))) := by
  have e1 : byL (P ++ (F ++ [92, c0])) = byL (P ++ F) ++ [.int .u8 92] ++ [.int .u8 (c0.toNat : Int)] := by
    rw [← List.append_assoc, byL_append (P ++ F)]
    simp [byL, byteV]
  rw [e1, show n + (f + [(92 : UInt8), c0].length) = n + f + 1 + 1 by simp; omega]
  exact h
theorem row_one1 {w : World} {b n f : Nat} {e : TypeId} {v : Value} {P F : List UInt8} {c0 : UInt8} (h : w.ownsRow b e 1 v (n + f + 1) (byL (P ++ F) ++ [.int .u8 (c0.toNat : Int)])) : w.ownsRow b e 1 v (n + (f + [c0].length)) (byL (P ++ (F ++ [c0]))) := by
  have e1 : byL (P ++ (F ++ [c0])) = byL (P ++ F) ++ [.int .u8 (c0.toNat : Int)] := by
    rw [← List.append_assoc, byL_append (P ++ F)]
    simp [byL, byteV]
  rw [e1, show n + (f + [c0].length) = n + f + 1 by simp; omega]
  exact h
end Go.Proofs.YtfnkcahnkccekaaDoor
