/- One block turned, all others as they were: words for objects behind a pointer. -/
import Derived.Test.YtfnkcahnkccekaaDoorArr
namespace Go.Proofs.YtfnkcahnkccekaaDoor
open Go.RowKit
/-- only block g, and what is new, has turned -/
abbrev Tn (g : Nat) (w w' : World) : Prop := w.grownBy w' (some g)
theorem tn_refl (g : Nat) (w : World) : Tn g w w := ⟨rfl, rfl, rfl, Nat.le_refl _, fun _ _ _ => rfl⟩
theorem tn_trans {g : Nat} {a b c : World} (h : Tn g a b) (k : Tn g b c) : Tn g a c :=
  ⟨k.os.trans h.os, k.tape.trans h.tape, k.output.trans h.output, Nat.le_trans h.size k.size, fun i hi hn => (k.block i (Nat.lt_of_lt_of_le hi h.size) hn).trans (h.block i hi hn)⟩
theorem tn_drew {g : Nat} {a w : World} (h : Tn g a w) : Tn g a w.drew := ⟨h.os, h.tape, h.output, h.size, h.block⟩
theorem tn_drewN {g : Nat} {a w : World} (h : Tn g a w) (n : Nat) : Tn g a (w.drewN n) := ⟨h.os, h.tape, h.output, h.size, h.block⟩
theorem tn_alloc {g : Nat} {a w : World} (h : Tn g a w) (o : Obj) : Tn g a (w.alloc o) :=
  ⟨h.os, h.tape, h.output, Nat.le_trans h.size (by simp), fun i hi hne => (Below.heap_alloc w o i (Nat.lt_of_lt_of_le hi h.size)).trans (h.block i hi hne)⟩
theorem tn_set {a w : World} {g : Nat} (h : Tn g a w) {p : Addr} (hp : p.block = g ∨ a.heap.size ≤ p.block) (u : Value) : Tn g a (w.setCell p u) :=
  ⟨h.os, h.tape, h.output, by simpa [World.setCell] using h.size, fun i hi hne => (Below.heap_setCell w p u i (by
    rintro rfl
    rcases hp with hp | hp
    · exact hne (by rw [hp])
    · omega)).trans (h.block i hi hne)⟩
theorem tn_grew {g : Nat} {a w : World} (h : Grew a w) : Tn g a w := ⟨h.os, h.tape, h.output, h.size, fun i hi _ => h.block i hi⟩
theorem Bk.tn {w w' : World} {g g' : Nat} {t : TypeId} {cs : Array Value} (h : Bk w g t cs) (hb : Tn g' w w') (hg : g ≠ g') : Bk w' g t cs :=
  (hb.block g h.lt (fun e => hg (by injection e))).trans h
theorem below_tn {B g : Nat} {a w w' : World} (h : Below B a w) (hb : Tn g w w') (hB : B ≤ w.heap.size) (hg : B ≤ g) : Below B a w' :=
  h.grown hb hB (fun k hk => by injection hk with hk; omega)
theorem Bk.drewN {w : World} {g : Nat} {t : TypeId} {cs : Array Value} (h : Bk w g t cs) (n : Nat) : Bk (w.drewN n) g t cs := h
theorem tn_size {g : Nat} {a w : World} (h : Tn g a w) : a.heap.size ≤ w.heap.size := h.size
theorem Rd.tn {w w' : World} {B g : Nat} {A : Option Addr} {xs : List Value} (h : Rd w B A xs) (hg : Tn g w w') (hB : B ≤ w.heap.size) (hr : B ≤ g) : Rd w' B A xs :=
  h.grown hg hB (fun k hk => by injection hk with hk; omega)
end Go.Proofs.YtfnkcahnkccekaaDoor
