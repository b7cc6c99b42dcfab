/- What BoxPlays keeps beside its box: two rows, apart from the box and from each other. -/
import Derived.BigFrame
import Derived.Test.YtpoimhjencpieaaBxQ
namespace Go.Proofs.Ytpoimhjencpieaa
open Go.Conc Go.RowKit
set_option linter.unusedVariables false
def Aw (A : Option Addr) (i : Nat) : Prop := ∀ ad, A = some ad → ad.block ≠ i
structure RW (W w : World) (g c1 c2 : Nat) (X Y : List Int) (Ax : Option Addr) (cx : Nat) (Ay : Option Addr) (cy : Nat) : Prop where
  qx : Qs w W.heap.size Ax cx X
  qy : Qs w W.heap.size Ay cy Y
  xg : Aw Ax g
  x1 : Aw Ax c1
  x2 : Aw Ax c2
  yg : Aw Ay g
  y1 : Aw Ay c1
  y2 : Aw Ay c2
  xy : ∀ ad ad', Ax = some ad → Ay = some ad' → ad.block ≠ ad'.block
  lg : W.heap.size ≤ g
  l1 : W.heap.size ≤ c1
  l2 : W.heap.size ≤ c2
  gr : Grew W w
theorem aw_none (i : Nat) : Aw none i := fun _ h => by cases h
section
variable {W w w' : World} {g c1 c2 k1 k2 : Nat} {X Y X2 Y2 : List Int} {Ax Ay : Option Addr} {cx cy : Nat}
theorem RW.start (hg : Grew W w) (lg : W.heap.size ≤ g) (l1 : W.heap.size ≤ c1) (l2 : W.heap.size ≤ c2) : RW W w g c1 c2 [] [] none 0 none 0 :=
  ⟨Qs.nil _ _, Qs.nil _ _, aw_none _, aw_none _, aw_none _, aw_none _, aw_none _, aw_none _, (fun _ _ h => by cases h), lg, l1, l2, hg⟩
theorem RW.kp {S : Nat → Prop} (h : RW W w g c1 c2 X Y Ax cx Ay cy) (k : Kp S w w') (hS : ∀ i, S i → i = c1 ∨ i = c2) : RW W w' g c1 c2 X Y Ax cx Ay cy :=
  ⟨h.qx.kp k (fun ad had hs => by rcases hS _ hs with e | e; exact h.x1 ad had e; exact h.x2 ad had e), h.qy.kp k (fun ad had hs => by rcases hS _ hs with e | e; exact h.y1 ad had e; exact h.y2 ad had e),
    h.xg, h.x1, h.x2, h.yg, h.y1, h.y2, h.xy, h.lg, h.l1, h.l2, grew_kp h.gr k (fun i hi => by have := h.l1; have := h.l2; rcases hS i hi with e | e <;> omega)⟩
theorem RW.grew (h : RW W w g c1 c2 X Y Ax cx Ay cy) (k : Grew w w') : RW W w' g c1 c2 X Y Ax cx Ay cy := h.kp (kp_grew (S := fun _ => False) k) (fun _ h => h.elim)
theorem RW.clear (h : RW W w g c1 c2 X Y Ax cx Ay cy) : RW W w g c1 c2 [] [] none 0 none 0 := RW.start h.gr h.lg h.l1 h.l2
theorem Qs.far {base : Nat} {A : Option Addr} {c : Nat} {L : List Int} (h : Qs w base A c L) {i : Nat} (hi : w.heap.size ≤ i) : Aw A i := fun ad had e => by
  subst had
  have := (h.lt (n := 0) ad.block rfl).2
  omega
theorem RW.moved {g' d1 d2 : Nat} (h : RW W w g c1 c2 X Y Ax cx Ay cy) (k : Kp (In2 c1 c2) w w') (hg : w.heap.size ≤ g') (h1 : w.heap.size ≤ d1) (h2 : w.heap.size ≤ d2) : RW W w' g' d1 d2 X Y Ax cx Ay cy := by
  have hk := h.kp k (fun i hi => hi)
  have hz := h.gr.size
  exact ⟨hk.qx, hk.qy, h.qx.far hg, h.qx.far h1, h.qx.far h2, h.qy.far hg, h.qy.far h1, h.qy.far h2, h.xy, by omega, by omega, by omega, hk.gr⟩
theorem RW.dropX1 {z : Int} (h : RW W w g c1 c2 (z :: X) Y Ax 1 Ay cy) : X = [] ∧ RW W w g c1 c2 [] Y Ax 0 Ay cy :=
  ⟨h.qx.drop1.1, h.qx.drop1.2, h.qy, h.xg, h.x1, h.x2, h.yg, h.y1, h.y2, h.xy, h.lg, h.l1, h.l2, h.gr⟩
theorem RW.dropX {z : Int} {ad : Addr} (h : RW W w g c1 c2 (z :: X) Y (some ad) cx Ay cy) (hc : cx ≠ 1) : RW W w g c1 c2 X Y (some ⟨ad.block, ad.off + 1, none⟩) (cx - 1) Ay cy :=
  ⟨h.qx.drop hc, h.qy, fun _ e => by cases e; exact h.xg ad rfl, fun _ e => by cases e; exact h.x1 ad rfl, fun _ e => by cases e; exact h.x2 ad rfl, h.yg, h.y1, h.y2, fun _ ad' e e' => by cases e; exact h.xy ad ad' rfl e', h.lg, h.l1, h.l2, h.gr⟩
theorem RW.dropY1 {z : Int} (h : RW W w g c1 c2 X (z :: Y) Ax cx Ay 1) : Y = [] ∧ RW W w g c1 c2 X [] Ax cx Ay 0 :=
  ⟨h.qy.drop1.1, h.qx, h.qy.drop1.2, h.xg, h.x1, h.x2, h.yg, h.y1, h.y2, h.xy, h.lg, h.l1, h.l2, h.gr⟩
theorem RW.dropY {z : Int} {ad : Addr} (h : RW W w g c1 c2 X (z :: Y) Ax cx (some ad) cy) (hc : cy ≠ 1) : RW W w g c1 c2 X Y Ax cx (some ⟨ad.block, ad.off + 1, none⟩) (cy - 1) :=
  ⟨h.qx, h.qy.drop hc, h.xg, h.x1, h.x2, fun _ e => by cases e; exact h.yg ad rfl, fun _ e => by cases e; exact h.y1 ad rfl, fun _ e => by cases e; exact h.y2 ad rfl, fun ad' _ e' e => by cases e; exact h.xy ad' ad e' rfl, h.lg, h.l1, h.l2, h.gr⟩
theorem RW.putY (h : RW W w g c1 c2 X Y Ax cx Ay cy) (hb : BoxI w g c1 c2 k1 k2 X2 Y2) (hl : Y.length ≤ 100000) (n : Int) :
    ∃ A' c' w', (Builtin.append_ #[22, 22] 22 #[.slice Ay Y.length cy, .slice (some ⟨w.heap.size, 0, none⟩) 1 1]).run Try.prog (w.alloc (.cells #[.int .i64 n] 3)) = .ok (.slice A' (Y.length + 1) c') w' ∧ RW W w' g c1 c2 X (Y ++ [n]) Ax cx A' c' ∧ BoxI w' g c1 c2 k1 k2 X2 Y2 := by
  have g1 : Grew w (w.alloc (.cells #[.int .i64 n] 3)) := grew_alloc' (Below.refl _ w) _
  have h1 := h.grew g1
  have hb1 := hb.grew g1
  have hz := h1.gr.size
  obtain ⟨A', c', w', hr, hq, hgr, ad', rfl, hat⟩ := h1.qy.put hz hl n w.heap.size (Boxed.new w 3 (.int .i64 n)).cell 22
  have k : Kp (fun i => (Value.slice Ay Y.length cy).ownBlock = some i) (w.alloc (.cells #[.int .i64 n] 3)) w' := kp_grown (kp_refl _ _) hgr (fun i hi => .inl hi)
  have no : ∀ i, Aw Ay i → ¬ (Value.slice Ay Y.length cy).ownBlock = some i := fun i ha hh => by
    cases Ay with
    | none => cases hh
    | some ad => injection hh with hh; exact ha ad rfl hh
  have fr : ∀ i, i < (w.alloc (.cells #[.int .i64 n] 3)).heap.size → Aw Ay i → Aw (some ad') i := fun i hi ha _ e => by
    cases e
    rcases hat with ⟨ad, rfl, he⟩ | hat
    · rw [he]; exact ha ad rfl
    · omega
  have hx1 : ∀ ad, Ax = some ad → ad.block < (w.alloc (.cells #[.int .i64 n] 3)).heap.size := fun ad had => by subst had; exact (h1.qx.lt (n := 0) ad.block rfl).2
  have ha : Aw Ay = fun i => ∀ ad, Ay = some ad → ad.block ≠ i := rfl
  have hw : ∀ i, i < w.heap.size → i < (w.alloc (.cells #[.int .i64 n] 3)).heap.size := fun i hi => by simp; omega
  refine ⟨_, c', w', hr, ⟨h1.qx.kp k (fun ad had => no _ (fun ad2 had2 e => h1.xy ad ad2 had had2 e.symm)), hq, h.xg, h.x1, h.x2, fr g (hw _ hb.bk.lt) h.yg, fr c1 (hw _ hb.h1.lt) h.y1, fr c2 (hw _ hb.h2.lt) h.y2, fun ad ad2 had had2 e => ?_, h.lg, h.l1, h.l2, ?_⟩, hb1.kp k (no _ h.yg) (no _ h.y1) (no _ h.y2)⟩
  · exact fr ad.block (hx1 ad had) (fun ad3 had3 e3 => h.xy ad ad3 had had3 e3.symm) ad2 had2 e.symm
  · exact grew_grownB h1.gr hgr (fun i hi => (h1.qy.lt i hi).1)
theorem RW.swap (h : RW W w g c1 c2 X Y Ax cx Ay cy) : RW W w g c1 c2 Y X Ay cy Ax cx :=
  ⟨h.qy, h.qx, h.yg, h.y1, h.y2, h.xg, h.x1, h.x2, fun ad ad' e e' hh => h.xy ad' ad e' e hh.symm, h.lg, h.l1, h.l2, h.gr⟩
theorem RW.putX (h : RW W w g c1 c2 X Y Ax cx Ay cy) (hb : BoxI w g c1 c2 k1 k2 X2 Y2) (hl : X.length ≤ 100000) (n : Int) :
    ∃ A' c' w', (Builtin.append_ #[22, 22] 22 #[.slice Ax X.length cx, .slice (some ⟨w.heap.size, 0, none⟩) 1 1]).run Try.prog (w.alloc (.cells #[.int .i64 n] 3)) = .ok (.slice A' (X.length + 1) c') w' ∧ RW W w' g c1 c2 (X ++ [n]) Y A' c' Ay cy ∧ BoxI w' g c1 c2 k1 k2 X2 Y2 := by
  obtain ⟨A', c', w', h1, h2, h3⟩ := h.swap.putY hb hl n
  exact ⟨A', c', w', h1, h2.swap, h3⟩
/-- one block of another box turns -/
theorem RW.kp1 {i0 : Nat} (h : RW W w g c1 c2 X Y Ax cx Ay cy) (k : Kp (fun i => i = i0) w w') (hx : Aw Ax i0) (hy : Aw Ay i0) (hl : W.heap.size ≤ i0) : RW W w' g c1 c2 X Y Ax cx Ay cy :=
  ⟨h.qx.kp k (fun ad had e => hx ad had e), h.qy.kp k (fun ad had e => hy ad had e), h.xg, h.x1, h.x2, h.yg, h.y1, h.y2, h.xy, h.lg, h.l1, h.l2, grew_kp h.gr k (fun i hi => by have e : i = i0 := hi; omega)⟩
theorem addr_zero (ad : Addr) : ad.add 0 = ad := by unfold Addr.add; simp
end
/-- an append whose outcome is known -/
theorem wpList_append_is {P : Program} {w w' : World} {ops : Array Oper} {rest : List Oper} {o : Oper} {a : Act} {Q : Exit → Act → World → Prop} (hw : Region.wanted o (yielded ops a.tmps) = true) (s x : Operand) (t : TypeId)
    (ho : o.op = .call { callee := .builtin .append, args := #[s, x], argTypes := #[t, t] }) (v y v' : Value) (hs : a.eval s = v) (hx : a.eval x = y)
    (hr : (Builtin.append_ #[t, t] o.type #[v, y]).run P w = .ok v' w') (h : wpList P ops Q rest (a.put o.dst v') w') : wpList P ops Q (o :: rest) a w :=
  BigFrame.wpList_want hw fun K hK => by
    unfold Oper.wp execOp
    simp only [ho, resolve, invoke, builtin, Sem.run_bind, Sem.run_pure, Result.andThen_ok, List.map_toArray, List.map_cons, List.map_nil, hs, hx, hr]
    exact hK _ _ h
/-- append(append([]int{}, x...), y...) -/
theorem two_app (w : World) (A : Option Addr) (c : Nat) (X : List Int) (B : Option Addr) (d : Nat) (Y : List Int) (rx : Rd w w.heap.size A (i64L X)) (ry : Rd w w.heap.size B (i64L Y)) (hX : X.length ≤ 100000) (hY : Y.length ≤ 100000) :
    ∃ A1 c1 w1 A2 c2 w2, (Builtin.append_ #[22, 22] 22 #[.slice (some ⟨w.heap.size, 0, none⟩) 0 0, .slice A X.length c]).run Try.prog (w.alloc (.cells #[] 3)) = .ok (.slice A1 X.length c1) w1 ∧
      (Builtin.append_ #[22, 22] 22 #[.slice A1 X.length c1, .slice B Y.length d]).run Try.prog w1 = .ok (.slice A2 (X.length + Y.length) c2) w2 ∧ Rd w2 w2.heap.size A2 (i64L (X ++ Y)) ∧ Grew w w2 := by
  obtain ⟨i0, hi, hz0, hz1, hz2⟩ := info_parts info_int
  obtain ⟨v1, w1, hr1, ho1, hg1, -⟩ := run_append_rd (P := Try.prog) (w.alloc (.cells #[] 3)) w.heap.size 22 22 3 i0 (.int .i64 0) 8 Try.underlying22 hi hz0 hz1 hz2 rfl (.slice (some ⟨w.heap.size, 0, none⟩) 0 0) 0 [] (World.ownsRow_made w #[] 0 (Nat.le_refl _) (by decide) rfl)
    w.heap.size A X.length c (i64L X) (i64L_length X) (rx.alloc (Nat.le_refl _) _) (i64L_one _) (by unfold maxLen; omega) (by omega) (by simp)
  simp only [Nat.zero_add, List.nil_append] at ho1
  obtain ⟨A1, c1, rfl, _, _, _⟩ := own_rd ho1
  have g1 : Grew w w1 := grew_grownB (grew_alloc' (Below.refl _ w) _) hg1 (fun j hj => by have h2 : some w.heap.size = some j := hj; injection h2 with h2; omega)
  obtain ⟨v2, w2, hr2, ho2, hg2, -⟩ := run_append_rd (P := Try.prog) w1 w.heap.size 22 22 3 i0 (.int .i64 0) 8 Try.underlying22 hi hz0 hz1 hz2 rfl (.slice A1 X.length c1) X.length (i64L X) ho1
    w.heap.size B Y.length d (i64L Y) (i64L_length Y) (ry.below g1) (i64L_one _) (by unfold maxLen; omega) (by omega) g1.size
  obtain ⟨A2, c2, rfl, _, _, r2⟩ := own_rd ho2
  exact ⟨A1, c1, w1, A2, c2, w2, hr1, hr2, by rw [i64L_append]; exact r2, grew_grownB g1 hg2 (own_base ho1)⟩
end Go.Proofs.Ytpoimhjencpieaa
