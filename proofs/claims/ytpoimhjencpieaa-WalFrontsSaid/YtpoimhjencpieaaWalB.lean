/- Contracts of package wal, at int: copies, falls, trimming. -/
import Derived.Test.YtpoimhjencpieaaWal
namespace Go.Proofs.Ytpoimhjencpieaa
open Go.RowKit
set_option linter.unusedVariables false
theorem quietD {P : Program} {f : FuncId} {args : Array Value} {w : World} {n : Nat} {v : Value}
    (h : Calls P f args (w.drewN n) fun e w' => e = .returned v ∧ ∃ k, w' = (w.drewN n).drewN k) : Calls P f args (w.drewN n) fun e w'' => e = .returned v ∧ ∃ m, w'' = w.drewN m :=
  h.mono fun _ _ hh => ⟨hh.1, by obtain ⟨k, hk⟩ := hh.2; exact ⟨n + k, by rw [hk, World.drewN_drewN]⟩⟩
/-- a new row of numbers is what is returned -/
def RetI (w : World) (l : List Int) (e : Ending) (w' : World) : Prop := ∃ A c, e = .returned (.slice A l.length c) ∧ w'.ownsRow w.heap.size 3 1 (.slice A l.length c) l.length (i64L l) ∧ Grew w w'
theorem RetI.parts {w w' : World} {A : Option Addr} {c : Nat} {l : List Int} (h : w'.ownsRow w.heap.size 3 1 (.slice A l.length c) l.length (i64L l)) : Rd w' w'.heap.size A (i64L l) ∧ l.length ≤ c ∧ (∀ ad, A = some ad → w.heap.size ≤ ad.block ∧ ad.block < w'.heap.size) := by
  obtain ⟨A', c', hq, h1, _, h2⟩ := own_rd h
  injection hq with e1 e2 e3
  subst e1 e3
  exact ⟨h2, h1, fun ad had => by subst had; exact ownsRow_lt h _ rfl⟩
set_option maxRecDepth 100000 in
theorem clone_any (A : Option Addr) (c B : Nat) (l : List Int) (hl : l.length ≤ 1048576) (w : World) (hr : Rd w B A (i64L l)) (hB : B ≤ w.heap.size) :
    Calls Try.prog 75 #[.slice A l.length c] w (RetI w l) := by
  obtain ⟨i0, hi0, hz0, hz1, hz2⟩ := info_parts infoI
  have he := fun W => Lib.run_eql_slice_nil (P := Try.prog) W 22 3 A l.length c 0 0 Try.underlying22
  cases A with
  | none =>
    have hn : l = [] := by
      cases l with
      | nil => rfl
      | cons a l =>
        obtain ⟨ad, h, _⟩ := hr 0 (by simp [i64L])
        cases h
    subst hn
    simp only [List.length_nil, Option.isNone_none] at he ⊢
    go_enter Try.func75, Try.ntmps75
    go_wp2_with fail
    go_ret
    exact ⟨none, 0, rfl, World.ownsRow_nil _ _ _ _, Below.refl _ _⟩
  | some ad =>
    have hr1 := hr.alloc hB (.cells #[] 3)
    have hmade : (w.alloc (.cells #[] 3)).ownsRow w.heap.size 3 1 (.slice (some ⟨w.heap.size, 0, none⟩) 0 0) 0 [] := World.ownsRow_made w #[] 0 (Nat.le_refl _) (by decide) rfl
    have HR := Lib.hid hr1
    clear hr hr1
    go_enter Try.func75, Try.ntmps75
    go_wp2_with (at_builtin; refine wpList_append_rd rfl _ _ _ rfl w.heap.size 3 i0 _ 8 Try.underlying22 hi0 hz0 hz1 hz2 rfl _ 0 [] rfl hmade B (some ad) l.length c (i64L l) rfl (i64L_length l) HR.out (i64L_one l) (by unfold maxLen; omega) (by omega) (by simp) ?_; intro v2 w2 hown2 hgrow hat)
    simp only [Nat.zero_add, List.nil_append] at hown2
    obtain ⟨A2, c2, rfl, hn1, _, hrd⟩ := own_rd hown2
    go_wp2_with fail
    go_ret
    exact ⟨A2, c2, rfl, hown2, ((Below.refl _ _).alloc (Nat.le_refl _) _).grown hgrow (by simp) (fun g hg => by have h' : some w.heap.size = some g := hg; injection h' with h'; omega)⟩
theorem wall_any (base g room sy : Nat) (A : Option Addr) (c : Nat) (l : List Int) (w : World) (h : WalS w base g room sy A c l) :
    Calls Try.prog 50 #[.pointer (some ⟨g, 0, none⟩)] w (RetI w l) := by
  have hc2 : w.cell? ⟨g, 2, none⟩ = some (.slice A l.length c) := h.bk.cell 2
  have h2 := h.le
  have h3 := h.rm
  have C := Lib.hid (clone_any A c w.heap.size l (by omega) w h.rd.1 (Nat.le_refl _))
  clear h
  go_enter Try.func50, Try.ntmps50
  go_wp2_with fail
  refine C.out.mono ?_
  rintro e w2 ⟨A2, c2, rfl, ho, hb⟩
  go_wp2_with fail
  go_ret
  exact ⟨A2, c2, rfl, ho, hb⟩
def TwRet (w : World) (base room sy : Nat) (l : List Int) (e : Ending) (w' : World) : Prop :=
  ∃ g2 A2 c2, e = .returned (.pointer (some ⟨g2, 0, none⟩)) ∧ WalS w' base g2 room sy A2 c2 l ∧ Grew w w' ∧ ∀ i, WN g2 A2 i → w.heap.size ≤ i
set_option maxRecDepth 100000 in
set_option maxHeartbeats 1600000 in
theorem wtwin_any (base g room sy : Nat) (A : Option Addr) (c : Nat) (l : List Int) (w : World) (h : WalS w base g room sy A c l) :
    Calls Try.prog 49 #[.pointer (some ⟨g, 0, none⟩)] w (TwRet w base room sy l) := by
  have hc0 : w.cell? ⟨g, 0, none⟩ = some (.int .i64 room) := h.bk.cell 0
  have hc1 : w.cell? ⟨g, 1, none⟩ = some (.int .i64 sy) := h.bk.cell 1
  have hc2 : w.cell? ⟨g, 2, none⟩ = some (.slice A l.length c) := h.bk.cell 2
  have h1 := h.sy
  have h2 := h.le
  have h3 := h.rm
  have hlo := h.lo
  have hgl := h.bk.lt
  have HS := Lib.hid h
  have C := Lib.hid (fun (W : World) (hk : Kp (fun _ => False) w W) => clone_any A c W.heap.size l (by omega) W (h.kp hk (fun _ _ => id)).rd.1 (Nat.le_refl _))
  clear h
  go_enter Try.func49, Try.ntmps49
  go_wp2_with fail
  go_region_held3 (fun w' => w'.cell? ⟨g, 0, none⟩ = some (.int .i64 room) ∧ w'.cell? ⟨g, 1, none⟩ = some (.int .i64 sy) ∧ w'.cell? ⟨g, 2, none⟩ = some (.slice A l.length c)) (go_keep)
    (first
      | (go_at_call 75; refine (C.out _ ?_).mono ?_; (first | exact kp_refl _ _ | exact kp_drew (kp_refl _ _)); rintro e w2 ⟨A2, c2, rfl, ho2, hb2⟩; have hb2' := grew_undrew hb2; have hs2 := HS.out.kp (kp_grew (S := fun _ => False) hb2') (fun _ _ => id); have hq0 := (show w2.cell? ⟨g, 0, none⟩ = some (.int .i64 room) from hs2.bk.cell 0); have hq1 := (show w2.cell? ⟨g, 1, none⟩ = some (.int .i64 sy) from hs2.bk.cell 1); have hq2 := (show w2.cell? ⟨g, 2, none⟩ = some (.slice A l.length c) from hs2.bk.cell 2)))
  go_wp2_with fail
  go_ret
  have hzs := hb2'.size
  have hown := RetI.parts ho2
  refine ⟨w2.heap.size, A2, c2, rfl, ⟨Bk.new _ _ _, ?_, ?_, by omega, h1, h2, h3⟩, hb2'.alloc hb2'.size _, ?_⟩
  · obtain ⟨q1, q2⟩ := ho2
    refine ⟨q1, ?_⟩
    rcases q2 with q2 | ⟨g', cap, cur, q3, q4, q5, q6⟩
    · exact .inl q2
    · have hlt : g' < w2.heap.size := by
        rcases Nat.lt_or_ge g' w2.heap.size with h' | h'
        · exact h'
        · rw [Array.getElem?_eq_none h'] at q5; cases q5
      exact .inr ⟨g', cap, cur, q3, by simp at q4; omega, (Below.heap_alloc w2 _ g' hlt).trans q5, q6⟩
  · intro ad had
    have := (hown.2.2 ad had).2
    omega
  · rintro i (rfl | ⟨ad, had, rfl⟩)
    · omega
    · have := (hown.2.2 ad had).1
      simp at this; omega
end Go.Proofs.Ytpoimhjencpieaa
