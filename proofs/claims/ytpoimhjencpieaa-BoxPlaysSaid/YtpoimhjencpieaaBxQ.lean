/- A row of the law's own that is taken from in front and put to behind. -/
import Derived.ArgAppend
import Derived.Deep.Upon
import Derived.Test.YtpoimhjencpieaaBxK
namespace Go.Proofs.Ytpoimhjencpieaa
open Go.Conc Go.RowKit
set_option linter.unusedVariables false
/-- the slice (A, its length, c) reads L; it lies in a block of the law's own -/
def Qs (w : World) (base : Nat) (A : Option Addr) (c : Nat) (L : List Int) : Prop :=
  (A = none ∧ c = 0 ∧ L = []) ∨ ∃ g off cur, A = some ⟨g, off, none⟩ ∧ base ≤ g ∧ Bk w g 3 cur ∧ L.length ≤ c ∧ off + c ≤ cur.size ∧ ∀ (j : Nat) (h : j < L.length), cur[off + j]? = some (.int .i64 L[j])
theorem Qs.nil (w : World) (base : Nat) : Qs w base none 0 [] := .inl ⟨rfl, rfl, rfl⟩
theorem Qs.lt {w : World} {base : Nat} {A : Option Addr} {c : Nat} {L : List Int} (h : Qs w base A c L) {n : Nat} : ∀ g, (Value.slice A n c).ownBlock = some g → base ≤ g ∧ g < w.heap.size := by
  intro g hg
  rcases h with ⟨rfl, _, _⟩ | ⟨g', off, cur, rfl, hb, hbk, _⟩
  · cases hg
  · obtain rfl : g' = g := by injection hg
    exact ⟨hb, hbk.lt⟩
theorem Qs.kp {S : Nat → Prop} {w w' : World} {base : Nat} {A : Option Addr} {c : Nat} {L : List Int} (h : Qs w base A c L) (k : Kp S w w') (hS : ∀ ad, A = some ad → ¬ S ad.block) : Qs w' base A c L := by
  rcases h with h | ⟨g, off, cur, rfl, hb, hbk, rest⟩
  · exact .inl h
  · exact .inr ⟨g, off, cur, rfl, hb, hbk.kp k (hS _ rfl), rest⟩
theorem Qs.rd {w : World} {base : Nat} {A : Option Addr} {c : Nat} {L : List Int} (h : Qs w base A c L) : Rd w w.heap.size A (i64L L) := by
  rcases h with ⟨rfl, rfl, rfl⟩ | ⟨g, off, cur, rfl, hb, hbk, h1, h2, h3⟩
  · exact Rd.nil_ _ _ _
  · intro j hj
    rw [i64L_length] at hj
    refine ⟨_, rfl, hbk.lt, ?_⟩
    have ha : (⟨g, off, none⟩ : Addr).add j = ⟨g, off + j, none⟩ := by unfold Addr.add; simp
    rw [ha, hbk.cell, h3 j hj]
    simp [i64L]
theorem Qs.cap {w : World} {base : Nat} {A : Option Addr} {c : Nat} {L : List Int} (h : Qs w base A c L) : L.length ≤ c := by
  rcases h with ⟨_, rfl, rfl⟩ | ⟨_, _, _, _, _, _, h1, _⟩
  · exact Nat.le_refl _
  · exact h1
/-- the first is taken, the row was full -/
theorem Qs.drop1 {w : World} {base : Nat} {A : Option Addr} {z : Int} {L : List Int} (h : Qs w base A 1 (z :: L)) : L = [] ∧ Qs w base A 0 [] := by
  rcases h with ⟨_, h, _⟩ | ⟨g, off, cur, rfl, hb, hbk, h1, h2, h3⟩
  · cases h
  · simp at h1
    exact ⟨h1, .inr ⟨g, off, cur, rfl, hb, hbk, Nat.le_refl _, by omega, fun j hj => by simp at hj⟩⟩
/-- the first is taken -/
theorem Qs.drop {w : World} {base : Nat} {ad : Addr} {c : Nat} {z : Int} {L : List Int} (h : Qs w base (some ad) c (z :: L)) (hc : c ≠ 1) : Qs w base (some ⟨ad.block, ad.off + 1, none⟩) (c - 1) L := by
  rcases h with ⟨h, _⟩ | ⟨g, off, cur, hq, hb, hbk, h1, h2, h3⟩
  · cases h
  · injection hq with hq
    subst hq
    simp at h1
    refine .inr ⟨g, off + 1, cur, rfl, hb, hbk, by omega, by omega, fun j hj => ?_⟩
    have := h3 (j + 1) (by simp; omega)
    rw [show off + 1 + j = off + (j + 1) by omega, this]
    simp
theorem setCells_one (w : World) (g o : Nat) (v : Value) : w.setCells g o [v] = w.setCell ⟨g, o, none⟩ v := by simp [World.setCells]
/-- one is put behind -/
theorem Qs.put {w : World} {base : Nat} {A : Option Addr} {c : Nat} {L : List Int} (h : Qs w base A c L) (hbase : base ≤ w.heap.size) (hl : L.length ≤ 100000) (x : Int) (b : Nat) (hx : w.cell? ⟨b, 0, none⟩ = some (.int .i64 x)) (ty : TypeId) :
    ∃ A' c' w', (Builtin.append_ #[22, 22] ty #[.slice A L.length c, .slice (some ⟨b, 0, none⟩) 1 1]).run Try.prog w = .ok (.slice A' (L.length + 1) c') w' ∧ Qs w' base A' c' (L ++ [x]) ∧ w.grownBy w' (Value.slice A L.length c).ownBlock ∧
      ∃ ad', A' = some ad' ∧ ((∃ ad, A = some ad ∧ ad'.block = ad.block) ∨ w.heap.size ≤ ad'.block) := by
  obtain ⟨i0, hi, hz0, hz1, hz2⟩ := info_parts info_int
  have hnews : ∀ j u, ([.int .i64 x] : List Value)[j]? = some u → w.cell? ((⟨b, 0, none⟩ : Addr).add j) = some u := by
    intro j u hu
    cases j with
    | zero => simp at hu; subst hu; exact hx
    | succ j => simp at hu
  have owned : ∀ {v' : Value} {w' : World}, w'.ownsRow w.heap.size 3 1 v' (L.length + 1) (i64L L ++ [.int .i64 x]) → ∃ A' c', v' = .slice A' (L.length + 1) c' ∧ Qs w' base A' c' (L ++ [x]) ∧ ∃ ad', A' = some ad' ∧ w.heap.size ≤ ad'.block := by
    intro v' w' ho
    rcases ho.2 with ⟨_, h0⟩ | ⟨g, cap, cur, rfl, hg, hh, h1, h2, h3, h4⟩
    · omega
    · refine ⟨_, cap, rfl, .inr ⟨g, 0, cur, rfl, by omega, hh, by simpa using h1, by omega, fun j hj => ?_⟩, _, rfl, hg⟩
      have h5 := congrArg (fun l => l[j]?) h4
      simp only [Nat.mul_one] at h5
      rw [List.getElem?_take, if_pos (by simpa using hj)] at h5
      rw [Nat.zero_add, ← Array.getElem?_toList, h5, show i64L L ++ [Value.int .i64 x] = i64L (L ++ [x]) by simp [i64L]]
      unfold i64L
      rw [List.getElem?_map, List.getElem?_eq_getElem hj]
      rfl
  rcases h with ⟨rfl, rfl, rfl⟩ | ⟨g, off, cur, rfl, hb, hbk, h1, h2, h3⟩
  · obtain ⟨v', w', hr, ho, hgr, -, h5⟩ := run_append_own_at (P := Try.prog) w w.heap.size 22 ty 3 i0 (.int .i64 0) 1 8 Try.underlying22 hi hz0 hz1 hz2 rfl (by omega) (.slice none 0 0) 0 [] (World.ownsRow_nil _ _ _ _) ⟨b, 0, none⟩ 1 1 [.int .i64 x] rfl hnews (by intro u hu; simp at hu; subst hu; rfl) (by unfold maxLen; omega) (by omega) (Nat.le_refl _)
    obtain ⟨A', c', rfl, hq, ad', rfl, had⟩ := owned ho
    exact ⟨_, c', w', hr, hq, hgr, ad', rfl, .inr had⟩
  · by_cases hroom : L.length + 1 ≤ c
    · have hr := run_append_room_cells (P := Try.prog) w 22 ty 3 i0 Try.underlying22 hi g off L.length c ⟨b, 0, none⟩ 1 1 [.int .i64 x] (by rw [hz1]; rfl) hnews (by intro u hu; simp at hu; subst hu; rfl) hroom
        (fun j hj => by simp at hj; subst hj; rw [hz1, hbk.cell]; rw [Array.getElem?_eq_getElem (by omega)]; rfl) (fun j hj => hbk.frozen _)
      rw [hz1, Nat.mul_one, setCells_one] at hr
      refine ⟨_, c, _, hr, .inr ⟨g, off, _, rfl, hb, hbk.set_ (off + L.length) (.int .i64 x), by simpa using hroom, by simp; omega, fun j hj => ?_⟩, ⟨rfl, rfl, rfl, by simp, fun k hk hne => heap_setCell_other w ⟨g, off + L.length, none⟩ k _ (fun e => hne (by subst e; rfl))⟩, _, rfl, .inl ⟨_, rfl, rfl⟩⟩
      rw [List.length_append, List.length_singleton] at hj
      by_cases hjl : j < L.length
      · rw [Array.getElem?_setIfInBounds_ne (by omega), h3 j hjl, List.getElem_append_left hjl]
      · obtain rfl : j = L.length := by omega
        rw [Array.getElem?_setIfInBounds_self_of_lt (by omega)]
        simp
    · obtain ⟨v', w', hr, ho, hgr⟩ := run_append_arg_grows (P := Try.prog) w 22 ty 3 i0 (.int .i64 0) 1 8 Try.underlying22 hi hz0 hz1 hz2 rfl (by omega) ⟨g, off, none⟩ L.length c (i64L L) (by rw [i64L_length]; omega)
        (fun j u hu => by
          have hj : j < L.length := by have := (List.getElem?_eq_some_iff.1 hu).1; rwa [i64L_length] at this
          have ha : (⟨g, off, none⟩ : Addr).add j = ⟨g, off + j, none⟩ := by unfold Addr.add; simp
          rw [ha, hbk.cell, h3 j hj, ← hu]; simp [i64L, hj])
        ⟨b, 0, none⟩ 1 1 [.int .i64 x] rfl hnews (by omega) (by unfold maxLen; omega) (by omega)
      obtain ⟨A', c', rfl, hq, ad', rfl, had⟩ := owned ho
      exact ⟨_, c', w', hr, hq, ⟨hgr.os, hgr.tape, hgr.output, hgr.size, fun k hk _ => hgr.block k hk (by simp)⟩, ad', rfl, .inr had⟩
end Go.Proofs.Ytpoimhjencpieaa
