/- The reference's Split. -/
import Derived.Test.YtfnkcahnkccekaaDoorFdF
namespace Go.Proofs.YtfnkcahnkccekaaDoor
open Go.RowKit
set_option linter.unusedVariables false
theorem two_stepF {w w' : World} {base nY : Nat} {e : TypeId} {u v y : Value} {ys : List Value} {o : Obj} (hy : w.ownsRow base e 1 y nY ys) (hd : ∀ g, u.ownBlock = some g → y.ownBlock ≠ some g)
    (hgrow : (w.alloc o).grownBy w' u.ownBlock) (hat : v.ownBlock = u.ownBlock ∨ v.ownBlock = some (w.alloc o).heap.size) : w'.ownsRow base e 1 y nY ys ∧ ∀ g, v.ownBlock = some g → y.ownBlock ≠ some g := by
  refine ⟨ownsRow_kp hy (kp_grown (S := fun j => u.ownBlock = some j) (kp_alloc (kp_refl _ _) _) hgrow (fun g hg => .inl hg)) (fun g hg hh => hd g hh hg), fun g hg hh => ?_⟩
  rcases hat with h | h
  · rw [h] at hg; exact hd g hg hh
  · have h1 := (ownsRow_lt hy g hh).2
    rw [h] at hg
    injection hg with hg
    simp at hg
    omega
theorem apart_symmF {u v : Value} (h : ∀ g, u.ownBlock = some g → v.ownBlock ≠ some g) : ∀ g, v.ownBlock = some g → u.ownBlock ≠ some g := fun g hg hh => h g hh hg
/-- bytes as texts -/
def txt (l : List (List UInt8)) : List ByteArray := l.map fun f => ⟨f.toArray⟩
theorem txt_length (l : List (List UInt8)) : (txt l).length = l.length := by simp [txt]
theorem txt_snoc (l : List (List UInt8)) (f : List UInt8) : strL (txt (l ++ [f])) = strL (txt l) ++ [.string ⟨f.toArray⟩] := by simp [txt, strL]
theorem info_strF : (Tryd.prog.info? 9).map (fun i => (i.zero, i.size, i.bytes)) = some (some (.string ⟨#[]⟩), 1, 16) := by kernel_rfl
def SplP (S : List UInt8) (k : Nat) (on : Bool) (cur : List UInt8) (done : List (List UInt8)) : Prop :=
  (k = 0 ∧ on = false ∧ cur = [] ∧ done = []) ∨ (1 ≤ k ∧ on = true ∧ splitF S = parse (S.drop k) false cur done)
theorem splP_first {S : List UInt8} {cur : List UInt8} {done : List (List UInt8)} (h : SplP S 0 false cur done) (hk : 0 < S.length) (hc : S[0] = 124) : SplP S 1 true [] [] := by
  cases S with
  | nil => simp at hk
  | cons c S => simp at hc; subst hc; exact .inr ⟨Nat.le_refl _, rfl, by rw [splitF, if_pos rfl]; rfl⟩
theorem splP_not {S : List UInt8} (hk : 0 < S.length) (hc : S[0] ≠ 124) : splitF S = none := by
  cases S with
  | nil => simp at hk
  | cons c S => simp at hc; rw [splitF, if_neg hc]
theorem splP_bar {S : List UInt8} {k : Nat} {cur : List UInt8} {done : List (List UInt8)} (h : SplP S k true cur done) (hk : k < S.length) (hc : S[k] = 124) : SplP S (k + 1) true [] (done ++ [cur]) := by
  rcases h with ⟨_, h, _⟩ | ⟨h1, _, h2⟩
  · cases h
  · exact .inr ⟨by omega, rfl, by rw [h2, List.drop_eq_getElem_cons hk, hc, parse_bar]⟩
theorem splP_oth {S : List UInt8} {k : Nat} {cur : List UInt8} {done : List (List UInt8)} (h : SplP S k true cur done) (hk : k < S.length) (h1 : S[k] ≠ 124) (h2 : S[k] ≠ 92) : SplP S (k + 1) true (cur ++ [S[k]]) done := by
  rcases h with ⟨_, h, _⟩ | ⟨h3, _, h4⟩
  · cases h
  · exact .inr ⟨by omega, rfl, by rw [h4, List.drop_eq_getElem_cons hk, parse_other _ _ _ _ h1 h2]⟩
theorem splP_esc {S : List UInt8} {k : Nat} {cur : List UInt8} {done : List (List UInt8)} (h : SplP S k true cur done) (hk : k + 1 < S.length) (h1 : S[k] = 92) (h2 : spec S[k + 1] = true) : SplP S (k + 2) true (cur ++ [S[k + 1]]) done := by
  rcases h with ⟨_, h, _⟩ | ⟨h3, _, h4⟩
  · cases h
  · exact .inr ⟨by omega, rfl, by rw [h4, List.drop_eq_getElem_cons (by omega : k < S.length), List.drop_eq_getElem_cons hk, h1, parse_esc2 _ _ _ _ h2]⟩
theorem splP_bad {S : List UInt8} {k : Nat} {cur : List UInt8} {done : List (List UInt8)} (h : SplP S k true cur done) (hk : k + 1 < S.length) (h1 : S[k] = 92) (h2 : spec S[k + 1] = false) : splitF S = none := by
  rcases h with ⟨_, h, _⟩ | ⟨h3, _, h4⟩
  · cases h
  · rw [h4, List.drop_eq_getElem_cons (by omega : k < S.length), List.drop_eq_getElem_cons hk, h1, parse_esc_bad _ _ _ _ h2]
theorem splP_cut {S : List UInt8} {k : Nat} {cur : List UInt8} {done : List (List UInt8)} (h : SplP S k true cur done) (hk : k + 1 = S.length) (h1 : S[k] = 92) : splitF S = none := by
  rcases h with ⟨_, h, _⟩ | ⟨h3, _, h4⟩
  · cases h
  · rw [h4, List.drop_eq_getElem_cons (by omega : k < S.length), h1, List.drop_eq_nil_of_le (by omega), parse_esc_end]
theorem splP_end {S : List UInt8} {on : Bool} {cur : List UInt8} {done : List (List UInt8)} (h : SplP S S.length on cur done) : splitF S = some (if on = true then done ++ [cur] else []) := by
  rcases h with ⟨h1, rfl, _⟩ | ⟨_, rfl, h2⟩
  · rw [List.eq_nil_of_length_eq_zero h1]; rfl
  · rw [h2, List.drop_length, parse_nil]; rfl
end Go.Proofs.YtfnkcahnkccekaaDoor
