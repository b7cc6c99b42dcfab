/- folkmoot/folkmootlaw1.Ints. -/
import Derived.Test.YtpgbfglfgcidaaaDoorProg
import Derived.Test.YtpgbfglfgcidaaaDoorZag
import Derived.Test.YtpgbfglfgcidaaaDoorZab
import Derived.Laws.MakeOwn
namespace Go.Proofs.YtpgbfglfgcidaaaDoor
set_option linter.unusedSimpArgs false
set_option linter.unusedVariables false
open Go.RowKit
set_option linter.unusedVariables false
end Go.Proofs.YtpgbfglfgcidaaaDoor

namespace Go.Proofs.YtpgbfglfgcidaaaDoor
set_option linter.unusedSimpArgs false
set_option linter.unusedVariables false
open Go.RowKit
set_option linter.unusedVariables false
def strL (l : List ByteArray) : List Value := l.map .string
theorem strL_length (l : List ByteArray) : (strL l).length = l.length := by simp [strL]
theorem rd_str {w : World} {B : Nat} {A : Option Addr} {l : List ByteArray} (h : Rd w B A (strL l)) (k : Nat) (hk : k < l.length) : ∃ ad, A = some ad ∧ ad.block < B ∧ w.cell? (ad.add k) = some (.string l[k]) := by
  obtain ⟨ad, h1, h2, h3⟩ := h k (by rw [strL_length]; exact hk)
  exact ⟨ad, h1, h2, by rw [h3]; simp [strL]⟩
/-- the texts' bytes -/
def bys (l : List ByteArray) : List (List UInt8) := l.map fun s => s.data.toList
/-- bytes as cells -/
def byL (l : List UInt8) : List Value := l.map byteV
theorem byL_length (l : List UInt8) : (byL l).length = l.length := by simp [byL]
theorem byL_append (a b : List UInt8) : byL (a ++ b) = byL a ++ byL b := by simp [byL]
theorem byL_one (l : List UInt8) : ∀ u ∈ byL l, u.oneCell' = true := by
  intro u hu
  obtain ⟨c, _, rfl⟩ := List.mem_map.1 hu
  rfl
theorem take_byte (s : ByteArray) (k : Nat) (h : k < s.size) : s.data.toList.take (k + 1) = s.data.toList.take k ++ [s[k]] := by
  have hk : k < s.data.toList.length := by simpa using h
  rw [List.take_succ_eq_append_getElem hk]
  rfl
theorem bys_take (l : List ByteArray) (i : Nat) (h : i < l.length) : bys (l.take (i + 1)) = bys (l.take i) ++ [l[i].data.toList] := by
  rw [List.take_succ_eq_append_getElem h]
  unfold bys
  rw [List.map_append]
  rfl
theorem fld_take (s : ByteArray) (k : Nat) (h : k < s.size) : fld (s.data.toList.take (k + 1)) = fld (s.data.toList.take k) ++ esc s[k] := by
  rw [take_byte s k h, fld_append, fld_cons, fld_nil, List.append_nil]
theorem fld_take_le (f : List UInt8) (k : Nat) : (fld (f.take k)).length ≤ (fld f).length := by
  have h := fld_append (f.take k) (f.drop k)
  rw [List.take_append_drop] at h
  rw [h]; simp
theorem join_take_le (l : List (List UInt8)) (k : Nat) : (joinF (l.take k)).length ≤ (joinF l).length := by
  have h := joinF_append (l.take k) (l.drop k)
  rw [List.take_append_drop] at h
  rw [h]; simp
theorem info_u8 : (Tryd.prog.info? 5).map (fun i => (i.zero, i.size, i.bytes)) = some (some (.int .u8 0), 1, 1) := by kernel_rfl
end Go.Proofs.YtpgbfglfgcidaaaDoor

namespace Go.Proofs.YtpgbfglfgcidaaaDoor
set_option linter.unusedSimpArgs false
set_option linter.unusedVariables false
open Go.RowKit
set_option linter.unusedVariables false
end Go.Proofs.YtpgbfglfgcidaaaDoor

namespace Go.Proofs.YtpgbfglfgcidaaaDoor
set_option linter.unusedSimpArgs false
set_option linter.unusedVariables false
open Go.RowKit
set_option linter.unusedVariables false
theorem grew_put {a b c : World} {o : Obj} {r : Option Nat} (h : Grew a b) (k : (b.alloc o).grownBy c r) (hr : ∀ i, r = some i → a.heap.size ≤ i) : Grew a c := (h.alloc h.size o).grown k (by have := h.size; simp; omega) hr
theorem esc_len (c : UInt8) : (esc c).length ≤ 2 := by
  unfold esc; split <;> simp
theorem fld_len (f : List UInt8) : (fld f).length ≤ 2 * f.length := by
  induction f with
  | nil => simp [fld_nil]
  | cons c f ih => rw [fld_cons, List.length_append, List.length_cons]; have := esc_len c; omega
theorem fld_ge (f : List UInt8) : f.length ≤ (fld f).length := by
  induction f with
  | nil => simp
  | cons c f ih =>
    rw [fld_cons, List.length_append, List.length_cons]
    have : 1 ≤ (esc c).length := by unfold esc; split <;> simp
    omega
theorem row_two {w : World} {b n f : Nat} {e : TypeId} {v : Value} {P F : List UInt8} {c0 : UInt8} (h : w.ownsRow b e 1 v (n + f + 1 + 1) (byL (P ++ F) ++ [.int .u8 92] ++ [.int .u8 (c0.toNat : Int)])) : w.ownsRow b e 1 v (n + (f + [(92 : UInt8), c0].length)) (byL (P ++ (F ++ [92, c0]))) := by
  have e1 : byL (P ++ (F ++ [92, c0])) = byL (P ++ F) ++ [.int .u8 92] ++ [.int .u8 (c0.toNat : Int)] := by
    rw [← List.append_assoc, byL_append (P ++ F)]
    simp [byL, byteV]
  rw [e1, show n + (f + [(92 : UInt8), c0].length) = n + f + 1 + 1 by simp; omega]
  exact h
theorem row_one1 {w : World} {b n f : Nat} {e : TypeId} {v : Value} {P F : List UInt8} {c0 : UInt8} (h : w.ownsRow b e 1 v (n + f + 1) (byL (P ++ F) ++ [.int .u8 (c0.toNat : Int)])) : w.ownsRow b e 1 v (n + (f + [c0].length)) (byL (P ++ (F ++ [c0]))) := by
  have e1 : byL (P ++ (F ++ [c0])) = byL (P ++ F) ++ [.int .u8 (c0.toNat : Int)] := by
    rw [← List.append_assoc, byL_append (P ++ F)]
    simp [byL, byteV]
  rw [e1, show n + (f + [c0].length) = n + f + 1 by simp; omega]
  exact h
end Go.Proofs.YtpgbfglfgcidaaaDoor

namespace Go.Proofs.YtpgbfglfgcidaaaDoor
set_option linter.unusedSimpArgs false
set_option linter.unusedVariables false
open Go.RowKit
set_option linter.unusedVariables false
def tot (l : List ByteArray) : Nat := (l.map fun s => s.size).sum
theorem tot_snoc (l : List ByteArray) (s : ByteArray) : tot (l ++ [s]) = tot l + s.size := by simp [tot]
theorem tot_le (l : List ByteArray) : l.length + tot l ≤ (joinF (bys l)).length := by
  induction l with
  | nil => simp [tot]
  | cons s l ih =>
    have h1 : bys (s :: l) = s.data.toList :: bys l := rfl
    have h2 := fld_ge s.data.toList
    have h3 : s.data.toList.length = s.size := by simp
    have h4 : tot (s :: l) = s.size + tot l := by simp [tot]
    rw [h1, joinF_cons, h4]
    simp only [List.length_cons, List.length_append]
    omega
theorem tot_append (a b : List ByteArray) : tot (a ++ b) = tot a + tot b := by simp [tot]
theorem tot_take_le (l : List ByteArray) (k : Nat) : tot (l.take k) ≤ tot l := by
  have h := tot_append (l.take k) (l.drop k)
  rw [List.take_append_drop] at h
  omega
end Go.Proofs.YtpgbfglfgcidaaaDoor

namespace Go.Proofs.YtpgbfglfgcidaaaDoor
set_option linter.unusedSimpArgs false
set_option linter.unusedVariables false
open Go.RowKit
set_option linter.unusedVariables false
def cntRes : Option (List (List UInt8)) → Value
  | none => .tuple #[.int .i64 0, .int .i64 2]
  | some l => .tuple #[.int .i64 (l.length : Int), .int .i64 0]
/-- what count knows when k bytes are behind it -/
def CntP (S : List UInt8) (k n : Nat) : Prop := (k = 0 ∧ n = 0) ∨ ∃ cur done, splitF S = parse (S.drop k) false cur done ∧ n = done.length + 1
theorem cntP_bar {S : List UInt8} {k n : Nat} (h : CntP S k n) (hk : k < S.length) (hc : S[k] = 124) : CntP S (k + 1) (n + 1) := by
  rcases h with ⟨rfl, rfl⟩ | ⟨cur, done, h1, rfl⟩
  · refine .inr ⟨[], [], ?_, rfl⟩
    cases S with
    | nil => simp at hk
    | cons c S => simp at hc; subst hc; rw [splitF, if_pos rfl]; rfl
  · refine .inr ⟨[], done ++ [cur], ?_, by simp⟩
    rw [h1, List.drop_eq_getElem_cons hk, hc, parse_bar]
theorem cntP_oth {S : List UInt8} {k n : Nat} (h : CntP S k n) (h0 : 1 ≤ k) (hk : k < S.length) (h1 : S[k] ≠ 124) (h2 : S[k] ≠ 92) : CntP S (k + 1) n := by
  rcases h with ⟨rfl, _⟩ | ⟨cur, done, he, rfl⟩
  · omega
  · exact .inr ⟨cur ++ [S[k]], done, by rw [he, List.drop_eq_getElem_cons hk, parse_other _ _ _ _ h1 h2], rfl⟩
theorem cntP_esc {S : List UInt8} {k n : Nat} (h : CntP S k n) (h0 : 1 ≤ k) (hk : k + 1 < S.length) (h1 : S[k] = 92) (h2 : spec S[k + 1] = true) : CntP S (k + 2) n := by
  rcases h with ⟨rfl, _⟩ | ⟨cur, done, he, rfl⟩
  · omega
  · exact .inr ⟨cur ++ [S[k + 1]], done, by rw [he, List.drop_eq_getElem_cons (by omega : k < S.length), List.drop_eq_getElem_cons hk, h1, parse_esc2 _ _ _ _ h2], rfl⟩
theorem cntP_bad {S : List UInt8} {k n : Nat} (h : CntP S k n) (h0 : 1 ≤ k) (hk : k + 1 < S.length) (h1 : S[k] = 92) (h2 : spec S[k + 1] = false) : splitF S = none := by
  rcases h with ⟨rfl, _⟩ | ⟨cur, done, he, rfl⟩
  · omega
  · rw [he, List.drop_eq_getElem_cons (by omega : k < S.length), List.drop_eq_getElem_cons hk, h1, parse_esc_bad _ _ _ _ h2]
theorem cntP_cut {S : List UInt8} {k n : Nat} (h : CntP S k n) (h0 : 1 ≤ k) (hk : k + 1 = S.length) (h1 : S[k] = 92) : splitF S = none := by
  rcases h with ⟨rfl, _⟩ | ⟨cur, done, he, rfl⟩
  · omega
  · rw [he, List.drop_eq_getElem_cons (by omega : k < S.length), h1, List.drop_eq_nil_of_le (by omega), parse_esc_end]
theorem cntP_end {S : List UInt8} {n : Nat} (h : CntP S S.length n) : ∃ l, splitF S = some l ∧ n = l.length := by
  rcases h with ⟨h0, rfl⟩ | ⟨cur, done, he, rfl⟩
  · exact ⟨[], by rw [List.eq_nil_of_length_eq_zero h0]; rfl, rfl⟩
  · exact ⟨done ++ [cur], by rw [he, List.drop_length, parse_nil], by simp⟩
theorem u8_eq (c : UInt8) (n : Nat) (hn : n < 256) (h : (c.toNat : Int) = (n : Int)) : c = UInt8.ofNat n := UInt8.toNat_inj.1 (by rw [UInt8.toNat_ofNat']; omega)
end Go.Proofs.YtpgbfglfgcidaaaDoor

namespace Go.Proofs.YtpgbfglfgcidaaaDoor
set_option linter.unusedSimpArgs false
set_option linter.unusedVariables false
open Go.RowKit
set_option linter.unusedVariables false
theorem get_list (s : ByteArray) (k : Nat) (h : k < s.size) (h' : k < s.data.toList.length) : s.data.toList[k] = s[k] := rfl
end Go.Proofs.YtpgbfglfgcidaaaDoor

namespace Go.Proofs.YtpgbfglfgcidaaaDoor
set_option linter.unusedSimpArgs false
set_option linter.unusedVariables false
open Go.RowKit
set_option linter.unusedVariables false
theorem ba_ne {s t : ByteArray} (h : s ≠ t) : ¬ s.toList = t.toList := fun e => h (by
  rw [ByteArray.toList_eq, ByteArray.toList_eq] at e
  cases s; cases t
  congr 1
  exact Array.toList_inj.1 e)
end Go.Proofs.YtpgbfglfgcidaaaDoor

namespace Go.Proofs.YtpgbfglfgcidaaaDoor
set_option linter.unusedSimpArgs false
set_option linter.unusedVariables false
open Go.RowKit
set_option linter.unusedVariables false
theorem two_stepF {w w' : World} {base nY : Nat} {e : TypeId} {u v y : Value} {ys : List Value} {o : Obj} (hy : w.ownsRow base e 1 y nY ys) (hd : ∀ g, u.ownBlock = some g → y.ownBlock ≠ some g)
    (hgrow : (w.alloc o).grownBy w' u.ownBlock) (hat : v.ownBlock = u.ownBlock ∨ v.ownBlock = some (w.alloc o).heap.size) : w'.ownsRow base e 1 y nY ys ∧ ∀ g, v.ownBlock = some g → y.ownBlock ≠ some g := by
  refine ⟨ownsRow_kp hy (kp_grown (S := fun j => u.ownBlock = some j) (kp_alloc (kp_refl _ _) _) hgrow (fun g hg => .inl hg)) (fun g hg hh => hd g hh hg), fun g hg hh => ?_⟩
  rcases hat with h | h
  · rw [h] at hg; exact hd g hg hh
  · have h1 := (ownsRow_lt hy g hh).2
    rw [h] at hg
    injection hg with hg
    simp at hg
    omega
theorem apart_symmF {u v : Value} (h : ∀ g, u.ownBlock = some g → v.ownBlock ≠ some g) : ∀ g, v.ownBlock = some g → u.ownBlock ≠ some g := fun g hg hh => h g hh hg
/-- bytes as texts -/
def txt (l : List (List UInt8)) : List ByteArray := l.map fun f => ⟨f.toArray⟩
theorem txt_length (l : List (List UInt8)) : (txt l).length = l.length := by simp [txt]
theorem txt_snoc (l : List (List UInt8)) (f : List UInt8) : strL (txt (l ++ [f])) = strL (txt l) ++ [.string ⟨f.toArray⟩] := by simp [txt, strL]
theorem info_strF : (Tryd.prog.info? 9).map (fun i => (i.zero, i.size, i.bytes)) = some (some (.string ⟨#[]⟩), 1, 16) := by kernel_rfl
def SplP (S : List UInt8) (k : Nat) (on : Bool) (cur : List UInt8) (done : List (List UInt8)) : Prop :=
  (k = 0 ∧ on = false ∧ cur = [] ∧ done = []) ∨ (1 ≤ k ∧ on = true ∧ splitF S = parse (S.drop k) false cur done)
theorem splP_first {S : List UInt8} {cur : List UInt8} {done : List (List UInt8)} (h : SplP S 0 false cur done) (hk : 0 < S.length) (hc : S[0] = 124) : SplP S 1 true [] [] := by
  cases S with
  | nil => simp at hk
  | cons c S => simp at hc; subst hc; exact .inr ⟨Nat.le_refl _, rfl, by rw [splitF, if_pos rfl]; rfl⟩
theorem splP_not {S : List UInt8} (hk : 0 < S.length) (hc : S[0] ≠ 124) : splitF S = none := by
  cases S with
  | nil => simp at hk
  | cons c S => simp at hc; rw [splitF, if_neg hc]
theorem splP_bar {S : List UInt8} {k : Nat} {cur : List UInt8} {done : List (List UInt8)} (h : SplP S k true cur done) (hk : k < S.length) (hc : S[k] = 124) : SplP S (k + 1) true [] (done ++ [cur]) := by
  rcases h with ⟨_, h, _⟩ | ⟨h1, _, h2⟩
  · cases h
  · exact .inr ⟨by omega, rfl, by rw [h2, List.drop_eq_getElem_cons hk, hc, parse_bar]⟩
theorem splP_oth {S : List UInt8} {k : Nat} {cur : List UInt8} {done : List (List UInt8)} (h : SplP S k true cur done) (hk : k < S.length) (h1 : S[k] ≠ 124) (h2 : S[k] ≠ 92) : SplP S (k + 1) true (cur ++ [S[k]]) done := by
  rcases h with ⟨_, h, _⟩ | ⟨h3, _, h4⟩
  · cases h
  · exact .inr ⟨by omega, rfl, by rw [h4, List.drop_eq_getElem_cons hk, parse_other _ _ _ _ h1 h2]⟩
theorem splP_esc {S : List UInt8} {k : Nat} {cur : List UInt8} {done : List (List UInt8)} (h : SplP S k true cur done) (hk : k + 1 < S.length) (h1 : S[k] = 92) (h2 : spec S[k + 1] = true) : SplP S (k + 2) true (cur ++ [S[k + 1]]) done := by
  rcases h with ⟨_, h, _⟩ | ⟨h3, _, h4⟩
  · cases h
  · exact .inr ⟨by omega, rfl, by rw [h4, List.drop_eq_getElem_cons (by omega : k < S.length), List.drop_eq_getElem_cons hk, h1, parse_esc2 _ _ _ _ h2]⟩
theorem splP_bad {S : List UInt8} {k : Nat} {cur : List UInt8} {done : List (List UInt8)} (h : SplP S k true cur done) (hk : k + 1 < S.length) (h1 : S[k] = 92) (h2 : spec S[k + 1] = false) : splitF S = none := by
  rcases h with ⟨_, h, _⟩ | ⟨h3, _, h4⟩
  · cases h
  · rw [h4, List.drop_eq_getElem_cons (by omega : k < S.length), List.drop_eq_getElem_cons hk, h1, parse_esc_bad _ _ _ _ h2]
theorem splP_cut {S : List UInt8} {k : Nat} {cur : List UInt8} {done : List (List UInt8)} (h : SplP S k true cur done) (hk : k + 1 = S.length) (h1 : S[k] = 92) : splitF S = none := by
  rcases h with ⟨_, h, _⟩ | ⟨h3, _, h4⟩
  · cases h
  · rw [h4, List.drop_eq_getElem_cons (by omega : k < S.length), h1, List.drop_eq_nil_of_le (by omega), parse_esc_end]
theorem splP_end {S : List UInt8} {on : Bool} {cur : List UInt8} {done : List (List UInt8)} (h : SplP S S.length on cur done) : splitF S = some (if on = true then done ++ [cur] else []) := by
  rcases h with ⟨h1, rfl, _⟩ | ⟨_, rfl, h2⟩
  · rw [List.eq_nil_of_length_eq_zero h1]; rfl
  · rw [h2, List.drop_length, parse_nil]; rfl
end Go.Proofs.YtpgbfglfgcidaaaDoor

namespace Go.Proofs.YtpgbfglfgcidaaaDoor
set_option linter.unusedSimpArgs false
set_option linter.unusedVariables false
open Go.RowKit
set_option linter.unusedVariables false
/-- what Split hands back -/
def SplOut (S : List UInt8) (w : World) (e : Ending) (w' : World) : Prop :=
  (splitF S = none ∧ e = .returned (.tuple #[.slice none 0 0, .int .i64 2])) ∨
  ∃ l, splitF S = some l ∧ ((4096 < l.length ∧ e = .returned (.tuple #[.slice none 0 0, .int .i64 4])) ∨ (l.length ≤ 4096 ∧ ∃ v, e = .returned (.tuple #[v, .int .i64 0]) ∧ w'.ownsRow w.heap.size 9 1 v l.length (strL (txt l))))
end Go.Proofs.YtpgbfglfgcidaaaDoor

namespace Go.Proofs.YtpgbfglfgcidaaaDoor
set_option linter.unusedSimpArgs false
set_option linter.unusedVariables false
open Go.RowKit
set_option linter.unusedVariables false
def shortB (l : List ByteArray) : Bool := decide (l.length ≤ 100) && l.all fun s => decide (s.size ≤ 200)
end Go.Proofs.YtpgbfglfgcidaaaDoor
