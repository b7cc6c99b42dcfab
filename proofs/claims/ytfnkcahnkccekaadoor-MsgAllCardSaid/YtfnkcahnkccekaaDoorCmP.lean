/- A command, plain: five numbers. -/
import Derived.Test.YtfnkcahnkccekaaDoorNmC
import Derived.WalkKit
namespace Go.Proofs.YtfnkcahnkccekaaDoor
open Go.RowKit
structure Cm where
  cl : Int
  no : Int
  fr : Int
  tt : Int
  am : Int
  deriving DecidableEq
def Cm.l (c : Cm) : List Int := [c.cl, c.no, c.fr, c.tt, c.am]
def Cm.in (c : Cm) : Prop := ∀ x ∈ c.l, in64 x
def Cm.v (c : Cm) : Value := .agg #[.int .i64 c.cl, .int .i64 c.no, .int .i64 c.fr, .int .i64 c.tt, .int .i64 c.am]
def Cm.zero : Cm := ⟨0, 0, 0, 0, 0⟩
def okC (c : Cm) : Prop := 0 ≤ c.cl ∧ c.cl < 16 ∧ 0 ≤ c.no ∧ c.no ≤ 1048576 ∧ 0 ≤ c.fr ∧ c.fr < 16 ∧ 0 ≤ c.tt ∧ c.tt < 16 ∧ c.fr ≠ c.tt ∧ 1 ≤ c.am ∧ c.am ≤ 1099511627776
instance (c : Cm) : Decidable (okC c) := by unfold okC; infer_instance
def chkC (c : Cm) : Int := if okC c then 0 else 1
/-- a command in words -/
def txC (c : Cm) : List UInt8 := nums c.l
def smallC (n : Int) : Prop := -2147483648 ≤ n ∧ n < 2147483648
instance (n : Int) : Decidable (smallC n) := by unfold smallC; infer_instance
/-- five numbers as a command -/
def ofL : List Int → Option Cm
  | [a, b, c, d, e] => some ⟨a, b, c, d, e⟩
  | _ => none
/-- any text as a command, or why it is none -/
def parC (s : List UInt8) : Cm × Int :=
  if (pnums s).2 ≠ 0 then (Cm.zero, (pnums s).2) else
  match ofL (pnums s).1 with
  | none => (Cm.zero, 2)
  | some c => if smallC c.cl ∧ smallC c.no ∧ smallC c.fr ∧ smallC c.tt then if okC c then (c, 0) else (Cm.zero, 1) else (Cm.zero, 2)
theorem chkC_no {c : Cm} (h : ¬ okC c) : chkC c = 1 := if_neg h
theorem chkC_ok {c : Cm} (h : okC c) : chkC c = 0 := if_pos h
theorem Cm.in_of {c : Cm} (h1 : in64 c.cl) (h2 : in64 c.no) (h3 : in64 c.fr) (h4 : in64 c.tt) (h5 : in64 c.am) : c.in := by
  intro x hx
  simp only [Cm.l, List.mem_cons, List.not_mem_nil, or_false] at hx
  rcases hx with rfl | rfl | rfl | rfl | rfl <;> assumption
theorem parC_bad {s : List UInt8} {v : List Int} {ev : Int} (h : pnums s = (v, ev)) (hev : ev ≠ 0) : parC s = (Cm.zero, ev) := by
  unfold parC
  rw [h]
  exact if_pos hev
theorem ofL_none {v : List Int} (h : v.length ≠ 5) : ofL v = none := by
  unfold ofL
  split
  · exact absurd rfl h
  · rfl
theorem parC_len {s : List UInt8} {v : List Int} (h : pnums s = (v, 0)) (hl : v.length ≠ 5) : parC s = (Cm.zero, 2) := by
  unfold parC
  rw [h]
  dsimp only
  rw [if_neg (fun h => h rfl), ofL_none hl]
theorem parC_l5 {s : List UInt8} {a b c d e : Int} (h : pnums s = ([a, b, c, d, e], 0)) : parC s = if smallC a ∧ smallC b ∧ smallC c ∧ smallC d then if okC ⟨a, b, c, d, e⟩ then (⟨a, b, c, d, e⟩, 0) else (Cm.zero, 1) else (Cm.zero, 2) := by
  unfold parC
  rw [h]
  dsimp only
  rw [if_neg (fun h => h rfl)]
  rfl
theorem parC_far {s : List UInt8} {a b c d e : Int} (h : pnums s = ([a, b, c, d, e], 0)) (hn : ¬ (smallC a ∧ smallC b ∧ smallC c ∧ smallC d)) : parC s = (Cm.zero, 2) := by
  rw [parC_l5 h, if_neg hn]
theorem parC_arg {s : List UInt8} {a b c d e : Int} (h : pnums s = ([a, b, c, d, e], 0)) (hn : smallC a ∧ smallC b ∧ smallC c ∧ smallC d) (hk : ¬ okC ⟨a, b, c, d, e⟩) : parC s = (Cm.zero, 1) := by
  rw [parC_l5 h, if_pos hn, if_neg hk]
theorem parC_five {s : List UInt8} {a b c d e : Int} (h : pnums s = ([a, b, c, d, e], 0)) (hn : smallC a ∧ smallC b ∧ smallC c ∧ smallC d) (hk : okC ⟨a, b, c, d, e⟩) : parC s = (⟨a, b, c, d, e⟩, 0) := by
  rw [parC_l5 h, if_pos hn, if_pos hk]
/-- a command's words are five numbers -/
theorem pnums_txC {c : Cm} (h : c.in) : pnums (txC c) = (c.l, 0) := pnums_nums c.l h
theorem parC_txC {c : Cm} (h : okC c) (hi : c.in) : parC (txC c) = (c, 0) := by
  have := pnums_txC hi
  unfold okC at h
  exact parC_five this (by unfold smallC; omega) (by unfold okC; exact h)
theorem txC_inj {a b : Cm} (ha : a.in) (hb : b.in) (h : txC a = txC b) : a = b := by
  have h1 := pnums_txC ha
  rw [h, pnums_txC hb] at h1
  injection h1 with h1 _
  obtain ⟨a0, a1, a2, a3, a4⟩ := a
  obtain ⟨b0, b1, b2, b3, b4⟩ := b
  simp only [Cm.l, List.cons.injEq] at h1
  obtain ⟨h0, h1, h2, h3, h4, _⟩ := h1
  subst h0 h1 h2 h3 h4
  rfl
end Go.Proofs.YtfnkcahnkccekaaDoor
