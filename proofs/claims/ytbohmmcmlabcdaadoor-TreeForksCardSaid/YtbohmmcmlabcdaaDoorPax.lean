/- Bare blocks: their cells, words, digests; trees as rows of digests and blocks. -/
import Derived.Maps.Views
import Derived.Maps.OwnSet
import Derived.Test.YtbohmmcmlabcdaaDoorPab
import Derived.Test.YtbohmmcmlabcdaaDoorPac
import Derived.Test.YtbohmmcmlabcdaaDoorPak
import Derived.Test.YtbohmmcmlabcdaaDoorPaw
import Derived.Test.YtbohmmcmlabcdaaDoorPal
namespace Go.Proofs.YtbohmmcmlabcdaaDoor
set_option linter.unusedSimpArgs false
set_option linter.unusedVariables false
open Go.RowKit Go.Maps
set_option linter.unusedVariables false
set_option linter.unnecessarySimpa false
/-- a block that bears neither votes nor reports -/
structure BB where
 v : Int
 p : Nat
 qv : Int
 qb : Nat
 lo : Int
 hi : Int
structure BB.ok (b : BB) : Prop where
 v : in64 b.v
 p : b.p < 18446744073709551616
 qv : in64 b.qv
 qb : b.qb < 18446744073709551616
 lo : in64 b.lo
 hi : in64 b.hi
/-- .. with the places of its empty rows -/
structure NB where
 b : BB
 A : Option Addr
 c : Nat
 A' : Option Addr
 c' : Nat
def NB.C (n : NB) : Array Value := #[.int .i64 n.b.v, .int .u64 n.b.p, .int .i64 n.b.qv, .int .u64 n.b.qb, .slice n.A 0 n.c, .int .i64 n.b.lo, .int .i64 n.b.hi, .slice n.A' 0 n.c']
def BB.z (b : BB) : NB := ⟨b, none, 0, none, 0⟩
def bb0 : BB := ⟨0, 0, 0, 0, 0, 0⟩
theorem NB.one (n : NB) : n.C.all (·.oneCell') = true := by simp [NB.C, Value.oneCell']
def tagBlk : List UInt8 := [98, 108, 111, 99, 107]
def blkW (b : BB) : List UInt8 := joinF [tagBlk, Lib.itoa b.v, hexL b.p, Lib.itoa b.qv, hexL b.qb, Lib.itoa b.lo, Lib.itoa b.hi]
/-- a block's digest -/
noncomputable def blkD (b : BB) : Nat := if b.v = 0 then 0 else sumL tagBlk (blkW b)
def blkC (b : BB) : Nat := if b.v = 0 then 0 else sumC tagBlk (blkW b)
theorem blkD_C (b : BB) : blkD b = blkC b := by unfold blkD blkC; rw [sumL_C]
theorem blkD_lt (b : BB) : blkD b < 18446744073709551616 := by
 unfold blkD
 split
 ·omega
 ·exact sumL_lt _ _
theorem blkW_len (b : BB) (h : b.ok) : (blkW b).length ≤ 1000 := by
 unfold blkW
 have h1 := itoa_len h.v.1 h.v.2
 have h2 := itoa_len h.qv.1 h.qv.2
 have h3 := itoa_len h.lo.1 h.lo.2
 have h4 := itoa_len h.hi.1 h.hi.2
 have h5 := hexL_length b.p
 have h6 := hexL_length b.qb
 have f1 := fld_len (Lib.itoa b.v)
 have f2 := fld_len (Lib.itoa b.qv)
 have f3 := fld_len (Lib.itoa b.lo)
 have f4 := fld_len (Lib.itoa b.hi)
 have f5 := fld_len (hexL b.p)
 have f6 := fld_len (hexL b.qb)
 have f7 := fld_len tagBlk
 have h7 : tagBlk.length = 5 := rfl
 simp only [joinF, List.flatMap_cons, List.flatMap_nil, List.length_append, List.length_cons, List.length_nil]
 omega
/-! trees -/
abbrev TL := List (Nat × NB)
def tget : TL → Nat → Option NB
 | [], _ => none
 | x :: r, d => if x.1 = d then some x.2 else tget r d
theorem tget_app (L : TL) (x : Nat × NB) (d : Nat) : tget (L ++ [x]) d = (tget L d).or (if x.1 = d then some x.2 else none) := by
 induction L with
 | nil => simp [tget]
 | cons y r ih =>
  simp only [List.cons_append, tget]
  split
  ·simp
  ·exact ih
theorem tget_none {L : TL} {d : Nat} (h : tget L d = none) : ∀ x ∈ L, x.1 ≠ d := by
 induction L with
 | nil => simp
 | cons y r ih =>
  simp only [tget] at h
  split at h
  ·cases h
  ·rename_i hy
   intro x hx
   rcases List.mem_cons.1 hx with rfl | hx
   ·exact hy
   ·exact ih h x hx
theorem tget_mem {L : TL} {d : Nat} {n : NB} (h : tget L d = some n) : (d, n) ∈ L := by
 induction L with
 | nil => simp [tget] at h
 | cons y r ih =>
  simp only [tget] at h
  split at h
  ·rename_i hy
   injection h with h
   subst h; subst hy
   exact List.mem_cons_self
  ·exact List.mem_cons_of_mem _ (ih h)
noncomputable def trD (L : TL) : DataW Value := L.foldl (fun D x => D.put (.int .u64 (x.1 : Nat)) (.held (.agg x.2.C))) (.map [])
theorem trD_app (L : TL) (x : Nat × NB) : trD (L ++ [x]) = (trD L).put (.int .u64 (x.1 : Nat)) (.held (.agg x.2.C)) := by simp [trD]
theorem lit_ne {a b : Nat} (h : a ≠ b) : (Lit.int .u64 (a : Nat)) ≠ Lit.int .u64 (b : Nat) := by intro e; injection e with _ e; omega
theorem trD_facts (L : TL) (hn : (L.map (·.1)).Nodup) : Tidy (trD L) ∧ Maps.size (trD L) = L.length ∧ (∀ d : Nat, Maps.has (trD L) (.int .u64 (d : Nat)) = (tget L d).isSome) ∧ (∀ (d : Nat) (n : NB) (z : DataW Value), tget L d = some n → (trD L).atKey (.int .u64 (d : Nat)) z = .held (.agg n.C)) := by
 suffices h : ∀ n, n ≤ L.length → Tidy (trD (L.take n)) ∧ Maps.size (trD (L.take n)) = n ∧ (∀ d : Nat, Maps.has (trD (L.take n)) (.int .u64 (d : Nat)) = (tget (L.take n) d).isSome) ∧ (∀ (d : Nat) (m : NB) (z : DataW Value), tget (L.take n) d = some m → (trD (L.take n)).atKey (.int .u64 (d : Nat)) z = .held (.agg m.C)) by
  have := h L.length (Nat.le_refl _)
  rwa [List.take_length] at this
 intro n
 induction n with
 | zero => intro _; exact ⟨by simp [trD, tidy_empty], by simp [trD, Maps.size], fun d => by simp [trD, Maps.has, tget], fun d m z hd => by simp [tget] at hd⟩
 | succ n ih =>
  intro hl
  obtain ⟨h1, h2, h3, h4⟩ := ih (by omega)
  have hts : L.take (n + 1) = L.take n ++ [L[n]] := by rw [List.take_succ_eq_append_getElem (by omega)]
  have hnew : tget (L.take n) L[n].1 = none := by
   cases hg : tget (L.take n) L[n].1 with
   | none => rfl
   | some m =>
    exfalso
    have hm := tget_mem hg
    have hn2 : ((L.take (n + 1)).map (·.1)).Nodup := hn.sublist ((List.take_sublist _ _).map _)
    rw [hts, List.map_append] at hn2
    have hd := (List.nodup_append.1 hn2).2.2
    exact hd _ (List.mem_map.2 ⟨_, hm, rfl⟩) _ (by simp) rfl
  rw [hts]
  generalize L[n] = y at *
  generalize L.take n = M at *
  have hf : Maps.has (trD M) (.int .u64 (y.1 : Nat)) = false := by rw [h3, hnew]; rfl
  rw [trD_app]
  refine ⟨h1.put (by simp [WideAt.IsKeyLit]) _, ?_, fun d => ?_, fun d m z hd => ?_⟩
  ·have := Maps.size_put (k := .int .u64 (y.1 : Nat)) h1 (.held (.agg y.2.C))
   rw [hf, h2] at this
   simpa using this
  ·rw [tget_app]
   by_cases hd : y.1 = d
   ·subst hd
    rw [has_put_same h1.isMap (by simp [WideAt.IsKeyLit]), hnew]
    simp
   ·rw [has_put_other (lit_ne (Ne.symm hd)), h3, if_neg hd]
    simp
  ·rw [tget_app] at hd
   by_cases hy : y.1 = d
   ·subst hy
    rw [hnew] at hd
    simp at hd
    subst hd
    exact atKey_put_same h1.isMap (by simp [WideAt.IsKeyLit]) _ _
   ·rw [if_neg hy] at hd
    rw [atKey_put_other (lit_ne (Ne.symm hy))]
    exact h4 d m z (by simpa using hd)
/-- the way from d up to Genesis -/
inductive Way (L : TL) : Nat → List Nat → Prop
 | root : (tget L 0).isSome = true → Way L 0 [0]
 | step {d : Nat} {n : NB} {l : List Nat} : d ≠ 0 → tget L d = some n → Way L n.b.p l → Way L d (d :: l)
theorem Way.has {L : TL} {d : Nat} {l : List Nat} (h : Way L d l) : (tget L d).isSome = true := by
 cases h with
 | root h => exact h
 | step _ h _ => rw [h]; rfl
theorem Way.ne {L : TL} {d : Nat} {l : List Nat} (h : Way L d l) : l ≠ [] := by cases h <;> simp
theorem Way.head {L : TL} {d : Nat} {l : List Nat} (h : Way L d l) : ∃ r, l = d :: r := by
 cases h with
 | root _ => exact ⟨[], rfl⟩
 | step _ _ _ => exact ⟨_, rfl⟩
end Go.Proofs.YtbohmmcmlabcdaaDoor

namespace Go.Proofs.YtbohmmcmlabcdaaDoor
set_option linter.unusedSimpArgs false
set_option linter.unusedVariables false
open Go.RowKit
set_option linter.unusedVariables false
set_option linter.unnecessarySimpa false
set_option maxRecDepth 20000
def fsT : List Nat := [0, 15207245438665048937, 9246956716546406834, 18220417638898545749, 15144991905814429422, 695510333882145170, 9430642276138877386, 13563222252793609325]
def fs (i : Nat) : Nat := fsT.getD i 0
def f1T : List (List Nat) := [[0, 1436251077379021347, 12309925105618026877, 5761239766555030189, 11155557754899450593, 9041306511752180728, 5499578669701157881], [15207245438665048937, 11173148519875534406, 6738519101465322284, 4006001691707162488, 8997424688084734902, 8316882533638741288, 15122406679996970190], [9246956716546406834, 8664964613415925917, 2726577074853920278, 8610101345997148387, 4032147569927711729, 9356842178754660065, 9236016636376222408], [18220417638898545749, 3172712973141540851, 7063953202282628556, 7147390941061494639, 14173456189169621012, 15716201119066533474, 280246025139233379], [15144991905814429422, 8456444572672437446, 81833146301756442, 10815142828901716774, 476895776872203668, 1586287468487464725, 4105840469041491113], [695510333882145170, 2117786035302673879, 15261560385806076626, 11521247236394304712, 13759777721625955411, 11836301626463814321, 2873963391943552380], [9430642276138877386, 8156450107685433383, 12877867949543993276, 9224395278801175938, 12079248421494650688, 16975114685135753909, 9489107696889511983], [13563222252793609325, 5296506033071404027, 3196770225229354835, 5598761336068485326, 14891815581968244773, 2338916369816172248, 7257438796942296482]]
def f2T : List (List Nat) := [[0, 898389654222633880, 3645917144749431895, 1379860710485991769, 2286366258288277185, 13802653581424279132, 10270437493088064207], [15207245438665048937, 1919484180521055362, 6521113299595901467, 1907175021482985578, 7686401024753111188, 4884773003253491082, 8611126124124720277], [9246956716546406834, 5542101689545591034, 7703148542477558352, 4334434186514240524, 13488416816282638216, 9115461225741935977, 1023604475321258418], [18220417638898545749, 7727070352890386544, 13504354306268273814, 14901715545592493161, 9702367625537157859, 14747453134983563666, 8444469490467415617], [15144991905814429422, 6368831170327032282, 1250202645042142269, 9122736321534281745, 8350945041815332220, 7620074347073603253, 10381466223522693004], [695510333882145170, 12777595169362721979, 17329525639941077486, 18062709401771137212, 1516681243543232798, 10005892857876990009, 17697171423563120170], [9430642276138877386, 16059702241763892313, 16497354501145209260, 10417129042860101697, 10568383168494277567, 581287610019223735, 18442839560683802597], [13563222252793609325, 1134834913644243630, 12353814929266215136, 1355604742527478010, 1697706507632924362, 8922138141818797361, 15985916383626087638]]
def f1 (s i : Nat) : Nat := (f1T.getD s []).getD i 0
def f2 (s i : Nat) : Nat := (f2T.getD s []).getD i 0
def stmB (i : Nat) : BB := ⟨i + 1, fs i, 0, fs i, 10 * i, 10 * i + 10⟩
def oneB (s i : Nat) : BB := ⟨s + 1 + 2 * i, f1 s i, 0, f1 s i, 10 * s + 3 * i, 10 * s + 3 * i + 3⟩
def twoB (s i : Nat) : BB := ⟨s + 2 + 2 * i, f2 s i, 0, f2 s i, 10 * s + 4 * i, 10 * s + 4 * i + 4⟩
theorem fs_step : ∀ i, i < 7 → blkC (stmB i) = fs (i + 1) := by decide +kernel
theorem f1_step : ∀ s, s < 8 → ∀ i, i < 6 → blkC (oneB s i) = f1 s (i + 1) := by decide +kernel
theorem f2_step : ∀ s, s < 8 → ∀ i, i < 6 → blkC (twoB s i) = f2 s (i + 1) := by decide +kernel
theorem f1_zero : ∀ s, s < 8 → f1 s 0 = fs s := by decide +kernel
theorem f2_zero : ∀ s, s < 8 → f2 s 0 = fs s := by decide +kernel
theorem fk_lt : (∀ x ∈ fsT, x < 18446744073709551616) ∧ (∀ s, s < 8 → (∀ x ∈ f1T.getD s [], x < 18446744073709551616) ∧ (∀ x ∈ f2T.getD s [], x < 18446744073709551616)) := by decide +kernel
theorem fk_len : fsT.length = 8 ∧ (∀ s, s < 8 → (f1T.getD s []).length = 7 ∧ (f2T.getD s []).length = 7) := by decide +kernel
end Go.Proofs.YtbohmmcmlabcdaaDoor
