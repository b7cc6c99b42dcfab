/- Numbers in words, as functions: decimal numerals and back. -/
import Derived.Lib.ItoaNum
import Derived.Lib.ParseIntB
import Derived.Lib.Strings
namespace Go.Proofs.YtfnkcahnkccekaaDoor
open Go.Lib
set_option linter.unusedVariables false
def dig (c : UInt8) : Bool := decide (48 ≤ c.toNat) && decide (c.toNat ≤ 57)
/-- the value of digits -/
def dval (l : List UInt8) : Nat := l.foldl (fun a c => a * 10 + (c.toNat - 48)) 0
theorem dval_snoc (l : List UInt8) (c : UInt8) : dval (l ++ [c]) = dval l * 10 + (c.toNat - 48) := by simp [dval]
theorem dval_nil : dval [] = 0 := rfl
/-- digits of a number, no 0 ahead but alone -/
def isDec (t : List UInt8) : Bool := decide (t ≠ []) && (decide (t.head? ≠ some 48) || decide (t = [48])) && t.all dig
def minus (l : List UInt8) : Bool := decide (l.head? = some 45)
def body (l : List UInt8) : List UInt8 := if minus l then l.tail else l
/-- the form of a number -/
def isNumB (l : List UInt8) : Bool := isDec (body l) && !(minus l && decide (body l = [48]))
def nval (l : List UInt8) : Int := if minus l then -(dval (body l) : Int) else (dval (body l) : Int)
def inI64 (n : Int) : Bool := decide (-9223372036854775808 ≤ n) && decide (n ≤ 9223372036854775807)
/-- a text as a number: the number, or why it is none -/
def pnum (l : List UInt8) : Int × Int := if isNumB l then (if inI64 (nval l) then (nval l, 0) else (0, 4)) else (0, 2)
theorem pnum_form {l : List UInt8} (h : isNumB l = false) : pnum l = (0, 2) := by rw [pnum, if_neg (by simp [h])]
theorem pnum_long {l : List UInt8} (h : isNumB l = true) (h2 : inI64 (nval l) = false) : pnum l = (0, 4) := by rw [pnum, if_pos h, if_neg (by simp [h2])]
theorem pnum_ok {l : List UInt8} (h : isNumB l = true) (h2 : inI64 (nval l) = true) : pnum l = (nval l, 0) := by rw [pnum, if_pos h, if_pos h2]
theorem u8_of (n : Nat) (h : n < 10) : (UInt8.ofNat (48 + n)).toNat = 48 + n := by simp [UInt8.toNat_ofNat']; omega
theorem dig_of (n : Nat) (h : n < 10) : dig (UInt8.ofNat (48 + n)) = true := by unfold dig; rw [u8_of n h]; simp; omega
theorem dec_dval (u : Nat) : dval (decDigits u) = u := by
  induction u using Nat.strongRecOn with
  | _ u ih =>
    by_cases h : u < 10
    · rw [decDigits, dif_pos h]
      simp only [dval, List.foldl_cons, List.foldl_nil]
      rw [u8_of u h]; omega
    · rw [decDigits, dif_neg h, dval_snoc, ih (u / 10) (by omega), u8_of _ (by omega)]; omega
theorem dec_all (u : Nat) : (decDigits u).all dig = true := by
  induction u using Nat.strongRecOn with
  | _ u ih =>
    by_cases h : u < 10
    · rw [decDigits, dif_pos h]
      rw [List.all_cons, List.all_nil, dig_of u h]; rfl
    · rw [decDigits, dif_neg h, List.all_append, ih (u / 10) (by omega), List.all_cons, List.all_nil, dig_of (u % 10) (by omega)]; rfl
theorem dec_ne (u : Nat) : decDigits u ≠ [] := by
  rw [decDigits]; split <;> simp
theorem u8_48 (n : Nat) (h : n < 10) (h0 : n ≠ 0) : UInt8.ofNat (48 + n) ≠ 48 := by
  intro e
  have := congrArg UInt8.toNat e
  rw [u8_of n h] at this
  simp at this; omega
theorem dec_head (u : Nat) (h0 : u ≠ 0) : (decDigits u).head? ≠ some 48 := by
  induction u using Nat.strongRecOn with
  | _ u ih =>
    by_cases h : u < 10
    · rw [decDigits, dif_pos h]
      rw [List.head?_cons]
      intro e
      injection e with e
      exact u8_48 u h h0 e
    · rw [decDigits, dif_neg h]
      have := ih (u / 10) (by omega) (by omega)
      cases hd : decDigits (u / 10) with
      | nil => exact absurd hd (dec_ne _)
      | cons a l => rw [hd] at this; simpa using this
theorem dec_zero : decDigits 0 = [48] := by rw [decDigits]; rfl
theorem isDec_dec (u : Nat) : isDec (decDigits u) = true := by
  unfold isDec
  rw [dec_all]
  by_cases h : u = 0
  · subst h; rw [dec_zero]; decide
  · have h1 := dec_head u h
    have h2 := dec_ne u
    simp [h1, h2]
theorem dec_head45 (u : Nat) : (decDigits u).head? ≠ some 45 := by
  intro h
  cases hd : decDigits u with
  | nil => exact absurd hd (dec_ne _)
  | cons a l =>
    have := dec_all u
    rw [hd] at this h
    simp at h this
    rw [h] at this
    exact absurd this.1 (by decide)
theorem minus_dec (u : Nat) : minus (decDigits u) = false := by unfold minus; exact decide_eq_false (dec_head45 u)
theorem body_dec (u : Nat) : body (decDigits u) = decDigits u := by unfold body; rw [minus_dec]; rfl
theorem minus_cons (t : List UInt8) : minus (45 :: t) = true := rfl
theorem body_cons (t : List UInt8) : body (45 :: t) = t := rfl
theorem isNum_itoa (n : Int) : isNumB (itoa n) = true := by
  unfold isNumB itoa
  split
  · rename_i h
    rw [body_cons, isDec_dec, minus_cons]
    have h1 : decDigits n.natAbs ≠ [48] := by
      intro e
      have := dec_head n.natAbs (by omega)
      rw [e] at this; exact this rfl
    simp [h1]
  · rw [body_dec, isDec_dec, minus_dec]; rfl
theorem nval_itoa (n : Int) : nval (itoa n) = n := by
  unfold nval itoa
  split
  · rename_i h
    rw [minus_cons, body_cons, dec_dval]; simp; omega
  · rw [minus_dec, body_dec, dec_dval]; simp; omega
/-- A number in words is read as that number. -/
theorem pnum_itoa {n : Int} (h0 : -9223372036854775808 ≤ n) (h1 : n ≤ 9223372036854775807) : pnum (itoa n) = (n, 0) := by
  rw [pnum_ok (isNum_itoa n) (by rw [nval_itoa]; unfold inI64; simp; omega), nval_itoa]
theorem dval_append_one (l : List UInt8) (c : UInt8) : dval (l ++ [c]) = dval l * 10 + (c.toNat - 48) := dval_snoc l c
theorem dig_le {c : UInt8} (h : dig c = true) : 48 ≤ c.toNat ∧ c.toNat ≤ 57 := by
  unfold dig at h; simpa using h
theorem u8_back {c : UInt8} (h : dig c = true) : UInt8.ofNat (48 + (c.toNat - 48)) = c := by
  obtain ⟨h1, h2⟩ := dig_le h
  rw [show 48 + (c.toNat - 48) = c.toNat from by omega]
  simp
/-- digits are those of their value -/
theorem dec_of (t : List UInt8) (hd : t.all dig = true) (hn : t ≠ []) (hh : t.head? ≠ some 48 ∨ t = [48]) : decDigits (dval t) = t := by
  rcases hh with hh | rfl
  case inr => simpa [dval] using dec_zero
  have key : ∀ n (t : List UInt8), t.length = n → t.all dig = true → t ≠ [] → t.head? ≠ some 48 → decDigits (dval t) = t ∧ 0 < dval t := by
    intro n
    induction n with
    | zero => intro t h1 _ h3; exact absurd (List.length_eq_zero_iff.1 h1) h3
    | succ n ih =>
      intro t h1 h2 h3 h4
      obtain ⟨l, c, rfl⟩ : ∃ l c, t = l ++ [c] := ⟨t.dropLast, t.getLast h3, (List.dropLast_concat_getLast h3).symm⟩
      rw [List.all_append] at h2
      simp only [Bool.and_eq_true, List.all_cons, List.all_nil, Bool.and_true] at h2
      obtain ⟨h2a, h2b⟩ := h2
      obtain ⟨hc1, hc2⟩ := dig_le h2b
      rw [dval_snoc]
      by_cases hl : l = []
      · subst hl
        have hc : c.toNat ≠ 48 := by
          intro e
          apply h4
          simp
          exact UInt8.toNat_inj.1 (by rw [e]; rfl)
        rw [dval_nil, decDigits, dif_pos (by omega)]
        refine ⟨?_, by omega⟩
        simp only [Nat.zero_mul, Nat.zero_add, List.nil_append]
        rw [u8_back h2b]
      · have h5 : l.head? ≠ some 48 := by
          cases l with
          | nil => exact absurd rfl hl
          | cons a l => simpa using h4
        obtain ⟨e, hp⟩ := ih l (by simpa using h1) h2a hl h5
        rw [decDigits, dif_neg (by omega)]
        rw [show (dval l * 10 + (c.toNat - 48)) / 10 = dval l from by omega, show (dval l * 10 + (c.toNat - 48)) % 10 = c.toNat - 48 from by omega, e, u8_back h2b]
        exact ⟨rfl, by omega⟩
  exact (key _ t rfl hd hn hh).1
theorem isDec_parts {t : List UInt8} (h : isDec t = true) : t ≠ [] ∧ (t.head? ≠ some 48 ∨ t = [48]) ∧ t.all dig = true := by
  unfold isDec at h
  simp only [Bool.and_eq_true, Bool.or_eq_true, decide_eq_true_eq] at h
  exact ⟨h.1.1, h.1.2, h.2⟩
theorem dec_isDec {t : List UInt8} (h : isDec t = true) : decDigits (dval t) = t := by
  obtain ⟨h1, h2, h3⟩ := isDec_parts h
  exact dec_of t h3 h1 h2
/-- What has the form is the numeral of its value. -/
theorem itoa_nval {l : List UInt8} (h : isNumB l = true) : itoa (nval l) = l := by
  unfold isNumB at h
  simp only [Bool.and_eq_true, Bool.not_eq_true'] at h
  obtain ⟨h1, h2⟩ := h
  have h3 := dec_isDec h1
  unfold nval
  cases hm : minus l with
  | true =>
    rw [hm] at h2
    simp only [if_pos]
    have hl : l = 45 :: body l := by
      unfold body; rw [if_pos hm]
      unfold minus at hm
      cases l with
      | nil => simp at hm
      | cons a t => simp at hm; simp [hm]
    have hb : body l ≠ [48] := by
      intro e; rw [e] at h2; simp at h2
    have hz : dval (body l) ≠ 0 := by
      intro e
      rw [e, dec_zero] at h3
      exact hb h3.symm
    unfold itoa
    rw [if_pos (by omega), show (-(dval (body l) : Int)).natAbs = dval (body l) from by omega, h3]
    exact hl.symm
  | false =>
    simp only [Bool.false_eq_true, if_false]
    have hl : l = body l := by unfold body; rw [hm]; rfl
    unfold itoa
    rw [if_neg (by omega), show ((dval (body l) : Int)).toNat = dval (body l) from by omega, h3]
    exact hl.symm
theorem pnum_zero {l : List UInt8} (h : (pnum l).2 = 0) : itoa (pnum l).1 = l ∧ isNumB l = true ∧ -9223372036854775808 ≤ (pnum l).1 ∧ (pnum l).1 ≤ 9223372036854775807 := by
  unfold pnum at h ⊢
  split
  · rename_i h1
    rw [if_pos h1] at h
    split
    · rename_i h2
      refine ⟨itoa_nval h1, h1, ?_⟩
      unfold inI64 at h2
      simpa using h2
    · rename_i h2
      rw [if_neg h2] at h
      cases h
  · rename_i h1
    rw [if_neg h1] at h
    cases h
theorem pnum_err (l : List UInt8) : (pnum l).2 = 0 ∨ (pnum l).2 = 2 ∨ (pnum l).2 = 4 := by
  unfold pnum
  split
  · split
    · exact .inl rfl
    · exact .inr (.inr rfl)
  · exact .inr (.inl rfl)
/-- itoa tells numbers apart -/
theorem itoa_inj {a b : Int} (h : itoa a = itoa b) : a = b := by
  have := congrArg nval h
  rwa [nval_itoa, nval_itoa] at this
/-! strconv.ParseInt at what has the form -/
theorem dval_foldl (l : List UInt8) (a : Nat) : l.foldl (fun a c => a * 10 + (c.toNat - 48)) a ≥ a := by
  induction l generalizing a with
  | nil => exact Nat.le_refl _
  | cons c l ih =>
    rw [List.foldl_cons]
    exact Nat.le_trans (by omega) (ih _)
theorem parseU (l : List UInt8) (a : Nat) (hd : l.all dig = true) (ha : a < 18446744073709551616) :
    parseUintM (2 ^ 64 - 1) a l = if l.foldl (fun a c => a * 10 + (c.toNat - 48)) a < 18446744073709551616 then .ok (l.foldl (fun a c => a * 10 + (c.toNat - 48)) a) else .range := by
  induction l generalizing a with
  | nil => rw [parseUintM, List.foldl_nil, if_pos ha]
  | cons c l ih =>
    simp only [List.all_cons, Bool.and_eq_true] at hd
    obtain ⟨h1, h2⟩ := dig_le hd.1
    rw [parseUintM, if_pos ⟨h1, h2⟩, List.foldl_cons]
    have hge := dval_foldl l (a * 10 + (c.toNat - 48))
    split
    · rw [if_neg (by omega)]
    · split
      · rw [if_neg (by omega)]
      · exact ih _ hd.2 (by omega)
theorem parseUB {l : List UInt8} (hn : l ≠ []) (hd : l.all dig = true) : parseUintB 64 l = if dval l < 18446744073709551616 then .ok (dval l) else .range := by
  rw [parseUintB, if_neg hn, parseU l 0 hd (by omega)]; rfl
theorem head_of_dig {c : UInt8} (h : dig c = true) : c.toNat ≠ 43 ∧ c.toNat ≠ 45 := by
  obtain ⟨h1, h2⟩ := dig_le h
  omega
/-- strconv.ParseInt(s, 10, 64) where s has the form. -/
theorem parse_form {l : List UInt8} (h : isNumB l = true) : parseIntB 64 l = if inI64 (nval l) then .ok (nval l) else .range := by
  have hf := h
  unfold isNumB at h
  simp only [Bool.and_eq_true, Bool.not_eq_true'] at h
  obtain ⟨h1, h2⟩ := h
  obtain ⟨hn, _, hd⟩ := isDec_parts h1
  have hU := parseUB hn hd
  cases hm : minus l with
  | true =>
    have hl : l = 45 :: body l := by
      unfold body; rw [if_pos hm]
      unfold minus at hm
      cases l with
      | nil => simp at hm
      | cons a t => simp at hm; simp [hm]
    have hv : nval l = -(dval (body l) : Int) := by unfold nval; rw [if_pos hm]
    have h45 : (45 : UInt8).toNat = 45 := rfl
    rw [hv, show parseIntB 64 l = parseIntB 64 (45 :: body l) from by rw [← hl]]
    unfold inI64
    by_cases hb : dval (body l) < 18446744073709551616
    · rw [if_pos hb] at hU
      by_cases hc : 2 ^ 63 < dval (body l)
      · rw [if_neg (by simp; omega)]
        simp [parseIntB, h45, hU, hc]
      · rw [if_pos (by simp; omega)]
        simp [parseIntB, h45, hU, hc]
    · rw [if_neg hb] at hU
      rw [if_neg (by simp; omega)]
      simp [parseIntB, h45, hU]
  | false =>
    have hl : l = body l := by unfold body; rw [hm]; rfl
    have hv : nval l = (dval (body l) : Int) := by unfold nval; rw [hm]; rfl
    cases hb : body l with
    | nil => exact absurd hb hn
    | cons c r =>
      have hdc : dig c = true := by rw [hb] at hd; simp at hd; exact hd.1
      obtain ⟨hc1, hc2⟩ := head_of_dig hdc
      rw [hb] at hU hv
      rw [hv, show parseIntB 64 l = parseIntB 64 (c :: r) from by rw [← hb, ← hl]]
      unfold inI64
      by_cases hbb : dval (c :: r) < 18446744073709551616
      · rw [if_pos hbb] at hU
        by_cases hc : 2 ^ 63 ≤ dval (c :: r)
        · rw [if_neg (by simp; omega)]
          simp [parseIntB, hc1, hc2, hU, hc]
        · rw [if_pos (by simp; omega)]
          simp [parseIntB, hc1, hc2, hU, hc]
      · rw [if_neg hbb] at hU
        rw [if_neg (by simp; omega)]
        simp [parseIntB, hc1, hc2, hU]
theorem nDigits_le (k u : Nat) (hk : 1 ≤ k) (h : u < 10 ^ k) : nDigits u ≤ k := by
  induction k generalizing u with
  | zero => omega
  | succ k ih =>
    by_cases h10 : u < 10
    · rw [nDigits_small h10]; omega
    · rw [nDigits_big h10]
      have hk1 : 1 ≤ k := by
        rcases Nat.eq_zero_or_pos k with rfl | h'
        · simp at h; omega
        · exact h'
      rw [Nat.pow_succ] at h
      have := ih (u / 10) hk1 (by omega)
      omega
theorem dec_len (u : Nat) (h : u ≤ 9223372036854775808) : (decDigits u).length ≤ 19 := by
  rw [decDigits_length]
  exact nDigits_le 19 u (by omega) (by omega)
theorem itoa_len {n : Int} (h0 : -9223372036854775808 ≤ n) (h1 : n ≤ 9223372036854775807) : (itoa n).length ≤ 20 := by
  unfold itoa
  split
  · have := dec_len n.natAbs (by omega)
    simp only [List.length_cons]; omega
  · have := dec_len n.toNat (by omega)
    omega
/-! between commas -/
def splitC : List UInt8 → List (List UInt8)
  | [] => [[]]
  | c :: r => if c = 44 then [] :: splitC r else (match splitC r with
    | [] => [[c]]
    | x :: l => (c :: x) :: l)
theorem splitC_ne (l : List UInt8) : splitC l ≠ [] := by
  cases l with
  | nil => simp [splitC]
  | cons c r =>
    rw [splitC]
    split
    · simp
    · split <;> simp
/-- texts, with ',' between -/
def joinC : List (List UInt8) → List UInt8
  | [] => []
  | [x] => x
  | x :: y :: l => x ++ 44 :: joinC (y :: l)
theorem splitC_plain (x : List UInt8) (h : ∀ c ∈ x, c ≠ 44) : splitC x = [x] := by
  induction x with
  | nil => rfl
  | cons c r ih =>
    rw [splitC, if_neg (h c List.mem_cons_self), ih (fun d hd => h d (List.mem_cons_of_mem _ hd))]
theorem splitC_comma (x r : List UInt8) (h : ∀ c ∈ x, c ≠ 44) : splitC (x ++ 44 :: r) = x :: splitC r := by
  induction x with
  | nil => simp [splitC]
  | cons c t ih =>
    rw [List.cons_append, splitC, if_neg (h c List.mem_cons_self), ih (fun d hd => h d (List.mem_cons_of_mem _ hd))]
/-- what is joined is parted again -/
theorem splitC_joinC (l : List (List UInt8)) (hn : l ≠ []) (h : ∀ x ∈ l, ∀ c ∈ x, c ≠ 44) : splitC (joinC l) = l := by
  induction l with
  | nil => exact absurd rfl hn
  | cons x l ih =>
    cases l with
    | nil => rw [joinC]; exact splitC_plain x (h x List.mem_cons_self)
    | cons y l =>
      rw [joinC, splitC_comma x _ (h x List.mem_cons_self), ih (by simp) (fun z hz => h z (List.mem_cons_of_mem _ hz))]
/-- what is parted, joined -/
theorem joinC_splitC (l : List UInt8) : joinC (splitC l) = l := by
  induction l with
  | nil => rfl
  | cons c r ih =>
    rw [splitC]
    split
    · rename_i hc
      subst hc
      cases hs : splitC r with
      | nil => exact absurd hs (splitC_ne r)
      | cons x l => rw [hs] at ih; rw [joinC, ih]; rfl
    · cases hs : splitC r with
      | nil => exact absurd hs (splitC_ne r)
      | cons x l =>
        rw [hs] at ih
        simp only
        cases l with
        | nil => rw [joinC] at ih ⊢; rw [ih]
        | cons y l => rw [joinC] at ih ⊢; rw [List.cons_append, ih]
theorem itoa_no44 (n : Int) : ∀ c ∈ itoa n, c ≠ 44 := by
  have h : ∀ u, ∀ c ∈ decDigits u, c ≠ 44 := by
    intro u c hc e
    have := List.all_eq_true.1 (dec_all u) c hc
    subst e
    exact absurd this (by decide)
  intro c hc
  unfold itoa at hc
  split at hc
  · rcases List.mem_cons.1 hc with rfl | hc
    · decide
    · exact h _ c hc
  · exact h _ c hc
theorem itoa_ne (n : Int) : itoa n ≠ [] := by
  unfold itoa; split
  · simp
  · exact dec_ne _
/-- numbers in words -/
def nums (l : List Int) : List UInt8 := joinC (l.map itoa)
/-- a text as numbers: the numbers, or why it is none -/
def pnums (s : List UInt8) : List Int × Int :=
  if s = [] then ([], 0) else
    let ps := (splitC s).map pnum
    if ps.any (fun p => decide (p.2 = 2)) then ([], 2) else if ps.any (fun p => decide (p.2 ≠ 0)) then ([], 4) else (ps.map (·.1), 0)
theorem nums_ne (n : Int) (l : List Int) : nums (n :: l) ≠ [] := by
  unfold nums
  cases l with
  | nil => exact itoa_ne n
  | cons m l => simp [joinC]
theorem pnums_nums (l : List Int) (h : ∀ n ∈ l, -9223372036854775808 ≤ n ∧ n ≤ 9223372036854775807) : pnums (nums l) = (l, 0) := by
  cases l with
  | nil => rfl
  | cons n l =>
    have hs : splitC (nums (n :: l)) = (n :: l).map itoa := splitC_joinC _ (by simp) (fun x hx => by
      obtain ⟨m, _, rfl⟩ := List.mem_map.1 hx
      exact itoa_no44 m)
    have hp : (splitC (nums (n :: l))).map pnum = (n :: l).map fun m => (m, (0 : Int)) := by
      rw [hs, List.map_map]
      apply List.map_congr_left
      intro m hm
      exact pnum_itoa (h m hm).1 (h m hm).2
    rw [pnums, if_neg (nums_ne n l), hp]
    simp [List.map_map, Function.comp_def]
theorem nums_pnums {s : List UInt8} (h : (pnums s).2 = 0) : nums (pnums s).1 = s := by
  unfold pnums at h ⊢
  split
  · rename_i h0; subst h0; rfl
  · rename_i h0
    rw [if_neg h0] at h
    simp only at h ⊢
    split
    · rename_i h1
      rw [if_pos h1] at h
      cases h
    · rename_i h1
      rw [if_neg h1] at h
      split
      · rename_i h2
        rw [if_pos h2] at h
        cases h
      · rename_i h2
        unfold nums
        simp only [List.map_map]
        have : (splitC s).map (itoa ∘ (fun x => x.1) ∘ pnum) = splitC s := by
          conv => rhs; rw [← List.map_id (splitC s)]
          apply List.map_congr_left
          intro x hx
          have hz : (pnum x).2 = 0 := by
            have h3 : ¬ (∃ p ∈ (splitC s).map pnum, decide (p.2 ≠ 0) = true) := fun hh => h2 (List.any_eq_true.2 hh)
            by_cases hz : (pnum x).2 = 0
            · exact hz
            · exact absurd ⟨pnum x, List.mem_map.2 ⟨x, hx, rfl⟩, decide_eq_true hz⟩ h3
          exact (pnum_zero hz).1
        rw [this, joinC_splitC]
theorem pnums_i64 {s : List UInt8} : ∀ n ∈ (pnums s).1, -9223372036854775808 ≤ n ∧ n ≤ 9223372036854775807 := by
  intro n hn
  unfold pnums at hn
  split at hn
  · cases hn
  · simp only at hn
    split at hn
    · cases hn
    · split at hn
      · cases hn
      · rename_i h2
        simp only [List.map_map, List.mem_map] at hn
        obtain ⟨x, hx, rfl⟩ := hn
        have hz : (pnum x).2 = 0 := by
          by_cases hz : (pnum x).2 = 0
          · exact hz
          · exact absurd (List.any_eq_true.2 ⟨pnum x, List.mem_map.2 ⟨x, hx, rfl⟩, decide_eq_true hz⟩) h2
        exact (pnum_zero hz).2.2
end Go.Proofs.YtfnkcahnkccekaaDoor
