/- Fields: how they are joined and parted, as functions on rows of bytes, and that each undoes the other. -/
import Derived.WalkKit
namespace Go.Proofs.YtfnkcahnkccekaaDoor
def spec (c : UInt8) : Bool := c == 124 || c == 92
def esc (c : UInt8) : List UInt8 := if spec c = true then [92, c] else [c]
def fld (f : List UInt8) : List UInt8 := f.flatMap esc
def joinF (l : List (List UInt8)) : List UInt8 := l.flatMap fun f => 124 :: fld f
theorem fld_nil : fld [] = [] := rfl
theorem fld_cons (c : UInt8) (f : List UInt8) : fld (c :: f) = esc c ++ fld f := by simp [fld]
theorem fld_append (f g : List UInt8) : fld (f ++ g) = fld f ++ fld g := by simp [fld]
theorem joinF_nil : joinF [] = [] := rfl
theorem joinF_cons (f : List UInt8) (l : List (List UInt8)) : joinF (f :: l) = 124 :: (fld f ++ joinF l) := by simp [joinF]
theorem joinF_append (a b : List (List UInt8)) : joinF (a ++ b) = joinF a ++ joinF b := by simp [joinF]
/-- the bytes one by one: has an escape just been read; what has been read of the field under way; what is done -/
def parse : List UInt8 → Bool → List UInt8 → List (List UInt8) → Option (List (List UInt8))
  | [], e, cur, done => if e = true then none else some (done ++ [cur])
  | c :: s, e, cur, done =>
    if e = true then (if spec c = true then parse s false (cur ++ [c]) done else none)
    else if c = 124 then parse s false [] (done ++ [cur])
    else if c = 92 then parse s true cur done
    else parse s false (cur ++ [c]) done
theorem parse_nil (cur : List UInt8) (done : List (List UInt8)) : parse [] false cur done = some (done ++ [cur]) := rfl
theorem parse_bar (s cur : List UInt8) (done : List (List UInt8)) : parse (124 :: s) false cur done = parse s false [] (done ++ [cur]) := rfl
theorem parse_esc2 (d : UInt8) (s cur : List UInt8) (done : List (List UInt8)) (h : spec d = true) : parse (92 :: d :: s) false cur done = parse s false (cur ++ [d]) done := by
  show parse (d :: s) true cur done = _
  rw [parse, if_pos rfl, if_pos h]
theorem parse_esc_bad (d : UInt8) (s cur : List UInt8) (done : List (List UInt8)) (h : spec d = false) : parse (92 :: d :: s) false cur done = none := by
  show parse (d :: s) true cur done = _
  rw [parse, if_pos rfl, if_neg (by simp [h])]
theorem parse_esc_end (cur : List UInt8) (done : List (List UInt8)) : parse [92] false cur done = none := rfl
theorem parse_other (c : UInt8) (s cur : List UInt8) (done : List (List UInt8)) (h1 : c ≠ 124) (h2 : c ≠ 92) : parse (c :: s) false cur done = parse s false (cur ++ [c]) done := by
  rw [parse, if_neg (by simp), if_neg h1, if_neg h2]
def splitF : List UInt8 → Option (List (List UInt8))
  | [] => some []
  | c :: s => if c = 124 then parse s false [] [] else none
theorem parse_esc (c : UInt8) (t cur : List UInt8) (done : List (List UInt8)) : parse (esc c ++ t) false cur done = parse t false (cur ++ [c]) done := by
  by_cases h : spec c = true
  · rw [esc, if_pos h]
    exact parse_esc2 c t cur done h
  · rw [esc, if_neg h]
    exact parse_other c t cur done (fun e => h (by rw [e]; rfl)) (fun e => h (by rw [e]; rfl))
theorem parse_fld : ∀ (f t cur : List UInt8) (done : List (List UInt8)), parse (fld f ++ t) false cur done = parse t false (cur ++ f) done
  | [], t, cur, done => by rw [fld_nil]; simp
  | c :: f, t, cur, done => by rw [fld_cons, List.append_assoc, parse_esc, parse_fld f]; simp
theorem parse_join : ∀ (l : List (List UInt8)) (cur : List UInt8) (done : List (List UInt8)), parse (joinF l) false cur done = some (done ++ cur :: l)
  | [], cur, done => by rw [joinF_nil, parse_nil]
  | f :: l, cur, done => by rw [joinF_cons, parse_bar, parse_fld, List.nil_append, parse_join l]; simp
theorem split_join : ∀ l : List (List UInt8), splitF (joinF l) = some l
  | [] => rfl
  | f :: l => by rw [joinF_cons, splitF, if_pos rfl, parse_fld, List.nil_append, parse_join]; rfl
theorem join_inj {a b : List (List UInt8)} (h : joinF a = joinF b) : a = b := by
  have := split_join a
  rw [h, split_join b] at this
  exact (Option.some.inj this).symm
theorem join_parse : ∀ (s : List UInt8) (e : Bool) (cur : List UInt8) (done r : List (List UInt8)), parse s e cur done = some r → joinF r = joinF done ++ 124 :: (fld cur ++ (if e = true then 92 :: s else s))
  | [], e, cur, done, r, h => by
    rw [parse] at h
    cases e with
    | true => simp at h
    | false =>
      simp at h
      subst h
      rw [joinF_append, joinF_cons, joinF_nil]; simp
  | c :: s, true, cur, done, r, h => by
    rw [parse, if_pos rfl] at h
    by_cases h3 : spec c = true
    · rw [if_pos h3] at h
      rw [join_parse s false _ _ r h, fld_append, fld_cons, fld_nil, esc, if_pos h3]
      simp
    · rw [if_neg h3] at h; cases h
  | c :: s, false, cur, done, r, h => by
    rw [parse, if_neg (by simp)] at h
    by_cases h1 : c = 124
    · rw [if_pos h1] at h
      rw [join_parse s false _ _ r h, joinF_append, joinF_cons, joinF_nil, fld_nil, h1]
      simp
    · rw [if_neg h1] at h
      by_cases h2 : c = 92
      · rw [if_pos h2] at h
        rw [join_parse s true _ _ r h, h2]
        simp
      · rw [if_neg h2] at h
        have h3 : spec c = false := by simp [spec, h1, h2]
        rw [join_parse s false _ _ r h, fld_append, fld_cons, fld_nil, esc, h3, if_neg (by simp)]
        simp
theorem join_split (s : List UInt8) (l : List (List UInt8)) (h : splitF s = some l) : joinF l = s := by
  cases s with
  | nil => rw [splitF] at h; cases h; rfl
  | cons c s =>
    rw [splitF] at h
    by_cases h1 : c = 124
    · rw [if_pos h1] at h
      rw [join_parse s false [] [] l h, joinF_nil, fld_nil, h1]; rfl
    · rw [if_neg h1] at h; cases h
end Go.Proofs.YtfnkcahnkccekaaDoor
