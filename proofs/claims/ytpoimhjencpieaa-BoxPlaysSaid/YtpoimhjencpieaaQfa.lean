/- Facts on ascending rows, on distI, comI, byD, that the laws of layer 6 ask. -/
import Derived.Test.YtpoimhjencpieaaQlt
namespace Go.Proofs.Ytpoimhjencpieaa
open Go.Maps
theorem asc_le : ∀ (d e : List Int), d.Pairwise (· < ·) → e.Pairwise (· < ·) → (∀ x, x ∈ d → x ∈ e) → d.length ≤ e.length
  | [], _, _, _, _ => Nat.zero_le _
  | a :: d, [], _, _, h => absurd (h a (by simp)) (by simp)
  | a :: d, b :: e, hd, he, h => by
    rw [List.pairwise_cons] at he
    have hda := List.pairwise_cons.1 hd
    by_cases hab : a = b
    · subst hab
      have := asc_le d e hda.2 he.2 fun x hx => by
        have h1 := hda.1 x hx
        rcases List.mem_cons.1 (h x (by simp [hx])) with h2 | h2
        · omega
        · exact h2
      simpa using this
    · have hba : b < a := by
        rcases List.mem_cons.1 (h a (by simp)) with h2 | h2
        · exact absurd h2 hab
        · exact he.1 a h2
      have := asc_le (a :: d) e hd he.2 fun x hx => by
        rcases List.mem_cons.1 (h x hx) with h2 | h2
        · subst h2
          rcases List.mem_cons.1 hx with h3 | h3
          · exact absurd h3.symm hab
          · have := hda.1 _ h3; omega
        · exact h2
      simp only [List.length_cons] at this ⊢
      omega
theorem cnt_two (p q : Int → Bool) : ∀ (u : List Int), (∀ x ∈ u, p x = true ∨ q x = true) → (u.filter fun x => p x && q x).length + u.length = (u.filter p).length + (u.filter q).length
  | [], _ => rfl
  | x :: u, h => by
    have ih := cnt_two p q u fun y hy => h y (by simp [hy])
    have hx := h x (by simp)
    cases hp : p x <;> cases hq : q x <;> simp [hp, hq] at hx ih ⊢ <;> omega
/-- two rows: what is in both and what is in either count as the two -/
theorem com_count (a b : List Int) : (comI a b).length + (distI (a ++ b)).length = (distI a).length + (distI b).length := by
  obtain ⟨hu, hum⟩ := distI_facts (a ++ b)
  have ea : distI a = (distI (a ++ b)).filter fun x => decide (x ∈ a) := asc_eq _ _ (distI_facts a).1 (hu.filter _) fun x => by
    rw [(distI_facts a).2, List.mem_filter, hum]; simp; exact fun h => .inl h
  have eb : distI b = (distI (a ++ b)).filter fun x => decide (x ∈ b) := asc_eq _ _ (distI_facts b).1 (hu.filter _) fun x => by
    rw [(distI_facts b).2, List.mem_filter, hum]; simp; exact fun h => .inr h
  have ec : comI a b = (distI (a ++ b)).filter fun x => decide (x ∈ a) && decide (x ∈ b) := asc_eq _ _ (comI_facts a b).1 (hu.filter _) fun x => by
    rw [(comI_facts a b).2, List.mem_filter, hum]; simp; exact fun h _ => .inl h
  rw [ea, eb, ec]
  refine cnt_two _ _ _ fun x hx => ?_
  rw [hum] at hx
  simpa using hx
theorem com_comm (a b : List Int) : comI a b = comI b a := asc_eq _ _ (comI_facts a b).1 (comI_facts b a).1 fun x => by
  rw [(comI_facts a b).2, (comI_facts b a).2]; exact And.comm
theorem com_le (a b : List Int) : (comI a b).length ≤ a.length := Nat.le_trans (List.length_filter_le _ _) (distI_le a)
theorem dist_same (a b : List Int) (h : ∀ x, x ∈ a ↔ x ∈ b) : distI a = distI b := asc_eq _ _ (distI_facts a).1 (distI_facts b).1 fun x => by
  rw [(distI_facts a).2, (distI_facts b).2]; exact h x
theorem dist_twice (a : List Int) : distI (a ++ a) = distI a := dist_same _ _ fun x => by simp
theorem cnt_more (N : Int) (a b : List Int) : cntN N (distI a) ≤ cntN N (distI (a ++ b)) :=
  asc_le _ _ ((distI_facts a).1.filter _) ((distI_facts _).1.filter _) fun x hx => by
    rw [List.mem_filter, (distI_facts _).2] at hx ⊢
    exact ⟨by simp [hx.1], hx.2⟩
theorem dist_nil : distI [] = [] := distI_eq _ _ (by simp) (fun x => by simp)
/-- one that is new comes between -/
theorem dist_snoc (l : List Int) (x : Int) (h : x ∉ l) : distI (l ++ [x]) = (distI l).filter (fun y => decide (y < x)) ++ x :: (distI l).filter (fun y => decide (x < y)) := by
  obtain ⟨hp, hm⟩ := distI_facts l
  refine distI_eq _ _ ?_ fun y => ?_
  · rw [List.pairwise_append]
    refine ⟨hp.filter _, ?_, ?_⟩
    · rw [List.pairwise_cons]
      refine ⟨fun y hy => ?_, hp.filter _⟩
      rw [List.mem_filter] at hy; simpa using hy.2
    · intro y hy z hz
      rw [List.mem_filter] at hy
      have hy2 : y < x := by simpa using hy.2
      rcases List.mem_cons.1 hz with rfl | hz
      · exact hy2
      · rw [List.mem_filter] at hz
        have : x < z := by simpa using hz.2
        omega
  · simp only [List.mem_append, List.mem_cons, List.mem_filter, hm, decide_eq_true_eq, List.not_mem_nil, or_false]
    constructor
    · rintro (⟨h1, -⟩ | rfl | ⟨h1, -⟩)
      · exact .inl h1
      · exact .inr rfl
      · exact .inl h1
    · rintro (h1 | rfl)
      · by_cases hxy : y < x
        · exact .inl ⟨h1, hxy⟩
        · by_cases hyx : x < y
          · exact .inr (.inr ⟨h1, hyx⟩)
          · obtain rfl : x = y := by omega
            exact absurd h1 h
      · exact .inr (.inl rfl)
theorem cnt_parts (p : Int → Bool) (x : Int) : ∀ d : List Int, x ∉ d → ((d.filter fun y => decide (y < x)).filter p).length + ((d.filter fun y => decide (x < y)).filter p).length = (d.filter p).length
  | [], _ => rfl
  | y :: d, h => by
    have hd : x ∉ d := fun hh => h (by simp [hh])
    have hy : x ≠ y := fun hh => h (by simp [hh])
    have ih := cnt_parts p x d hd
    by_cases h1 : y < x
    · have h2 : ¬ x < y := by omega
      cases hp : p y <;> simp [h1, h2, hp] at ih ⊢ <;> omega
    · have h2 : x < y := by omega
      cases hp : p y <;> simp [h1, h2, hp] at ih ⊢ <;> omega
theorem cnt_snoc (p : Int → Bool) (l : List Int) (x : Int) (h : x ∉ l) : ((distI (l ++ [x])).filter p).length = ((distI l).filter p).length + if p x = true then 1 else 0 := by
  have := cnt_parts p x (distI l) (fun hh => h (((distI_facts l).2 x).1 hh))
  rw [dist_snoc l x h, List.filter_append, List.filter_cons, ← this]
  by_cases hp : p x = true
  · simp only [hp, if_true, List.length_append, List.length_cons]; omega
  · simp [hp]
theorem filter_all (d : List Int) : d.filter (fun _ => true) = d := List.filter_eq_self.2 fun _ _ => rfl
theorem len_snoc (l : List Int) (x : Int) (h : x ∉ l) : (distI (l ++ [x])).length = (distI l).length + 1 := by
  have := cnt_snoc (fun _ => true) l x h
  simpa [filter_all] using this
/-- rows in [0, N) of two thirds meet in a third -/
theorem meet_most (f : Nat) (x y : List Int) (hx : x.Pairwise (· < ·)) (hy : y.Pairwise (· < ·)) (hxn : ∀ z ∈ x, 0 ≤ z ∧ z < 3 * (f : Int) + 1) (hyn : ∀ z ∈ y, 0 ≤ z ∧ z < 3 * (f : Int) + 1)
    (hx2 : 2 * f + 1 ≤ x.length) (hy2 : 2 * f + 1 ≤ y.length) : f + 1 ≤ (comI x y).length := by
  have hc := com_count x y
  rw [distI_eq x x hx (fun _ => Iff.rfl), distI_eq y y hy (fun _ => Iff.rfl)] at hc
  have hu : (distI (x ++ y)).length ≤ ((List.range (3 * f + 1)).map (fun k : Nat => (k : Int))).length := asc_le _ _ (distI_facts _).1
    (by
      rw [List.pairwise_map]
      exact List.pairwise_lt_range.imp fun h => by omega)
    fun z hz => by
      rw [(distI_facts _).2, List.mem_append] at hz
      have hzn : 0 ≤ z ∧ z < 3 * (f : Int) + 1 := hz.elim (hxn z) (hyn z)
      exact List.mem_map.2 ⟨z.toNat, List.mem_range.2 (by omega), by omega⟩
  simp only [List.length_map, List.length_range] at hu
  omega
/-- byD: how many, and which -/
theorem byD_tidy {H : Type} (who : Int → Int) (l : List Int) : Tidy (byD (H := H) who l) := by
  suffices h : ∀ n, n ≤ l.length → Tidy (byD (H := H) who (l.take n)) by simpa using h l.length (Nat.le_refl _)
  intro n
  induction n with
  | zero => intro _; simpa [byD] using (tidy_empty (H := H))
  | succ n ih =>
    intro hn
    have h1 := ih (by omega)
    have hts : l.take (n + 1) = l.take n ++ [l[n]] := by rw [List.take_succ_eq_append_getElem (by omega)]
    rw [hts]
    by_cases hb : Maps.has (byD (H := H) who (l.take n)) (.int .i64 (who l[n])) = true
    · rw [byD_yes hb]; exact h1
    · rw [byD_no (by simpa using hb)]
      exact h1.put (by simp [WideAt.IsKeyLit]) _
theorem byD_size {H : Type} (who : Int → Int) (l : List Int) (x : Int) : Maps.size (byD (H := H) who (l ++ [x])) = Maps.size (byD (H := H) who l) + if ∃ y ∈ l, who y = who x then 0 else 1 := by
  by_cases hb : Maps.has (byD (H := H) who l) (.int .i64 (who x)) = true
  · rw [byD_yes hb, if_pos (((byD_has who l).2 _).1 hb)]; rfl
  · have hb' : Maps.has (byD (H := H) who l) (.int .i64 (who x)) = false := by simpa using hb
    rw [byD_no hb', size_put (byD_tidy who l), hb', if_neg (fun hh => hb (((byD_has who l).2 _).2 hh))]
    simp
theorem byD_old {H : Type} (who : Int → Int) (k : Int) (z : DataW H) (m : List Int) : ∀ l : List Int, Maps.has (byD (H := H) who l) (.int .i64 k) = true → (byD (H := H) who (l ++ m)).atKey (.int .i64 k) z = (byD (H := H) who l).atKey (.int .i64 k) z := by
  induction m with
  | nil => intro l _; simp
  | cons x m ih =>
    intro l hl
    have e : l ++ x :: m = (l ++ [x]) ++ m := by simp
    by_cases hb : Maps.has (byD (H := H) who l) (.int .i64 (who x)) = true
    · rw [e, ih _ (by rw [byD_yes hb]; exact hl), byD_yes hb]
    · have hb' : Maps.has (byD (H := H) who l) (.int .i64 (who x)) = false := by simpa using hb
      have hne : (Lit.int .i64 k) ≠ (Lit.int .i64 (who x)) := by
        intro h
        injection h with _ h
        subst h
        exact hb hl
      rw [e, ih _ (by rw [byD_no hb', has_put_other hne]; exact hl), byD_no hb', atKey_put_other hne]
/-- the first of a kind is what stands there -/
theorem byD_first {H : Type} (who : Int → Int) (l m : List Int) (x : Int) (z : DataW H) (h : ∀ y ∈ l, who y ≠ who x) : (byD (H := H) who (l ++ x :: m)).atKey (.int .i64 (who x)) z = .lit (.int .i64 x) := by
  have hb' : Maps.has (byD (H := H) who l) (.int .i64 (who x)) = false := by
    cases hb : Maps.has (byD (H := H) who l) (.int .i64 (who x)) with
    | false => rfl
    | true => obtain ⟨y, hy, hw⟩ := ((byD_has who l).2 _).1 hb; exact absurd hw (h y hy)
  have e : l ++ x :: m = (l ++ [x]) ++ m := by simp
  rw [e, byD_old who (who x) z m (l ++ [x]) (by rw [byD_no hb']; exact has_put_same (k := .int .i64 (who x)) (byD_has who l).1 (by simp [WideAt.IsKeyLit]) _), byD_no hb']
  exact atKey_put_same (k := .int .i64 (who x)) (byD_has who l).1 (by simp [WideAt.IsKeyLit]) _ _
end Go.Proofs.Ytpoimhjencpieaa
