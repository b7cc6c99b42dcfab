/- CmdDigests. -/
import Derived.Test.YtpgbfglfgcidaaaDoorZaz
namespace Go.Proofs.YtpgbfglfgcidaaaDoor
set_option linter.unusedSimpArgs false
set_option linter.unusedVariables false
open Go.RowKit
set_option linter.unusedVariables false
theorem bk_rd {w : World} {b : Nat} {t : TypeId} {cs : Array Value} (h : Bk w b t cs) : Rd w w.heap.size (some ⟨b, 0, none⟩) cs.toList := by
  intro k hk
  refine ⟨_, rfl, h.lt, ?_⟩
  have ha : (⟨b, 0, none⟩ : Addr).add k = ⟨b, k, none⟩ := by
    unfold Addr.add
    split
    · rename_i h
      subst h
      rfl
    · simp
  rw [ha, h.cell k, Array.getElem?_eq_getElem (by simpa using hk)]
  simp
theorem bk_grew {w w' : World} {b : Nat} {t : TypeId} {cs : Array Value} (h : Bk w b t cs) (hg : Grew w w') : Bk w' b t cs := (hg.block b h.lt).trans h
theorem parC_none {s : List UInt8} (h : (parC s).2 ≠ 0) : (parC s).1 = Cm.zero := by
  obtain ⟨v, ev, hpn⟩ : ∃ v ev, pnums s = (v, ev) := ⟨_, _, rfl⟩
  by_cases hev : ev = 0
  · subst hev
    by_cases hlen : v.length = 5
    · match v, hlen with
      | [a, b, c, d, e], _ =>
        rw [parC_l5 hpn] at h ⊢
        split
        · rename_i h1
          rw [if_pos h1] at h
          split
          · rename_i h2
            rw [if_pos h2] at h
            exact absurd rfl h
          · rfl
        · rfl
    · rw [parC_len hpn hlen]
  · rw [parC_bad hpn hev]
theorem wrap64_in (n : Int) : in64 (wrap64 n) := by unfold in64 wrap64; omega
theorem dig_pure (c : Cm) (hc : c.in) (hok : okC c) (k : Nat) (hk : k < 5) (u y : Int) (hu : c.l[k]'hk = u) (hy : in64 y) (l : List Int) (hl : l = c.l.set k (wrap64 (u + y))) :
    (∀ x ∈ l, in64 x) ∧ l.length = 5 ∧ (y = 0 → parC (nums l) = (c, 0)) ∧ (y ≠ 0 → (parC (nums l)).2 = 0 → (parC (nums l)).1 ≠ c ∧ txC (parC (nums l)).1 = nums l) := by
  subst hl
  have hui : in64 u := by rw [← hu]; exact hc _ (List.getElem_mem hk)
  have h1 : ∀ x ∈ c.l.set k (wrap64 (u + y)), in64 x := fun x hx => by
    rcases List.mem_or_eq_of_mem_set hx with h | h
    · exact hc x h
    · rw [h]; exact wrap64_in _
  refine ⟨h1, by rw [List.length_set]; rfl, fun h => ?_, fun h hp => ⟨fun he => ?_, txC_parC hp⟩⟩
  · subst h
    have hw : wrap64 (u + 0) = u := by unfold wrap64; unfold in64 at hui; omega
    have hk' : k < c.l.length := hk
    have hu' : c.l[k] = u := hu
    rw [hw, ← hu', List.set_getElem_self]
    exact parC_txC hok hc
  · have ht := txC_parC hp
    rw [he] at ht
    have e1 := pnums_txC hc
    rw [ht, pnums_nums _ h1] at e1
    injection e1 with e1 _
    have hk' : k < c.l.length := hk
    have e2 := congrArg (fun z : List Int => z[k]?) e1
    simp only [List.getElem?_set_self hk', List.getElem?_eq_getElem hk'] at e2
    injection e2 with e2
    have e3 : wrap64 (u + y) = u := e2.trans hu
    unfold wrap64 at e3
    unfold in64 at hui hy
    omega
set_option maxRecDepth 100000 in
set_option maxHeartbeats 4000000 in
theorem cmdDigests_law (c : Cm) (x y : Int) (hc : c.in) (hx : 0 ≤ x ∧ x ≤ 255) (hy : in64 y) (w : World) (hS : Std w) :
    Calls Tryd.prog 7 #[c.v, .int .u8 x, .int .i64 y] w fun e w' => e = .returned (.bool true) ∧ Grew w w' := by
  have hla := txC_len hc
  have KA := Lib.hid (fun (W : World) => check_any c W)
  have DA := Lib.hid (fun (W : World) (h : Std W) => digest_ok c hc W h)
  have HS := Lib.hid hS
  by_cases hok : ¬ okC c
  · rw [chkC_no hok] at KA
    clear DA hla hS hok hc
    obtain ⟨a0, a1, a2, a3, a4⟩ := c
    unfold Cm.v at *
    dsimp only at *
    have zA := Ag.new w 23 #[.int .i64 a0, .int .i64 a1, .int .i64 a2, .int .i64 a3, .int .i64 a4]
    have G0 := grew_alloc (grew_refl w) (.cells #[.int .i64 a0, .int .i64 a1, .int .i64 a2, .int .i64 a3, .int .i64 a4] 23)
    go_enter Tryd.func7, Tryd.ntmps7
    go_wp2_with fail
    refine (cknown_ok _ (HS.out.grew G0)).mono ?_
    rintro e w1 ⟨rfl, gg⟩
    have yA := zA.grew gg
    have G1 := grew_trans G0 gg
    have c0 := yA.cell 0 _ rfl
    have c1 := yA.cell 1 _ rfl
    have c2 := yA.cell 2 _ rfl
    have c3 := yA.cell 3 _ rfl
    have c4 := yA.cell 4 _ rfl
    simp only [Nat.zero_add] at c0 c1 c2 c3 c4
    go_wp2_with fail
    refine (KA.out _).mono ?_
    rintro e w2 ⟨rfl, g2⟩
    go_wp2_with fail
    go_ret
    exact ⟨rfl, grew_trans G1 g2⟩
  · have hok := Classical.not_not.1 hok
    have hox := Lib.hid hok
    have hcx := Lib.hid hc
    have hyx := Lib.hid hy
    rw [chkC_ok hok] at KA
    have OF := Lib.hid (fun (w : World) => of_any ⟨#[99, 109, 100]⟩ ⟨(txC c).toArray⟩ (by decide) (by show (txC c).toArray.size ≤ _; simp; omega) w)
    rw [show (sumL (⟨#[99, 109, 100]⟩ : ByteArray).data.toList (⟨(txC c).toArray⟩ : ByteArray).data.toList) = dgC c from rfl] at OF
    have NA := Lib.hid (fun (A : Option Addr) (W : World) (h : Std W) (hr : Rd W W.heap.size A (i64L c.l)) => nums_ok A 5 c.l (by simp [Cm.l]) hc W h hr)
    rw [show nums c.l = txC c from rfl] at NA
    generalize (⟨(txC c).toArray⟩ : ByteArray) = ta at *
    generalize dgC c = da at *
    clear hla hS hok hc
    obtain ⟨a0, a1, a2, a3, a4⟩ := c
    unfold Cm.v at *
    dsimp only [Cm.l] at NA KA DA
    have zA := Ag.new w 23 #[.int .i64 a0, .int .i64 a1, .int .i64 a2, .int .i64 a3, .int .i64 a4]
    have G0 := grew_alloc (grew_refl w) (.cells #[.int .i64 a0, .int .i64 a1, .int .i64 a2, .int .i64 a3, .int .i64 a4] 23)
    go_enter Tryd.func7, Tryd.ntmps7
    go_wp2_with fail
    refine (cknown_ok _ (HS.out.grew G0)).mono ?_
    rintro e w1 ⟨rfl, gg⟩
    have yA := zA.grew gg
    have G1 := grew_trans G0 gg
    have c0 := yA.cell 0 _ rfl
    have c1 := yA.cell 1 _ rfl
    have c2 := yA.cell 2 _ rfl
    have c3 := yA.cell 3 _ rfl
    have c4 := yA.cell 4 _ rfl
    simp only [Nat.zero_add] at c0 c1 c2 c3 c4
    go_wp2_with fail
    clear c0 c1 c2 c3 c4
    refine (KA.out _).mono ?_
    rintro e w2 ⟨rfl, gg2⟩
    have zA := yA.grew gg2
    have G2 := grew_trans G1 gg2
    clear yA gg gg2 G1
    have zL := Ag.new w2 2 #[.int .i64 a0, .int .i64 a1, .int .i64 a2, .int .i64 a3, .int .i64 a4]
    have kL : Bk (w2.alloc (.cells #[.int .i64 a0, .int .i64 a1, .int .i64 a2, .int .i64 a3, .int .i64 a4] 2)) w2.heap.size 2 #[.int .i64 a0, .int .i64 a1, .int .i64 a2, .int .i64 a3, .int .i64 a4] := Bk.new _ _ _
    have G3 := grew_alloc G2 (.cells #[.int .i64 a0, .int .i64 a1, .int .i64 a2, .int .i64 a3, .int .i64 a4] 2)
    have yA := zA.grew (grew_alloc (grew_refl _) (.cells #[.int .i64 a0, .int .i64 a1, .int .i64 a2, .int .i64 a3, .int .i64 a4] 2))
    have c0 := zA.cell 0 _ rfl
    have c1 := zA.cell 1 _ rfl
    have c2 := zA.cell 2 _ rfl
    have c3 := zA.cell 3 _ rfl
    have c4 := zA.cell 4 _ rfl
    simp only [Nat.zero_add] at c0 c1 c2 c3 c4
    have d0 := yA.cell 0 _ rfl
    have d1 := yA.cell 1 _ rfl
    have d2 := yA.cell 2 _ rfl
    have d3 := yA.cell 3 _ rfl
    have d4 := yA.cell 4 _ rfl
    simp only [Nat.zero_add] at d0 d1 d2 d3 d4
    go_wp2_with fail
    clear c0 c1 c2 c3 c4 d0 d1 d2 d3 d4
    have hbL : w.heap.size < w2.heap.size := zA.lt
    generalize w2.heap.size = bl at *
    refine (DA.out _ (HS.out.grew G3)).mono ?_
    rintro e w3 ⟨rfl, gg⟩
    have zA := yA.grew gg
    have kL3 := bk_grew kL gg
    have G4 := grew_trans G3 gg
    clear yA gg kL G3
    go_wp2_with fail
    refine (NA.out (some ⟨bl, 0, none⟩) _ (HS.out.grew G4) (bk_rd kL3)).mono ?_
    rintro e w4 ⟨rfl, gg⟩
    have yA := zA.grew gg
    have kL4 := bk_grew kL3 gg
    have G5 := grew_trans G4 gg
    clear zA gg kL3 G4
    obtain ⟨k, hk, hk5⟩ : ∃ k : Nat, x % 5 = (k : Int) ∧ k < 5 := ⟨(x % 5).toNat, by omega, by omega⟩
    obtain ⟨u, hu⟩ : ∃ u : Int, [a0, a1, a2, a3, a4][k]'hk5 = u := ⟨_, rfl⟩
    have huI : in64 u := by rw [← hu]; exact hcx.out _ (List.getElem_mem hk5)
    have cU : w4.cell? ⟨bl, k, none⟩ = some (.int .i64 u) := by
      rw [kL4.cell k, Array.getElem?_eq_getElem (by exact hk5)]
      match k, hk5, hu with
      | 0, _, h => rw [← h]; rfl
      | 1, _, h => rw [← h]; rfl
      | 2, _, h => rw [← h]; rfl
      | 3, _, h => rw [← h]; rfl
      | 4, _, h => rw [← h]; rfl
    have fU := kL4.frozen k
    have hk0 : (0 : Int) ≤ (k : Int) := by omega
    have hk1 : (k : Int) < 5 := by omega
    have HU := Lib.hid hu
    have HUI := Lib.hid huI
    have HK5 := Lib.hid hk5
    clear hu huI hy
    have dd : ∀ z : Int, (z != z) = false := fun z => by simp
    go_wp2_with (go_at_call 21; refine (OF.out _).mono ?_; rintro e w5 ⟨rfl, hw⟩; subst hw)
    have m5 := kL4.set_ k (.int .i64 (wrap64 (u + y)))
    have zA : Ag (w4.setCell ⟨bl, k, none⟩ (.int .i64 (wrap64 (u + y)))) w.heap.size [.int .i64 a0, .int .i64 a1, .int .i64 a2, .int .i64 a3, .int .i64 a4] := yA.kp (S := fun j => j = bl) (kp_set (S := fun j => j = bl) (kp_refl _ w4) (p := ⟨bl, k, none⟩) (.inl rfl) _) (by show ¬ w.heap.size = bl; omega)
    have G6 : Grew w (w4.setCell ⟨bl, k, none⟩ (.int .i64 (wrap64 (u + y)))) := G5.setCell (p := ⟨bl, k, none⟩) (by show w.heap.size ≤ bl; omega) _
    have r5 := bk_rd m5
    have hl5 : (#[.int .i64 a0, .int .i64 a1, .int .i64 a2, .int .i64 a3, .int .i64 a4].setIfInBounds k (.int .i64 (wrap64 (u + y)))).toList = i64L ([a0, a1, a2, a3, a4].set k (wrap64 (u + y))) := by simp [i64L, List.map_set]
    rw [hl5] at r5
    obtain ⟨l, hl⟩ : ∃ l, [a0, a1, a2, a3, a4].set k (wrap64 (u + y)) = l := ⟨_, rfl⟩
    rw [hl] at r5
    obtain ⟨hl1, hl2, hl3, hl4⟩ := dig_pure ⟨a0, a1, a2, a3, a4⟩ hcx.out hox.out k hk5 u y HU.out hyx.out l hl.symm
    have hln := nums_len l hl1
    generalize w4.setCell ⟨bl, k, none⟩ (.int .i64 (wrap64 (u + y))) = w5 at *
    have NL := Lib.hid (fun (W : World) (h : Std W) (hr : Rd W W.heap.size (some ⟨bl, 0, none⟩) (i64L l)) => nums_ok (some ⟨bl, 0, none⟩) 5 l (by omega) hl1 W h hr)
    rw [hl2] at NL
    have PL := Lib.hid (fun (W : World) (h : Std W) => cparse_ok ⟨(nums l).toArray⟩ (by show (nums l).toArray.size ≤ _; simp; omega) W h (by obtain ⟨m, hm⟩ := h.mx; exact cell_lt hm))
    dsimp only at PL
    have TP := Lib.hid (fun (W : World) (h : Std W) => text_ok (parC (nums l)).1 parC_in W h)
    have EQ := Lib.hid (fun W => cm_eq (parC (nums l)).1 ⟨a0, a1, a2, a3, a4⟩ W)
    have EZ := Lib.hid (fun W => cm_eq (parC (nums l)).1 Cm.zero W)
    have NP := Lib.hid (fun h => parC_none (s := nums l) h)
    have HL3 := Lib.hid hl3
    have HL4 : Hid (y ≠ 0 → (parC (nums l)).2 = 0 → (parC (nums l)).1 ≠ ⟨a0, a1, a2, a3, a4⟩ ∧ (⟨(txC (parC (nums l)).1).toArray⟩ : ByteArray) = ⟨(nums l).toArray⟩) := Lib.hid (fun h1 h2 => by
      obtain ⟨h3, h4⟩ := hl4 h1 h2
      exact ⟨h3, by rw [h4]⟩)
    unfold txtV at TP
    obtain ⟨pc, pe, hp⟩ : ∃ pc pe, parC (nums l) = (pc, pe) := ⟨_, _, rfl⟩
    rw [hp] at HL3
    simp only [hp] at PL TP EQ EZ NP HL4
    have hl3' := HL3.out
    clear hl3 hl4 hp hl1 hl hl2 hln
    generalize (⟨(txC pc).toArray⟩ : ByteArray) = tp at *
    generalize (⟨(nums l).toArray⟩ : ByteArray) = tl at *
    refine (NL.out _ (HS.out.grew G6) r5).mono ?_
    rintro e w6 ⟨rfl, gg⟩
    have yA6 := zA.grew gg
    have r6 := r5.gr gg
    have G7 := grew_trans G6 gg
    clear m5 zA G6 r5 hl5 gg hk
    go_wp2_with fail
    refine (PL.out _ (HS.out.grew G7)).mono ?_
    rintro e w7 ⟨rfl, gg⟩
    obtain ⟨p0, p1, p2, p3, p4⟩ := pc
    unfold Cm.v at *
    dsimp only
    have zP := Ag.new w7 23 #[.int .i64 p0, .int .i64 p1, .int .i64 p2, .int .i64 p3, .int .i64 p4]
    have yA8 := (yA6.grew gg).grew (grew_alloc (grew_refl _) (.cells #[.int .i64 p0, .int .i64 p1, .int .i64 p2, .int .i64 p3, .int .i64 p4] 23))
    have r8 := (r6.gr gg).gr (grew_alloc (grew_refl w7) (.cells #[.int .i64 p0, .int .i64 p1, .int .i64 p2, .int .i64 p3, .int .i64 p4] 23))
    have G8 := grew_alloc (grew_trans G7 gg) (.cells #[.int .i64 p0, .int .i64 p1, .int .i64 p2, .int .i64 p3, .int .i64 p4] 23)
    clear yA6 r6 G7 gg
    by_cases hy0 : y = 0
    · have hyb : (y == 0) = true := by simpa using hy0
      obtain ⟨e1, e2⟩ : (⟨p0, p1, p2, p3, p4⟩ : Cm) = ⟨a0, a1, a2, a3, a4⟩ ∧ pe = 0 := by
        have := HL3.out hy0; injection this with h1 h2; exact ⟨h1, h2⟩
      simp only [Cm.mk.injEq] at e1
      obtain ⟨e3, e4, e5, e6, e7⟩ := e1
      have E1 := EQ.out
      rw [decide_eq_true (by rw [e3, e4, e5, e6, e7])] at E1
      clear EQ EZ NP HL3 HL4 hl3'
      subst e2 e3 e4 e5 e6 e7
      have c0 := yA8.cell 0 _ rfl
      have c1 := yA8.cell 1 _ rfl
      have c2 := yA8.cell 2 _ rfl
      have c3 := yA8.cell 3 _ rfl
      have c4 := yA8.cell 4 _ rfl
      simp only [Nat.zero_add] at c0 c1 c2 c3 c4
      have d0 := zP.cell 0 _ rfl
      have d1 := zP.cell 1 _ rfl
      have d2 := zP.cell 2 _ rfl
      have d3 := zP.cell 3 _ rfl
      have d4 := zP.cell 4 _ rfl
      simp only [Nat.zero_add] at d0 d1 d2 d3 d4
      go_wp2_with fail
      go_ret
      exact ⟨rfl, G8⟩
    · have hyb : (y == 0) = false := by simpa using hy0
      by_cases hpe : pe = 0
      · obtain ⟨hne, htt⟩ := HL4.out hy0 hpe
        have E1 := EQ.out
        rw [decide_eq_false hne] at E1
        clear EQ EZ NP HL3 HL4 hl3' hne
        subst hpe htt
        have c0 := yA8.cell 0 _ rfl
        have c1 := yA8.cell 1 _ rfl
        have c2 := yA8.cell 2 _ rfl
        have c3 := yA8.cell 3 _ rfl
        have c4 := yA8.cell 4 _ rfl
        simp only [Nat.zero_add] at c0 c1 c2 c3 c4
        have d0 := zP.cell 0 _ rfl
        have d1 := zP.cell 1 _ rfl
        have d2 := zP.cell 2 _ rfl
        have d3 := zP.cell 3 _ rfl
        have d4 := zP.cell 4 _ rfl
        simp only [Nat.zero_add] at d0 d1 d2 d3 d4
        have tt : (tp.toList == tp.toList) = true := by simp
        go_wp2_with fail
        refine (TP.out _ (HS.out.grew G8)).mono ?_
        rintro e w9 ⟨rfl, gg⟩
        have r9 := r8.gr gg
        have G9 := grew_trans G8 gg
        go_wp2_with fail
        refine (NL.out _ (HS.out.grew G9) r9).mono ?_
        rintro e w10 ⟨rfl, gg2⟩
        have G10 := grew_trans G9 gg2
        go_wp2_with fail
        go_ret
        exact ⟨rfl, G10⟩
      · have e1 := NP.out hpe
        unfold Cm.zero at e1
        simp only [Cm.mk.injEq] at e1
        have E1 := EZ.out
        rw [decide_eq_true (by unfold Cm.zero; simp only [Cm.mk.injEq]; exact e1)] at E1
        unfold Cm.zero at E1
        dsimp only at E1
        obtain ⟨e3, e4, e5, e6, e7⟩ := e1
        have hpe' : (pe == 0) = false := by simpa using hpe
        have hpn : (pe != 0) = true := by simpa using hpe
        clear EQ EZ NP HL3 HL4 hl3' hpe
        subst e3 e4 e5 e6 e7
        have c0 := yA8.cell 0 _ rfl
        have c1 := yA8.cell 1 _ rfl
        have c2 := yA8.cell 2 _ rfl
        have c3 := yA8.cell 3 _ rfl
        have c4 := yA8.cell 4 _ rfl
        simp only [Nat.zero_add] at c0 c1 c2 c3 c4
        have d0 := zP.cell 0 _ rfl
        have d1 := zP.cell 1 _ rfl
        have d2 := zP.cell 2 _ rfl
        have d3 := zP.cell 3 _ rfl
        have d4 := zP.cell 4 _ rfl
        simp only [Nat.zero_add] at d0 d1 d2 d3 d4
        go_wp2_with fail
        go_ret
        exact ⟨rfl, G8⟩
end Go.Proofs.YtpgbfglfgcidaaaDoor
