/- A box of string; rows of texts. -/
import Derived.ChangeArms
import Derived.Test.YtpoimhjencpieaaBxR
import Derived.Test.YtpoimhjencpieaaLaw
namespace Go.Proofs.Ytpoimhjencpieaa
open Go.Conc Go.RowKit Go.ChangeShapes Go.WideShapes Go.ChangeMaps
set_option linter.unusedVariables false
def strL (l : List ByteArray) : List Value := l.map .string
def booL (l : List Bool) : List Value := l.map .bool
theorem strL_length (l : List ByteArray) : (strL l).length = l.length := by simp [strL]
theorem strL_append (a b : List ByteArray) : strL (a ++ b) = strL a ++ strL b := by simp [strL]
theorem strL_one (l : List ByteArray) : ∀ u ∈ strL l, u.oneCell' = true := by
  intro u hu
  obtain ⟨s, _, rfl⟩ := List.mem_map.1 hu
  rfl
theorem rd_str {w : World} {B : Nat} {A : Option Addr} {l : List ByteArray} (h : Rd w B A (strL l)) (k : Nat) (hk : k < l.length) : ∃ ad, A = some ad ∧ ad.block < B ∧ w.cell? (ad.add k) = some (.string l[k]) := by
  obtain ⟨ad, h1, h2, h3⟩ := h k (by rw [strL_length]; exact hk)
  exact ⟨ad, h1, h2, by rw [h3]; simp [strL]⟩
theorem rd_boo {w : World} {B : Nat} {A : Option Addr} {l : List Bool} (h : Rd w B A (booL l)) (k : Nat) (hk : k < l.length) : ∃ ad, A = some ad ∧ ad.block < B ∧ w.cell? (ad.add k) = some (.bool l[k]) := by
  obtain ⟨ad, h1, h2, h3⟩ := h k (by simpa [booL] using hk)
  exact ⟨ad, h1, h2, by rw [h3]; simp [booL]⟩
section
variable {H : Type} {enc : TypeId × Value → H} {P : Program}
theorem open_strs_rd {W : World} {r : Reach} {b0 : Nat} {t e : TypeId} {v : Value} {d : DataW H} {ps : List MemPlace} (ht : P.underlying t = some (.slice e)) (he : P.underlying e = some .string) (hc : P.cellsOf e = 1)
    (hval : Value.okWide P W r b0 t v) (h : DataW.Trod enc P W 0 (fun _ => true) true t v d ps) :
    ∃ (A : Option Addr) (c : Nat) (l : List ByteArray), v = .slice A l.length c ∧ l.length ≤ c ∧ c ≤ maxLen ∧ Rd W W.heap.size A (strL l) := by
  obtain ⟨A, c, xs, rfl, h1, h2, h3, h4⟩ := open_cells ht hc hval h
  have key : ∀ xs : List Value, (∀ x ∈ xs, ∃ n d' ps', DataW.trod enc P W 0 (fun _ => true) true n e [x] = some (d', ps')) → ∃ l, xs = strL l := by
    intro xs
    induction xs with
    | nil => intro _; exact ⟨[], rfl⟩
    | cons x xs ih =>
      intro hx
      obtain ⟨l, rfl⟩ := ih (fun y hy => hx y (List.mem_cons_of_mem _ hy))
      obtain ⟨n, d', ps', hn⟩ := hx x List.mem_cons_self
      obtain ⟨s, hs, _, _⟩ := DataW.trod_string he hn
      injection hs with hs
      exact ⟨s :: l, by rw [hs]; rfl⟩
  obtain ⟨l, rfl⟩ := key xs h4
  exact ⟨A, c, l, by rw [strL_length], by rwa [strL_length] at h1, h2, h3⟩
theorem open_bools_rd {W : World} {r : Reach} {b0 : Nat} {t e : TypeId} {v : Value} {d : DataW H} {ps : List MemPlace} (ht : P.underlying t = some (.slice e)) (he : P.underlying e = some .bool) (hc : P.cellsOf e = 1)
    (hval : Value.okWide P W r b0 t v) (h : DataW.Trod enc P W 0 (fun _ => true) true t v d ps) :
    ∃ (A : Option Addr) (c : Nat) (l : List Bool), v = .slice A l.length c ∧ l.length ≤ c ∧ c ≤ maxLen ∧ Rd W W.heap.size A (booL l) := by
  obtain ⟨A, c, xs, rfl, h1, h2, h3, h4⟩ := open_cells ht hc hval h
  have key : ∀ xs : List Value, (∀ x ∈ xs, ∃ n d' ps', DataW.trod enc P W 0 (fun _ => true) true n e [x] = some (d', ps')) → ∃ l, xs = booL l := by
    intro xs
    induction xs with
    | nil => intro _; exact ⟨[], rfl⟩
    | cons x xs ih =>
      intro hx
      obtain ⟨l, rfl⟩ := ih (fun y hy => hx y (List.mem_cons_of_mem _ hy))
      obtain ⟨n, d', ps', hn⟩ := hx x List.mem_cons_self
      obtain ⟨s, hs, _⟩ := DataW.trod_bool he hn
      injection hs with hs
      exact ⟨s :: l, by rw [hs]; rfl⟩
  obtain ⟨l, rfl⟩ := key xs h4
  exact ⟨A, c, l, by simp [booL], by simpa [booL] using h1, h2, h3⟩
end
structure BoxS (w : World) (g c1 c2 k1 k2 : Nat) (X Y : List ByteArray) : Prop where
  bk : Bk w g 118 #[.chan (some c1), .chan (some c2)]
  h1 : Ch w c1 k1 (strL X)
  h2 : Ch w c2 k2 (strL Y)
  n12 : c1 ≠ c2
  ng1 : g ≠ c1
  ng2 : g ≠ c2
theorem BoxS.kp {S : Nat → Prop} {w w' : World} {g c1 c2 k1 k2 : Nat} {X Y : List ByteArray} (h : BoxS w g c1 c2 k1 k2 X Y) (k : Kp S w w') (hg : ¬ S g) (h1 : ¬ S c1) (h2 : ¬ S c2) : BoxS w' g c1 c2 k1 k2 X Y :=
  ⟨h.bk.kp k hg, h.h1.kp k h1, h.h2.kp k h2, h.n12, h.ng1, h.ng2⟩
theorem BoxS.set1 {w w' : World} {g c1 c2 k1 k2 : Nat} {X Y : List ByteArray} (h : BoxS w g c1 c2 k1 k2 X Y) (k : Kp (fun i => i = c1) w w') (X' : List ByteArray) (h' : Ch w' c1 k1 (strL X')) : BoxS w' g c1 c2 k1 k2 X' Y :=
  ⟨h.bk.kp k h.ng1, h', h.h2.kp k (fun e => h.n12 e.symm), h.n12, h.ng1, h.ng2⟩
theorem BoxS.set2 {w w' : World} {g c1 c2 k1 k2 : Nat} {X Y : List ByteArray} (h : BoxS w g c1 c2 k1 k2 X Y) (k : Kp (fun i => i = c2) w w') (Y' : List ByteArray) (h' : Ch w' c2 k2 (strL Y')) : BoxS w' g c1 c2 k1 k2 X Y' :=
  ⟨h.bk.kp k h.ng2, h.h1.kp k h.n12, h', h.n12, h.ng1, h.ng2⟩
theorem sput1 (g c1 c2 k1 k2 : Nat) (X Y : List ByteArray) (x : ByteArray) (w : World) (h : BoxS w g c1 c2 k1 k2 X Y) (hr : X.length < k1) :
    Calls Try.prog 40 #[.pointer (some ⟨g, 0, none⟩), .string x, .bool true] w fun e w' => e = .returned (.int .i64 0) ∧ BoxS w' g c1 c2 k1 k2 (X ++ [x]) Y ∧ Kp (fun i => i = c1) w w' := by
  have hc0 : w.cell? ⟨g, 0, none⟩ = some (.chan (some c1)) := h.bk.cell 0
  have hc1 : w.cell? ⟨g, 1, none⟩ = some (.chan (some c2)) := h.bk.cell 1
  go_enter Try.func40, Try.ntmps40
  go_wp2_with fail
  refine (put_string_room c1 k1 _ _ _ h.h1 (by rw [strL_length]; exact hr)).mono ?_
  rintro e w' ⟨rfl, hch, hk⟩
  go_wp2_with fail
  go_ret
  exact ⟨rfl, h.set1 hk _ (by rw [strL_append]; exact hch), hk⟩
theorem sput1_full (g c1 c2 k1 k2 : Nat) (X Y : List ByteArray) (x : ByteArray) (w : World) (h : BoxS w g c1 c2 k1 k2 X Y) (hr : k1 ≤ X.length) :
    Calls Try.prog 40 #[.pointer (some ⟨g, 0, none⟩), .string x, .bool true] w fun e w' => e = .returned (.int .i64 6) ∧ w' = w := by
  have hc0 : w.cell? ⟨g, 0, none⟩ = some (.chan (some c1)) := h.bk.cell 0
  have hc1 : w.cell? ⟨g, 1, none⟩ = some (.chan (some c2)) := h.bk.cell 1
  go_enter Try.func40, Try.ntmps40
  go_wp2_with fail
  refine (put_string_full c1 k1 _ _ _ h.h1 (by rw [strL_length]; exact hr)).mono ?_
  rintro e w' ⟨rfl, rfl⟩
  go_wp2_with fail
  go_ret
  exact ⟨rfl, rfl⟩
theorem sput2 (g c1 c2 k1 k2 : Nat) (X Y : List ByteArray) (x : ByteArray) (w : World) (h : BoxS w g c1 c2 k1 k2 X Y) (hr : Y.length < k2) :
    Calls Try.prog 40 #[.pointer (some ⟨g, 0, none⟩), .string x, .bool false] w fun e w' => e = .returned (.int .i64 0) ∧ BoxS w' g c1 c2 k1 k2 X (Y ++ [x]) ∧ Kp (fun i => i = c2) w w' := by
  have hc0 : w.cell? ⟨g, 0, none⟩ = some (.chan (some c1)) := h.bk.cell 0
  have hc1 : w.cell? ⟨g, 1, none⟩ = some (.chan (some c2)) := h.bk.cell 1
  go_enter Try.func40, Try.ntmps40
  go_wp2_with fail
  refine (put_string_room c2 k2 _ _ _ h.h2 (by rw [strL_length]; exact hr)).mono ?_
  rintro e w' ⟨rfl, hch, hk⟩
  go_wp2_with fail
  go_ret
  exact ⟨rfl, h.set2 hk _ (by rw [strL_append]; exact hch), hk⟩
theorem sput2_full (g c1 c2 k1 k2 : Nat) (X Y : List ByteArray) (x : ByteArray) (w : World) (h : BoxS w g c1 c2 k1 k2 X Y) (hr : k2 ≤ Y.length) :
    Calls Try.prog 40 #[.pointer (some ⟨g, 0, none⟩), .string x, .bool false] w fun e w' => e = .returned (.int .i64 6) ∧ w' = w := by
  have hc0 : w.cell? ⟨g, 0, none⟩ = some (.chan (some c1)) := h.bk.cell 0
  have hc1 : w.cell? ⟨g, 1, none⟩ = some (.chan (some c2)) := h.bk.cell 1
  go_enter Try.func40, Try.ntmps40
  go_wp2_with fail
  refine (put_string_full c2 k2 _ _ _ h.h2 (by rw [strL_length]; exact hr)).mono ?_
  rintro e w' ⟨rfl, rfl⟩
  go_wp2_with fail
  go_ret
  exact ⟨rfl, rfl⟩
theorem stake1 (g c1 c2 k1 k2 : Nat) (x : ByteArray) (X Y : List ByteArray) (w : World) (h : BoxS w g c1 c2 k1 k2 (x :: X) Y) :
    Calls Try.prog 41 #[.pointer (some ⟨g, 0, none⟩)] w fun e w' => e = .returned (.tuple #[.string x, .bool true]) ∧ BoxS w' g c1 c2 k1 k2 X Y ∧ Kp (fun i => i = c1) w w' := by
  have hc0 : w.cell? ⟨g, 0, none⟩ = some (.chan (some c1)) := h.bk.cell 0
  have hc1 : w.cell? ⟨g, 1, none⟩ = some (.chan (some c2)) := h.bk.cell 1
  go_enter Try.func41, Try.ntmps41
  go_wp2_with fail
  refine (take_string_some c1 k1 _ _ _ h.h1).mono ?_
  rintro e w' ⟨rfl, hch, hk⟩
  go_wp2_with fail
  go_ret2
  exact ⟨rfl, h.set1 hk X hch, hk⟩
theorem stake2 (g c1 c2 k1 k2 : Nat) (y : ByteArray) (Y : List ByteArray) (w : World) (h : BoxS w g c1 c2 k1 k2 [] (y :: Y)) :
    Calls Try.prog 41 #[.pointer (some ⟨g, 0, none⟩)] w fun e w' => e = .returned (.tuple #[.string y, .bool true]) ∧ BoxS w' g c1 c2 k1 k2 [] Y ∧ Kp (fun i => i = c2) w w' := by
  have hc0 : w.cell? ⟨g, 0, none⟩ = some (.chan (some c1)) := h.bk.cell 0
  have hc1 : w.cell? ⟨g, 1, none⟩ = some (.chan (some c2)) := h.bk.cell 1
  go_enter Try.func41, Try.ntmps41
  go_wp2_with fail
  refine (take_string_none c1 k1 _ h.h1).mono ?_
  rintro e w' ⟨rfl, rfl⟩
  go_wp2_with fail
  refine (take_string_some c2 k2 _ _ _ h.h2).mono ?_
  rintro e w' ⟨rfl, hch, hk⟩
  go_wp2_with fail
  go_ret2
  exact ⟨rfl, h.set2 hk Y hch, hk⟩
theorem stake0 (g c1 c2 k1 k2 : Nat) (w : World) (h : BoxS w g c1 c2 k1 k2 [] []) :
    Calls Try.prog 41 #[.pointer (some ⟨g, 0, none⟩)] w fun e w' => e = .returned (.tuple #[.string ⟨#[]⟩, .bool false]) ∧ w' = w := by
  have hc0 : w.cell? ⟨g, 0, none⟩ = some (.chan (some c1)) := h.bk.cell 0
  have hc1 : w.cell? ⟨g, 1, none⟩ = some (.chan (some c2)) := h.bk.cell 1
  go_enter Try.func41, Try.ntmps41
  go_wp2_with fail
  refine (take_string_none c1 k1 _ h.h1).mono ?_
  rintro e w' ⟨rfl, rfl⟩
  go_wp2_with fail
  refine (take_string_none c2 k2 _ h.h2).mono ?_
  rintro e w' ⟨rfl, rfl⟩
  go_wp2_with fail
  go_ret2
  exact ⟨rfl, rfl⟩
theorem info_str : (Try.prog.info? 9).map (fun i => (i.zero, i.size, i.bytes)) = some (some (.string ⟨#[]⟩), 1, 16) := by kernel_rfl
theorem mk_chan_str (n : Nat) (hn : n ≤ 256) (w : World) : (Instr.makeChan 116 (.int .i64 (n : Int))).run Try.prog w = .ok (.chan (some w.heap.size)) (w.alloc (.chan n #[] false 0 0 false)) := by
  obtain ⟨i0, hi, hz0, hz1, hz2⟩ := info_parts info_str
  exact run_makeChan (P := Try.prog) (w := w) Try.underlying116 hi .i64 n (by omega) (by rw [hz2]; omega)
theorem sboxA (a b : Nat) (w : World) :
    BoxS (((w.alloc (.chan a #[] false 0 0 false)).alloc (.chan b #[] false 0 0 false)).alloc (.cells #[.chan (some w.heap.size), .chan (some (w.heap.size + 1))] 118)) (w.heap.size + 2) w.heap.size (w.heap.size + 1) a b [] [] := by
  have h1 := Ch.new w a
  have h2 := Ch.new (w.alloc (.chan a #[] false 0 0 false)) b
  rw [World.size_alloc] at h2
  have h1' := h1.kp (kp_alloc (kp_refl (fun _ => False) _) (.chan b #[] false 0 0 false)) id
  have k3 := kp_alloc (kp_refl (fun _ => False) ((w.alloc (.chan a #[] false 0 0 false)).alloc (.chan b #[] false 0 0 false))) (.cells #[.chan (some w.heap.size), .chan (some (w.heap.size + 1))] 118)
  have hb3 := Bk.new ((w.alloc (.chan a #[] false 0 0 false)).alloc (.chan b #[] false 0 0 false)) 118 #[.chan (some w.heap.size), .chan (some (w.heap.size + 1))]
  rw [World.size_alloc, World.size_alloc] at hb3
  exact ⟨hb3, h1'.kp k3 id, h2.kp k3 id, by omega, by omega, by omega⟩
theorem sboxB (a b : Nat) (w : World) :
    BoxS (((w.alloc (.chan b #[] false 0 0 false)).alloc (.chan a #[] false 0 0 false)).alloc (.cells #[.chan (some (w.heap.size + 1)), .chan (some w.heap.size)] 118)) (w.heap.size + 2) (w.heap.size + 1) w.heap.size a b [] [] := by
  have h1 := Ch.new w b
  have h2 := Ch.new (w.alloc (.chan b #[] false 0 0 false)) a
  rw [World.size_alloc] at h2
  have h1' := h1.kp (kp_alloc (kp_refl (fun _ => False) _) (.chan a #[] false 0 0 false)) id
  have k3 := kp_alloc (kp_refl (fun _ => False) ((w.alloc (.chan b #[] false 0 0 false)).alloc (.chan a #[] false 0 0 false))) (.cells #[.chan (some (w.heap.size + 1)), .chan (some w.heap.size)] 118)
  have hb3 := Bk.new ((w.alloc (.chan b #[] false 0 0 false)).alloc (.chan a #[] false 0 0 false)) 118 #[.chan (some (w.heap.size + 1)), .chan (some w.heap.size)]
  rw [World.size_alloc, World.size_alloc] at hb3
  exact ⟨hb3, h2.kp k3 id, h1'.kp k3 id, by omega, by omega, by omega⟩
theorem BoxS.drew {w : World} {g c1 c2 k1 k2 : Nat} {X Y : List ByteArray} (h : BoxS w g c1 c2 k1 k2 X Y) : BoxS w.drew g c1 c2 k1 k2 X Y := h.kp (kp_drew (kp_refl (fun _ => False) w)) id id id
set_option maxRecDepth 100000 in
theorem snew_ok (a b : Nat) (ha : 1 ≤ a ∧ a ≤ 256) (hb : 1 ≤ b ∧ b ≤ 256) (w : World) :
    Calls Try.prog 39 #[.int .i64 (a : Int), .int .i64 (b : Int)] w fun e w' => ∃ g c1 c2, e = .returned (.tuple #[.pointer (some ⟨g, 0, none⟩), .int .i64 0]) ∧ w.heap.size ≤ g ∧ w.heap.size ≤ c1 ∧ w.heap.size ≤ c2 ∧ BoxS w' g c1 c2 a b [] [] ∧ Grew w w' := by
  have n1 : ¬ (a : Int) < 1 := by omega
  have n2 : ¬ (256 : Int) < (a : Int) := by omega
  have n3 : ¬ (b : Int) < 1 := by omega
  have n4 : ¬ (256 : Int) < (b : Int) := by omega
  have hma := fun w => mk_chan_str a (by omega) w
  have hmb := fun w => mk_chan_str b (by omega) w
  go_enter Try.func39, Try.ntmps39
  go_wp2_with fail
  go_region
  all_goals go_wp2_with fail
  all_goals go_ret2
  all_goals first
    | exact ⟨w.heap.size + 2, w.heap.size, w.heap.size + 1, rfl, by omega, by omega, by omega, (sboxA a b w).drew, grew_3 w _ _ _⟩
    | exact ⟨w.heap.size + 2, w.heap.size + 1, w.heap.size, rfl, by omega, by omega, by omega, (sboxB a b w).drew, grew_3 w _ _ _⟩
set_option maxRecDepth 100000 in
theorem names_same (A A' : Option Addr) (c c' B B' n n' : Nat) (l : List ByteArray) (hn : l.length = n) (hn' : l.length = n') (hl : l.length ≤ 1048576) (w : World) (hr : Rd w B A (strL l)) (hr' : Rd w B' A' (strL l)) :
    Calls Try.prog 42 #[.slice A n c, .slice A' n' c'] w fun e w' => e = .returned (.bool true) ∧ ∃ n, w' = w.drewN n := by
  subst hn; subst hn'
  have HR := Lib.hid hr
  have HR' := Lib.hid hr'
  clear hr hr'
  go_enter Try.func42, Try.ntmps42
  go_wp2_with fail
  go_loopw [5] (fun iv wr => ∃ (k n : Nat), k ≤ l.length ∧ iv = .int .i64 k ∧ wr = w.drewN n) (fun iv _ => l.length - (intOf iv).toNat)
  case atStart => exact ⟨0, 0, Nat.zero_le _, rfl, rfl⟩
  case round =>
    obtain ⟨k, n, hk, rfl, rfl⟩ := hrel
    by_cases hlt : k < l.length
    · obtain ⟨ad, rfl, hbl, hc⟩ := rd_str HR.out k hlt
      obtain ⟨ad', rfl, hbl', hc'⟩ := rd_str HR'.out k hlt
      have hk0 : (0 : Int) ≤ (k : Int) := by omega
      have hk1 : (k : Int) < (l.length : Int) := by omega
      generalize l[k] = z at *
      go_wp2_with fail
      go_quiet (fail)
      go_wp2_with fail
      go_roundw
      case rel => exact ⟨k + 1, n + nq, by omega, by go_num, rfl⟩
      case measure => simp [intOf]; omega
    · obtain rfl : k = l.length := by omega
      go_wp2_with fail
      go_ret
      exact ⟨rfl, _, rfl⟩
end Go.Proofs.Ytpoimhjencpieaa
