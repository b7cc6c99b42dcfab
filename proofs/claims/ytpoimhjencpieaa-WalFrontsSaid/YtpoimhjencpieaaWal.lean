/- Contracts of package wal, at int. -/
import Derived.Test.YtpoimhjencpieaaProg
import Derived.Test.YtpoimhjencpieaaApp
import Derived.Test.YtpoimhjencpieaaAct
import Derived.Deep.QuietTactic
import Derived.BigQuiet
import Derived.Deep.RegionHeld3
import Derived.IntWalk
import Derived.Lib.SliceRun
import Derived.WalkSpells
namespace Go.Proofs.Ytpoimhjencpieaa
open Go.RowKit
set_option linter.unusedVariables false
/-- the blocks of a log at g whose records stand behind A -/
def WN (g : Nat) (A : Option Addr) (i : Nat) : Prop := i = g ∨ ∃ ad, A = some ad ∧ ad.block = i
def walC (room sy : Nat) (v : Value) : Array Value := #[.int .i64 room, .int .i64 sy, v]
/-- at g lies a log of that room; its records are l, so many of them synced -/
structure WalS (w : World) (base g room sy : Nat) (A : Option Addr) (c : Nat) (l : List Int) : Prop where
  bk : Bk w g 122 (walC room sy (.slice A l.length c))
  own : w.ownsRow base 3 1 (.slice A l.length c) l.length (i64L l)
  ne : ∀ ad, A = some ad → ad.block ≠ g
  lo : base ≤ g
  sy : sy ≤ l.length
  le : l.length ≤ room
  rm : room ≤ 65536
theorem own_slice (A : Option Addr) (n c : Nat) : ∀ g, (Value.slice A n c).ownBlock = some g → ∃ ad, A = some ad ∧ ad.block = g := by
  intro g h
  cases A with
  | none => cases h
  | some ad => injection h with h; exact ⟨ad, rfl, h⟩
theorem WalS.lowA {w : World} {base g room sy : Nat} {A : Option Addr} {c : Nat} {l : List Int} (h : WalS w base g room sy A c l) : ∀ ad, A = some ad → base ≤ ad.block ∧ ad.block < w.heap.size := by
  intro ad had
  subst had
  exact ownsRow_lt h.own _ rfl
theorem WalS.lowN {w : World} {base g room sy : Nat} {A : Option Addr} {c : Nat} {l : List Int} (h : WalS w base g room sy A c l) : ∀ i, WN g A i → base ≤ i ∧ i < w.heap.size := by
  rintro i (rfl | ⟨ad, had, rfl⟩)
  · exact ⟨h.lo, h.bk.lt⟩
  · exact h.lowA ad had
theorem WalS.kp {w w' : World} {base g room sy : Nat} {A : Option Addr} {c : Nat} {l : List Int} {S : Nat → Prop} (h : WalS w base g room sy A c l) (k : Kp S w w') (hs : ∀ i, WN g A i → ¬ S i) : WalS w' base g room sy A c l :=
  ⟨h.bk.kp k (hs g (.inl rfl)), ownsRow_kp h.own k (fun i hi => hs i (.inr (own_slice _ _ _ i hi))), h.ne, h.lo, h.sy, h.le, h.rm⟩
theorem WalS.drewN {w : World} {base g room sy : Nat} {A : Option Addr} {c : Nat} {l : List Int} (h : WalS w base g room sy A c l) (n : Nat) : WalS (w.drewN n) base g room sy A c l := ⟨h.bk, h.own, h.ne, h.lo, h.sy, h.le, h.rm⟩
theorem WalS.rd {w : World} {base g room sy : Nat} {A : Option Addr} {c : Nat} {l : List Int} (h : WalS w base g room sy A c l) : Rd w w.heap.size A (i64L l) ∧ l.length ≤ c := by
  obtain ⟨A', c', hq, h1, _, h2⟩ := own_rd h.own
  injection hq with e1 e2 e3
  subst e1 e3
  exact ⟨h2, h1⟩
theorem infoI : (Try.prog.info? 3).map (fun i => (i.zero, i.size, i.bytes)) = some (some (.int .i64 0), 1, 8) := by kernel_rfl
/-- how a call on a log ends -/
def WRet (r : Value) (w : World) (base g room : Nat) (A : Option Addr) (sy : Nat) (l : List Int) (e : Ending) (w' : World) : Prop :=
  e = .returned r ∧ ∃ A' c', WalS w' base g room sy A' c' l ∧ Kp (WN g A) w w' ∧ ∀ i, WN g A' i → WN g A i ∨ w.heap.size ≤ i
theorem wnew_no (a : Int) (h : a < 1 ∨ 65536 < a) (w : World) :
    Calls Try.prog 44 #[.int .i64 a] w fun e w' => e = .returned (.tuple #[.pointer none, .int .i64 1]) ∧ w = w' := by
  rcases h with h | h
  · go_enter Try.func44, Try.ntmps44
    go_wp2_with fail
    go_ret2
    exact ⟨rfl, rfl⟩
  · have h0 : ¬ a < 1 := by omega
    go_enter Try.func44, Try.ntmps44
    go_wp2_with fail
    go_ret2
    exact ⟨rfl, rfl⟩
theorem wnew_ok (a : Nat) (h0 : 1 ≤ a) (h : a ≤ 65536) (base : Nat) (w : World) (hb : base ≤ w.heap.size) :
    Calls Try.prog 44 #[.int .i64 a] w fun e w' => e = .returned (.tuple #[.pointer (some ⟨w.heap.size, 0, none⟩), .int .i64 0]) ∧ Grew w w' ∧ WalS w' base w.heap.size a 0 none 0 [] := by
  have h0' : ¬ (a : Int) < 1 := by omega
  have h' : ¬ (65536 : Int) < a := by omega
  go_enter Try.func44, Try.ntmps44
  go_wp2_with fail
  go_ret2
  exact ⟨rfl, (Below.refl _ _).alloc (Nat.le_refl _) _, ⟨Bk.new _ _ _, World.ownsRow_nil _ _ _ _, (fun _ h => by cases h), hb, by simp, by simp, h⟩⟩
theorem wlen_any (base g room sy : Nat) (A : Option Addr) (c : Nat) (l : List Int) (w : World) (h : WalS w base g room sy A c l) :
    Calls Try.prog 51 #[.pointer (some ⟨g, 0, none⟩)] w fun e w' => e = .returned (.int .i64 l.length) ∧ w = w' := by
  have hc2 : w.cell? ⟨g, 2, none⟩ = some (.slice A l.length c) := h.bk.cell 2
  go_enter Try.func51, Try.ntmps51
  go_wp2_with fail
  go_ret
  exact ⟨rfl, rfl⟩
theorem wwaits_any (base g room sy : Nat) (A : Option Addr) (c : Nat) (l : List Int) (w : World) (h : WalS w base g room sy A c l) :
    Calls Try.prog 52 #[.pointer (some ⟨g, 0, none⟩)] w fun e w' => e = .returned (.int .i64 ((l.length : Int) - (sy : Int))) ∧ ∃ n, w' = w.drewN n := by
  have hc2 : w.cell? ⟨g, 2, none⟩ = some (.slice A l.length c) := h.bk.cell 2
  have hc1 : w.cell? ⟨g, 1, none⟩ = some (.int .i64 sy) := h.bk.cell 1
  have h1 := h.sy
  have h2 := h.le
  have h3 := h.rm
  go_enter Try.func52, Try.ntmps52
  go_wp2_with fail
  go_quiet (fail)
  go_wp2_with fail
  go_ret
  exact ⟨ret_int (by first | rfl | (rw [IntWalk.i64_in _ (by omega)])), _, rfl⟩
theorem wsync_any (base g room sy : Nat) (A : Option Addr) (c : Nat) (l : List Int) (w : World) (h : WalS w base g room sy A c l) :
    Calls Try.prog 46 #[.pointer (some ⟨g, 0, none⟩)] w fun e w' => e = .returned (.tuple #[]) ∧ WalS w' base g room l.length A c l ∧ Kp (WN g A) w w' := by
  have hc2 : w.cell? ⟨g, 2, none⟩ = some (.slice A l.length c) := h.bk.cell 2
  have hc1 : w.cell? ⟨g, 1, none⟩ = some (.int .i64 sy) := h.bk.cell 1
  have hf := h.bk.frozen 1
  go_enter Try.func46, Try.ntmps46
  go_wp2_with fail
  go_end0
  have k1 : Kp (fun i => i = g) w (w.setCell ⟨g, 1, none⟩ (.int .i64 l.length)) := kp_set (S := fun i => i = g) (p := ⟨g, 1, none⟩) (kp_refl _ _) (.inl rfl) _
  refine ⟨rfl, ⟨h.bk.set_ 1 _, ownsRow_kp h.own k1 (fun i hi e => ?_), h.ne, h.lo, Nat.le_refl _, h.le, h.rm⟩, kp_mono k1 (fun i hi => .inl hi)⟩
  obtain ⟨ad, had, rfl⟩ := own_slice _ _ _ i hi
  exact h.ne ad had e
theorem wappend_full (base g room sy : Nat) (A : Option Addr) (c : Nat) (l : List Int) (x : Int) (hl : l.length = room) (w : World) (h : WalS w base g room sy A c l) :
    Calls Try.prog 45 #[.pointer (some ⟨g, 0, none⟩), .int .i64 x] w (WRet (.int .i64 6) w base g room A sy l) := by
  have hc2 : w.cell? ⟨g, 2, none⟩ = some (.slice A l.length c) := h.bk.cell 2
  have hc0 : w.cell? ⟨g, 0, none⟩ = some (.int .i64 room) := h.bk.cell 0
  have hd : decide (room ≤ l.length) = true := by simpa using (by omega : room ≤ l.length)
  have hd' : room ≤ l.length := by omega
  have HS := Lib.hid h
  clear hl h
  go_enter Try.func45, Try.ntmps45
  go_wp2_with fail
  go_quiet (fail)
  go_wp2_with fail
  go_ret
  exact ⟨rfl, A, c, HS.out.drewN _, kp_drewN (kp_refl _ _) _, fun i hi => .inl hi⟩
set_option maxRecDepth 100000 in
set_option maxHeartbeats 800000 in
theorem wappend_ok (base g room sy : Nat) (A : Option Addr) (c : Nat) (l : List Int) (x : Int) (hl : l.length < room) (w : World) (h : WalS w base g room sy A c l) :
    Calls Try.prog 45 #[.pointer (some ⟨g, 0, none⟩), .int .i64 x] w (WRet (.int .i64 0) w base g room A sy (l ++ [x])) := by
  obtain ⟨i0, hi0, hz0, hz1, hz2⟩ := info_parts infoI
  have hc2 : w.cell? ⟨g, 2, none⟩ = some (.slice A l.length c) := h.bk.cell 2
  have hc0 : w.cell? ⟨g, 0, none⟩ = some (.int .i64 room) := h.bk.cell 0
  have hd : decide (room ≤ l.length) = false := by simpa using hl
  have hd' : ¬ room ≤ l.length := by omega
  have h3 := h.rm
  have hlo := h.lo
  have hgl := h.bk.lt
  have hne : (Value.slice A l.length c).ownBlock ≠ some g := fun e => by obtain ⟨ad, h1, h2⟩ := own_slice _ _ _ g e; exact h.ne ad h1 h2
  have HS := Lib.hid h
  clear h
  go_enter Try.func45, Try.ntmps45
  go_wp2_with fail
  go_quiet (fail)
  have hown : ((w.drewN nq).alloc (.cells #[.int .i64 x] 3)).ownsRow base 3 1 (.slice A l.length c) l.length (i64L l) := (HS.out.drewN nq).own.alloc _
  have hbk0 : Bk ((w.drewN nq).alloc (.cells #[.int .i64 x] 3)) g 122 (walC room sy (.slice A l.length c)) := (HS.out.drewN nq).bk.alloc _
  go_wp2_with (at_builtin; refine wpList_append_lies _ rfl _ _ _ rfl base 3 i0 _ 1 8 Try.underlying22 hi0 hz0 hz1 hz2 rfl (by omega) _ l.length (i64L l) rfl hown ⟨w.heap.size, 0, none⟩ 1 1 [.int .i64 x] rfl rfl (World.news_of_block (cs := #[.int .i64 x]) (t := 3) (fr := (0, 0)) (heap_alloc_new (w.drewN nq) _)) (by simp [Value.oneCell']) (by omega) (by unfold maxLen; omega) (by omega) (by simp; omega) (w.heap.size + 1) (by simp) ?_; intro gg cap w2 hown2 hgrow hat hlt2; have hbk2 : Bk w2 g 122 (walC room sy (.slice A l.length c)) := (hgrow.block g (by simp; omega) (fun e => hne e.symm)).trans hbk0; have hq : w2.cell? ⟨g, 2, none⟩ = some (.slice A l.length c) := hbk2.cell 2; have hqf := hbk2.frozen 2)
  go_ret
  have k1 : Kp (WN g A) w w2 := kp_grown (kp_alloc (kp_drewN (kp_refl _ _) nq) _) hgrow (fun i hi => .inl (.inr (own_slice _ _ _ i hi)))
  have k2 : Kp (fun i => i = g) w2 (w2.setCell ⟨g, 2, none⟩ (.slice (some ⟨gg, 0, none⟩) (l.length + 1) cap)) := kp_set (S := fun i => i = g) (p := ⟨g, 2, none⟩) (kp_refl _ _) (.inl rfl) _
  have hgg : gg ≠ g := by
    intro e
    subst e
    rcases hat with h' | h'
    · exact hne h'
    · omega
  refine ⟨rfl, some ⟨gg, 0, none⟩, cap, ⟨?_, ?_, ?_, hlo, ?_, ?_, h3⟩, kp_trans k1 (kp_mono k2 (fun i hi => .inl hi)), ?_⟩
  · have := hbk2.set_ 2 (.slice (some ⟨gg, 0, none⟩) (l.length + 1) cap)
    rw [List.length_append, List.length_singleton]
    exact this
  · rw [List.length_append, List.length_singleton, i64L_append]
    exact ownsRow_kp hown2 k2 (fun i hi e => by obtain ⟨ad, h1, h2⟩ := own_slice _ _ _ i hi; injection h1 with h1; subst h1; exact hgg (h2.trans e))
  · intro ad had
    injection had with had
    subst had
    exact hgg
  · have := HS.out.sy
    rw [List.length_append, List.length_singleton]; omega
  · rw [List.length_append, List.length_singleton]; omega
  · rintro i (rfl | ⟨ad, had, rfl⟩)
    · exact .inl (.inl rfl)
    · injection had with had
      subst had
      rcases hat with h' | h'
      · exact .inl (.inr (own_slice _ _ _ _ h'))
      · right; show w.heap.size ≤ gg; omega
end Go.Proofs.Ytpoimhjencpieaa
