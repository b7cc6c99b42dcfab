/- box: put and take on a channel, in the machine of one goroutine. -/
import Derived.Conc.LoneCalls
import Derived.Conc.LoneSelect
import Derived.KernelRfl
import Derived.Laws.Rows
import Derived.Test.YtpoimhjencpieaaApp
import Derived.Test.YtpoimhjencpieaaProg
namespace Go.Proofs.Ytpoimhjencpieaa
open Go.Conc Go.RowKit
set_option linter.unusedVariables false
/-- A channel of the call's own: open, no timer, what waits in it. -/
def Ch (w : World) (c cap : Nat) (l : List Value) : Prop := ∃ s r, w.heap[c]? = some (.chan cap l.toArray false s r false)
theorem Ch.lt {w : World} {c cap : Nat} {l : List Value} (h : Ch w c cap l) : c < w.heap.size := by
  obtain ⟨s, r, h⟩ := h
  rcases Nat.lt_or_ge c w.heap.size with h' | h'
  · exact h'
  · rw [Array.getElem?_eq_none h'] at h; cases h
theorem Ch.kp {S : Nat → Prop} {w w' : World} {c cap : Nat} {l : List Value} (h : Ch w c cap l) (k : Kp S w w') (hc : ¬ S c) : Ch w' c cap l := by
  have hlt := h.lt
  obtain ⟨s, r, h⟩ := h
  exact ⟨s, r, (k.block c hlt hc).trans h⟩
theorem Ch.new (w : World) (cap : Nat) : Ch (w.alloc (.chan cap #[] false 0 0 false)) w.heap.size cap [] := ⟨0, 0, heap_alloc_new w _⟩
theorem kp_setChan {S : Nat → Prop} {a b : World} (h : Kp S a b) {c : Nat} (hc : S c ∨ a.heap.size ≤ c) (cap : Nat) (buf : Array Value) (cl : Bool) (s r : Nat) (tm : Bool) : Kp S a (b.setChan c cap buf cl s r tm) :=
  ⟨h.os, h.tape, h.output, by rw [size_setChan]; exact h.size, fun i hi hn => by
    have hne : c ≠ i := fun hh => by subst hh; rcases hc with hc | hc; exact hn hc; omega
    simp only [World.setChan]
    rw [Array.getElem?_setIfInBounds_ne hne]
    exact h.block i hi hn⟩
set_option maxRecDepth 100000 in
theorem put_int_room (c cap : Nat) (l : List Value) (v : Value) (w : World) (h : Ch w c cap l) (hr : l.length < cap) :
    Calls Try.prog 69 #[.chan (some c), v] w fun e w' => e = .returned (.bool true) ∧ Ch w' c cap (l ++ [v]) ∧ Kp (fun i => i = c) w w' := by
  obtain ⟨s, r, hc⟩ := h
  refine calls_of_loneTo fun cs => ?_
  have e : Frame.enter Try.prog 69 #[.chan (some c), v] .normal = (base 69).at ⟨#[.chan (some c), v, undef, undef, undef, undef, undef, undef, undef, undef], []⟩ [.code (Try.f69.body.getD .skip)] := by
    simp [Frame.enter, Frame.at, Try.func69, base, Try.f69]
  rw [e]
  refine LoneTo.goes (n := 14) ?_
  simp only [Try.f69, Option.getD_some]
  s_c stepG_seq
  s_reg
  s_op
  s_c stepG_region_end
  s_c stepG_seq
  s_c stepG_seq
  s_reg
  s_op
  s_c stepG_region_end
  s_reg
  s_op
  s_c stepG_region_end
  s_c stepG_seq
  s_reg
  s_stop
  refine LoneTo.step (step_lone_select_send_room (c := c) (v := v) (z' := (.int .i64 0)) (cap := cap) (buf := l.toArray) (s := s) (r := r) (tm := false)
    (stepG_comm (cases := #[scase c v (.int .i64 0)]) (blocking := false) (shape := .select) (w' := w) rfl rfl (by decide) (by simp [go_sem, execOp, scase, Act.eval])) hc (by simpa using hr)) ?_
  rw [Frame.finish_at]
  walk_nrm
  refine LoneTo.goes (n := 10) ?_
  s_op
  s_op
  s_c stepG_region_end
  s_c stepG_block
  s_cond true
  s_c stepG_seq
  s_reg
  s_op
  s_c stepG_region_end
  s_c stepG_ret'
  s_stop
  refine LoneTo.done ⟨.returned (.bool true), _, rfl, ⟨rfl, ⟨s + 1, r, ?_⟩, kp_setChan (S := fun i => i = c) (kp_refl _ _) (.inl rfl) _ _ _ _ _ _⟩, rfl, rfl, rfl, rfl, _, Try.func69, by simp [results, Try.f69, Frame.at]⟩
  rw [heap_setChan _ _ _ _ _ _ _ _ (by rcases Nat.lt_or_ge c w.heap.size with h' | h'; exact h'; rw [Array.getElem?_eq_none h'] at hc; cases hc)]
set_option maxRecDepth 100000 in
theorem put_int_full (c cap : Nat) (l : List Value) (v : Value) (w : World) (h : Ch w c cap l) (hr : cap ≤ l.length) :
    Calls Try.prog 69 #[.chan (some c), v] w fun e w' => e = .returned (.bool false) ∧ w' = w := by
  obtain ⟨s, r, hc⟩ := h
  refine calls_of_loneTo fun cs => ?_
  have e : Frame.enter Try.prog 69 #[.chan (some c), v] .normal = (base 69).at ⟨#[.chan (some c), v, undef, undef, undef, undef, undef, undef, undef, undef], []⟩ [.code (Try.f69.body.getD .skip)] := by
    simp [Frame.enter, Frame.at, Try.func69, base, Try.f69]
  rw [e]
  refine LoneTo.goes (n := 14) ?_
  simp only [Try.f69, Option.getD_some]
  s_c stepG_seq
  s_reg
  s_op
  s_c stepG_region_end
  s_c stepG_seq
  s_c stepG_seq
  s_reg
  s_op
  s_c stepG_region_end
  s_reg
  s_op
  s_c stepG_region_end
  s_c stepG_seq
  s_reg
  s_stop
  refine LoneTo.step (step_lone_select_send_full (c := c) (v := v) (z' := (.int .i64 0)) (cap := cap) (buf := l.toArray) (s := s) (r := r) (tm := false)
    (stepG_comm (cases := #[scase c v (.int .i64 0)]) (blocking := false) (shape := .select) (w' := w) rfl rfl (by decide) (by simp [go_sem, execOp, scase, Act.eval])) hc (by simpa using hr)) ?_
  rw [Frame.finish_at]
  walk_nrm
  refine LoneTo.goes (n := 10) ?_
  s_op
  s_op
  s_c stepG_region_end
  s_c stepG_block
  s_cond false
  s_c stepG_seq
  s_reg
  s_op
  s_c stepG_region_end
  s_c stepG_ret'
  s_stop
  exact LoneTo.done ⟨.returned (.bool false), _, rfl, ⟨rfl, rfl⟩, rfl, rfl, rfl, rfl, _, Try.func69, by simp [results, Try.f69, Frame.at]⟩
set_option maxRecDepth 100000 in
theorem take_int_some (c cap : Nat) (l : List Value) (v : Value) (w : World) (h : Ch w c cap (v :: l)) :
    Calls Try.prog 70 #[.chan (some c)] w fun e w' => e = .returned (.tuple #[v, .bool true]) ∧ Ch w' c cap l ∧ Kp (fun i => i = c) w w' := by
  obtain ⟨s, r, hc⟩ := h
  refine calls_of_loneTo fun cs => ?_
  have e : Frame.enter Try.prog 70 #[.chan (some c)] .normal = (base 70).at ⟨#[.chan (some c), undef, undef, undef, undef, undef, undef, undef, undef, undef, undef], []⟩ [.code (Try.f70.body.getD .skip)] := by
    simp [Frame.enter, Frame.at, Try.func70, base, Try.f70]
  rw [e]
  refine LoneTo.goes (n := 11) ?_
  simp only [Try.f70, Option.getD_some]
  s_c stepG_seq
  s_reg
  s_op
  s_op
  s_c stepG_region_end
  s_c stepG_seq
  s_reg
  s_op
  s_c stepG_region_end
  s_c stepG_seq
  s_reg
  s_stop
  refine LoneTo.step (step_lone_select_recv_buf (c := c) (z := (.int .i64 0)) (cap := cap) (buf := (v :: l).toArray) (closed := false) (s := s) (r := r) (tm := false)
    (stepG_comm (cases := #[rcase c (.int .i64 0)]) (blocking := false) (shape := .select) (w' := w) rfl rfl (by decide) (by simp [go_sem, execOp, rcase, Act.eval])) hc (by simp)) ?_
  rw [Frame.finish_at, show ((v :: l).toArray.getD 0 undef) = v from rfl]
  walk_nrm
  refine LoneTo.goes (n := 17) ?_
  s_op
  s_op
  s_c stepG_region_end
  s_c stepG_block
  s_cond true
  s_c stepG_seq
  s_reg
  s_op
  s_op
  s_c stepG_region_end
  s_c stepG_seq
  s_reg
  s_op
  s_op
  s_op
  s_c stepG_region_end
  s_c stepG_ret'
  s_stop
  refine LoneTo.done ⟨.returned (.tuple #[v, .bool true]), _, rfl, ⟨rfl, ⟨s, r + 1, ?_⟩, kp_setChan (S := fun i => i = c) (kp_refl _ _) (.inl rfl) _ _ _ _ _ _⟩, rfl, rfl, rfl, rfl, _, Try.func70, by simp [results, Try.f70, Frame.at]⟩
  rw [heap_setChan _ _ _ _ _ _ _ _ (by rcases Nat.lt_or_ge c w.heap.size with h' | h'; exact h'; rw [Array.getElem?_eq_none h'] at hc; cases hc)]
set_option maxRecDepth 100000 in
theorem take_int_none (c cap : Nat) (w : World) (h : Ch w c cap []) :
    Calls Try.prog 70 #[.chan (some c)] w fun e w' => e = .returned (.tuple #[(.int .i64 0), .bool false]) ∧ w' = w := by
  obtain ⟨s, r, hc⟩ := h
  refine calls_of_loneTo fun cs => ?_
  have e : Frame.enter Try.prog 70 #[.chan (some c)] .normal = (base 70).at ⟨#[.chan (some c), undef, undef, undef, undef, undef, undef, undef, undef, undef, undef], []⟩ [.code (Try.f70.body.getD .skip)] := by
    simp [Frame.enter, Frame.at, Try.func70, base, Try.f70]
  rw [e]
  refine LoneTo.goes (n := 11) ?_
  simp only [Try.f70, Option.getD_some]
  s_c stepG_seq
  s_reg
  s_op
  s_op
  s_c stepG_region_end
  s_c stepG_seq
  s_reg
  s_op
  s_c stepG_region_end
  s_c stepG_seq
  s_reg
  s_stop
  refine LoneTo.step (step_lone_select_default (c := c) (z := (.int .i64 0)) (cap := cap) (s := s) (r := r) (tm := false)
    (stepG_comm (cases := #[rcase c (.int .i64 0)]) (blocking := false) (shape := .select) (w' := w) rfl rfl (by decide) (by simp [go_sem, execOp, rcase, Act.eval])) hc) ?_
  rw [Frame.finish_at]
  walk_nrm
  refine LoneTo.goes (n := 12) ?_
  s_op
  s_op
  s_c stepG_region_end
  s_c stepG_block
  s_cond false
  s_c stepG_seq
  s_reg
  s_op
  s_op
  s_op
  s_c stepG_region_end
  s_c stepG_ret'
  s_stop
  exact LoneTo.done ⟨.returned (.tuple #[(.int .i64 0), .bool false]), _, rfl, ⟨rfl, rfl⟩, rfl, rfl, rfl, rfl, _, Try.func70, by simp [results, Try.f70, Frame.at]⟩
set_option maxRecDepth 100000 in
theorem put_string_room (c cap : Nat) (l : List Value) (v : Value) (w : World) (h : Ch w c cap l) (hr : l.length < cap) :
    Calls Try.prog 73 #[.chan (some c), v] w fun e w' => e = .returned (.bool true) ∧ Ch w' c cap (l ++ [v]) ∧ Kp (fun i => i = c) w w' := by
  obtain ⟨s, r, hc⟩ := h
  refine calls_of_loneTo fun cs => ?_
  have e : Frame.enter Try.prog 73 #[.chan (some c), v] .normal = (base 73).at ⟨#[.chan (some c), v, undef, undef, undef, undef, undef, undef, undef, undef], []⟩ [.code (Try.f73.body.getD .skip)] := by
    simp [Frame.enter, Frame.at, Try.func73, base, Try.f73]
  rw [e]
  refine LoneTo.goes (n := 14) ?_
  simp only [Try.f73, Option.getD_some]
  s_c stepG_seq
  s_reg
  s_op
  s_c stepG_region_end
  s_c stepG_seq
  s_c stepG_seq
  s_reg
  s_op
  s_c stepG_region_end
  s_reg
  s_op
  s_c stepG_region_end
  s_c stepG_seq
  s_reg
  s_stop
  refine LoneTo.step (step_lone_select_send_room (c := c) (v := v) (z' := (.string ⟨#[]⟩)) (cap := cap) (buf := l.toArray) (s := s) (r := r) (tm := false)
    (stepG_comm (cases := #[scase c v (.string ⟨#[]⟩)]) (blocking := false) (shape := .select) (w' := w) rfl rfl (by decide) (by simp [go_sem, execOp, scase, Act.eval])) hc (by simpa using hr)) ?_
  rw [Frame.finish_at]
  walk_nrm
  refine LoneTo.goes (n := 10) ?_
  s_op
  s_op
  s_c stepG_region_end
  s_c stepG_block
  s_cond true
  s_c stepG_seq
  s_reg
  s_op
  s_c stepG_region_end
  s_c stepG_ret'
  s_stop
  refine LoneTo.done ⟨.returned (.bool true), _, rfl, ⟨rfl, ⟨s + 1, r, ?_⟩, kp_setChan (S := fun i => i = c) (kp_refl _ _) (.inl rfl) _ _ _ _ _ _⟩, rfl, rfl, rfl, rfl, _, Try.func73, by simp [results, Try.f73, Frame.at]⟩
  rw [heap_setChan _ _ _ _ _ _ _ _ (by rcases Nat.lt_or_ge c w.heap.size with h' | h'; exact h'; rw [Array.getElem?_eq_none h'] at hc; cases hc)]
set_option maxRecDepth 100000 in
theorem put_string_full (c cap : Nat) (l : List Value) (v : Value) (w : World) (h : Ch w c cap l) (hr : cap ≤ l.length) :
    Calls Try.prog 73 #[.chan (some c), v] w fun e w' => e = .returned (.bool false) ∧ w' = w := by
  obtain ⟨s, r, hc⟩ := h
  refine calls_of_loneTo fun cs => ?_
  have e : Frame.enter Try.prog 73 #[.chan (some c), v] .normal = (base 73).at ⟨#[.chan (some c), v, undef, undef, undef, undef, undef, undef, undef, undef], []⟩ [.code (Try.f73.body.getD .skip)] := by
    simp [Frame.enter, Frame.at, Try.func73, base, Try.f73]
  rw [e]
  refine LoneTo.goes (n := 14) ?_
  simp only [Try.f73, Option.getD_some]
  s_c stepG_seq
  s_reg
  s_op
  s_c stepG_region_end
  s_c stepG_seq
  s_c stepG_seq
  s_reg
  s_op
  s_c stepG_region_end
  s_reg
  s_op
  s_c stepG_region_end
  s_c stepG_seq
  s_reg
  s_stop
  refine LoneTo.step (step_lone_select_send_full (c := c) (v := v) (z' := (.string ⟨#[]⟩)) (cap := cap) (buf := l.toArray) (s := s) (r := r) (tm := false)
    (stepG_comm (cases := #[scase c v (.string ⟨#[]⟩)]) (blocking := false) (shape := .select) (w' := w) rfl rfl (by decide) (by simp [go_sem, execOp, scase, Act.eval])) hc (by simpa using hr)) ?_
  rw [Frame.finish_at]
  walk_nrm
  refine LoneTo.goes (n := 10) ?_
  s_op
  s_op
  s_c stepG_region_end
  s_c stepG_block
  s_cond false
  s_c stepG_seq
  s_reg
  s_op
  s_c stepG_region_end
  s_c stepG_ret'
  s_stop
  exact LoneTo.done ⟨.returned (.bool false), _, rfl, ⟨rfl, rfl⟩, rfl, rfl, rfl, rfl, _, Try.func73, by simp [results, Try.f73, Frame.at]⟩
set_option maxRecDepth 100000 in
theorem take_string_some (c cap : Nat) (l : List Value) (v : Value) (w : World) (h : Ch w c cap (v :: l)) :
    Calls Try.prog 74 #[.chan (some c)] w fun e w' => e = .returned (.tuple #[v, .bool true]) ∧ Ch w' c cap l ∧ Kp (fun i => i = c) w w' := by
  obtain ⟨s, r, hc⟩ := h
  refine calls_of_loneTo fun cs => ?_
  have e : Frame.enter Try.prog 74 #[.chan (some c)] .normal = (base 74).at ⟨#[.chan (some c), undef, undef, undef, undef, undef, undef, undef, undef, undef, undef], []⟩ [.code (Try.f74.body.getD .skip)] := by
    simp [Frame.enter, Frame.at, Try.func74, base, Try.f74]
  rw [e]
  refine LoneTo.goes (n := 11) ?_
  simp only [Try.f74, Option.getD_some]
  s_c stepG_seq
  s_reg
  s_op
  s_op
  s_c stepG_region_end
  s_c stepG_seq
  s_reg
  s_op
  s_c stepG_region_end
  s_c stepG_seq
  s_reg
  s_stop
  refine LoneTo.step (step_lone_select_recv_buf (c := c) (z := (.string ⟨#[]⟩)) (cap := cap) (buf := (v :: l).toArray) (closed := false) (s := s) (r := r) (tm := false)
    (stepG_comm (cases := #[rcase c (.string ⟨#[]⟩)]) (blocking := false) (shape := .select) (w' := w) rfl rfl (by decide) (by simp [go_sem, execOp, rcase, Act.eval])) hc (by simp)) ?_
  rw [Frame.finish_at, show ((v :: l).toArray.getD 0 undef) = v from rfl]
  walk_nrm
  refine LoneTo.goes (n := 17) ?_
  s_op
  s_op
  s_c stepG_region_end
  s_c stepG_block
  s_cond true
  s_c stepG_seq
  s_reg
  s_op
  s_op
  s_c stepG_region_end
  s_c stepG_seq
  s_reg
  s_op
  s_op
  s_op
  s_c stepG_region_end
  s_c stepG_ret'
  s_stop
  refine LoneTo.done ⟨.returned (.tuple #[v, .bool true]), _, rfl, ⟨rfl, ⟨s, r + 1, ?_⟩, kp_setChan (S := fun i => i = c) (kp_refl _ _) (.inl rfl) _ _ _ _ _ _⟩, rfl, rfl, rfl, rfl, _, Try.func74, by simp [results, Try.f74, Frame.at]⟩
  rw [heap_setChan _ _ _ _ _ _ _ _ (by rcases Nat.lt_or_ge c w.heap.size with h' | h'; exact h'; rw [Array.getElem?_eq_none h'] at hc; cases hc)]
set_option maxRecDepth 100000 in
theorem take_string_none (c cap : Nat) (w : World) (h : Ch w c cap []) :
    Calls Try.prog 74 #[.chan (some c)] w fun e w' => e = .returned (.tuple #[(.string ⟨#[]⟩), .bool false]) ∧ w' = w := by
  obtain ⟨s, r, hc⟩ := h
  refine calls_of_loneTo fun cs => ?_
  have e : Frame.enter Try.prog 74 #[.chan (some c)] .normal = (base 74).at ⟨#[.chan (some c), undef, undef, undef, undef, undef, undef, undef, undef, undef, undef], []⟩ [.code (Try.f74.body.getD .skip)] := by
    simp [Frame.enter, Frame.at, Try.func74, base, Try.f74]
  rw [e]
  refine LoneTo.goes (n := 11) ?_
  simp only [Try.f74, Option.getD_some]
  s_c stepG_seq
  s_reg
  s_op
  s_op
  s_c stepG_region_end
  s_c stepG_seq
  s_reg
  s_op
  s_c stepG_region_end
  s_c stepG_seq
  s_reg
  s_stop
  refine LoneTo.step (step_lone_select_default (c := c) (z := (.string ⟨#[]⟩)) (cap := cap) (s := s) (r := r) (tm := false)
    (stepG_comm (cases := #[rcase c (.string ⟨#[]⟩)]) (blocking := false) (shape := .select) (w' := w) rfl rfl (by decide) (by simp [go_sem, execOp, rcase, Act.eval])) hc) ?_
  rw [Frame.finish_at]
  walk_nrm
  refine LoneTo.goes (n := 12) ?_
  s_op
  s_op
  s_c stepG_region_end
  s_c stepG_block
  s_cond false
  s_c stepG_seq
  s_reg
  s_op
  s_op
  s_op
  s_c stepG_region_end
  s_c stepG_ret'
  s_stop
  exact LoneTo.done ⟨.returned (.tuple #[(.string ⟨#[]⟩), .bool false]), _, rfl, ⟨rfl, rfl⟩, rfl, rfl, rfl, rfl, _, Try.func74, by simp [results, Try.f74, Frame.at]⟩
end Go.Proofs.Ytpoimhjencpieaa
