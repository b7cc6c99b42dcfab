/- Rows of texts and of bytes. -/
import Derived.Test.YtfnkcahnkccekaaDoorApp
import Derived.Test.YtfnkcahnkccekaaDoorProg
import Derived.Test.YtfnkcahnkccekaaDoorFdM
namespace Go.Proofs.YtfnkcahnkccekaaDoor
open Go.RowKit
set_option linter.unusedVariables false
def strL (l : List ByteArray) : List Value := l.map .string
theorem strL_length (l : List ByteArray) : (strL l).length = l.length := by simp [strL]
theorem rd_str {w : World} {B : Nat} {A : Option Addr} {l : List ByteArray} (h : Rd w B A (strL l)) (k : Nat) (hk : k < l.length) : ∃ ad, A = some ad ∧ ad.block < B ∧ w.cell? (ad.add k) = some (.string l[k]) := by
  obtain ⟨ad, h1, h2, h3⟩ := h k (by rw [strL_length]; exact hk)
  exact ⟨ad, h1, h2, by rw [h3]; simp [strL]⟩
/-- the texts' bytes -/
def bys (l : List ByteArray) : List (List UInt8) := l.map fun s => s.data.toList
/-- bytes as cells -/
def byL (l : List UInt8) : List Value := l.map byteV
theorem byL_length (l : List UInt8) : (byL l).length = l.length := by simp [byL]
theorem byL_append (a b : List UInt8) : byL (a ++ b) = byL a ++ byL b := by simp [byL]
theorem byL_one (l : List UInt8) : ∀ u ∈ byL l, u.oneCell' = true := by
  intro u hu
  obtain ⟨c, _, rfl⟩ := List.mem_map.1 hu
  rfl
theorem take_byte (s : ByteArray) (k : Nat) (h : k < s.size) : s.data.toList.take (k + 1) = s.data.toList.take k ++ [s[k]] := by
  have hk : k < s.data.toList.length := by simpa using h
  rw [List.take_succ_eq_append_getElem hk]
  rfl
theorem bys_take (l : List ByteArray) (i : Nat) (h : i < l.length) : bys (l.take (i + 1)) = bys (l.take i) ++ [l[i].data.toList] := by
  rw [List.take_succ_eq_append_getElem h]
  unfold bys
  rw [List.map_append]
  rfl
theorem fld_take (s : ByteArray) (k : Nat) (h : k < s.size) : fld (s.data.toList.take (k + 1)) = fld (s.data.toList.take k) ++ esc s[k] := by
  rw [take_byte s k h, fld_append, fld_cons, fld_nil, List.append_nil]
theorem fld_take_le (f : List UInt8) (k : Nat) : (fld (f.take k)).length ≤ (fld f).length := by
  have h := fld_append (f.take k) (f.drop k)
  rw [List.take_append_drop] at h
  rw [h]; simp
theorem join_take_le (l : List (List UInt8)) (k : Nat) : (joinF (l.take k)).length ≤ (joinF l).length := by
  have h := joinF_append (l.take k) (l.drop k)
  rw [List.take_append_drop] at h
  rw [h]; simp
theorem info_u8 : (Tryd.prog.info? 5).map (fun i => (i.zero, i.size, i.bytes)) = some (some (.int .u8 0), 1, 1) := by kernel_rfl
end Go.Proofs.YtfnkcahnkccekaaDoor
