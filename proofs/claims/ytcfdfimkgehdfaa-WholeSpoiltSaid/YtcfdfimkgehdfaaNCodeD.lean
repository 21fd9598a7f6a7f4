/-
  Encode of the document's answer for layer 2: it returns the bytes bE and the number eE. Conditions: the shape and the strings are such as memory can hold, the values are readable.
-/
import Derived.Test.YtcfdfimkgehdfaaNCodeC
import Derived.Lib.ConvBytes
import Derived.Deep.RegionHeld3
namespace Go.Proofs.Ytcfdfimkgehdfaa.Dk
set_option maxRecDepth 100000
open Go.RowKit

theorem conv_bytes {P : Program} (w : World) (src dst e : TypeId) (s : ByteArray) {u : TypeDesc} (hs : P.underlying src = some u) (hd : P.underlying dst = some (.slice e)) (he : P.underlying e = some (.int .u8)) :
    ∃ c w', (convert src dst (.string s)).run P w = .ok (.slice (some ⟨w.heap.size, 0, none⟩) s.size c) w' ∧ Src w' 1 (some ⟨w.heap.size, 0, none⟩) s.size (bc (bl s)) ∧ Below w.heap.size w w' := by
  refine ⟨_, _, Lib.run_convert_string_bytes (P := P) w src dst e s hs hd he, ⟨by rw [bc_length, bl_length]; omega, fun _ => ⟨_, rfl, fun j v hj => ?_⟩⟩, ⟨rfl, rfl, rfl, by rw [Lib.bytesWorld_size]; omega, fun i hi => Lib.bytesWorld_at_old w e s i hi⟩⟩
  have hjl : j < (bc (bl s)).length := (List.getElem?_eq_some_iff.1 hj).1
  have hj2 : j < s.size := by rw [bc_length, bl_length] at hjl; exact hjl
  rw [Addr.add_lit, Nat.zero_add, Lib.bytesWorld_cell w e s j hj2]
  unfold bc at hj
  rw [List.getElem?_map] at hj
  unfold bl at hj
  rw [List.getD_eq_getElem?_getD]
  cases hx : s.data.toList[j]? with
  | none => rw [hx] at hj; cases hj
  | some x => rw [hx] at hj; simpa using hj

end Go.Proofs.Ytcfdfimkgehdfaa.Dk
