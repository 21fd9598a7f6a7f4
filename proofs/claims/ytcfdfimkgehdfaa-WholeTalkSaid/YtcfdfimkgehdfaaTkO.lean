/-
  Arguments of layer 16's laws that came in: a packet, steps, texts, bytes. No condition.
-/
import Derived.Test.YtcfdfimkgehdfaaQaA
import Derived.Test.YtcfdfimkgehdfaaOpn
set_option linter.unusedVariables false
set_option linter.unusedSimpArgs false
set_option linter.constructorNameAsVariable false
namespace Go.Proofs.Ytcfdfimkgehdfaa
open Go.RowKit Go.ChangeShapes Go.WideShapes Go.Deep

theorem Try.cn : Try.prog.cellsOf 3 = 1 := by kernel_rfl
theorem Try.cs : Try.prog.cellsOf 9 = 1 := by kernel_rfl
theorem Try.c8 : Try.prog.cellsOf 5 = 1 := by kernel_rfl
theorem Try.c16 : Try.prog.cellsOf 31 = 1 := by kernel_rfl
theorem bnd_u8 {n : Int} (h : (Lit.int .u8 n).wf = true) : 0 ≤ n ∧ n ≤ 255 := by
  have e1 : IntKind.u8.min = 0 := by decide
  have e2 : IntKind.u8.max = 255 := by decide
  have h : (decide (IntKind.u8.min ≤ n) && decide (n ≤ IntKind.u8.max)) = true := h
  rw [e1, e2] at h
  simpa using h
theorem bnd_u16 {n : Int} (h : (Lit.int .u16 n).wf = true) : 0 ≤ n ∧ n ≤ 65535 := by
  have e1 : IntKind.u16.min = 0 := by decide
  have e2 : IntKind.u16.max = 65535 := by decide
  have h : (decide (IntKind.u16.min ≤ n) && decide (n ≤ IntKind.u16.max)) = true := h
  rw [e1, e2] at h
  simpa using h
theorem nat_of {n : Int} (h : 0 ≤ n) : ∃ t : Nat, n = (t : Int) := ⟨n.toNat, by omega⟩
theorem word_of {n : Int} (h : (Lit.int .u16 n).wf = true) : ∃ t : Nat, n = (t : Int) ∧ t < 65536 := by
  have b := bnd_u16 h
  obtain ⟨t, rfl⟩ := nat_of b.1
  exact ⟨t, rfl, by omega⟩
theorem texts_of {H : Type} {enc : TypeId × Value → H} {w : World} {a : Option Addr} {len cap : Nat} {d : DataW H} {p : List MemPlace}
    (h : DataW.Trod enc Try.prog w 0 (fun _ => true) true 61 (.slice a len cap) d p) : ∃ L : List ByteArray, RR w scl 1 a len cap L := by
  obtain ⟨L, hL, _⟩ := row_of (c := scl) (s := 1) (fun _ => True) Try.underlying61 Try.cs (fun m cs y hl hf => by
    obtain ⟨n0, e0, _⟩ := DataW.trod_string Try.underlying9 hf
    subst e0
    exact ⟨n0, trivial, rfl⟩) h
  exact ⟨L, hL⟩
theorem bytes_of {H : Type} {enc : TypeId × Value → H} {w : World} {a : Option Addr} {len cap : Nat} {d : DataW H} {p : List MemPlace}
    (h : DataW.Trod enc Try.prog w 0 (fun _ => true) true 30 (.slice a len cap) d p) : ∃ L : List Nat, RR w ucl 1 a len cap L ∧ ∀ x ∈ L, x < 256 :=
  row_of (c := ucl) (s := 1) _ Try.underlying30 Try.c8 (fun m cs y hl hf => by
    obtain ⟨n0, e0, _, wf0⟩ := DataW.trod_int Try.underlying5 hf
    subst e0
    have b := bnd_u8 wf0
    obtain ⟨k, rfl⟩ := nat_of b.1
    exact ⟨k, by omega, rfl⟩) h
end Go.Proofs.Ytcfdfimkgehdfaa
