/-
  Arguments of WholeDurable opened: slices of uint16 and of uint8. No condition.
-/
import Derived.Test.YtmghckddofefkaaDuW
import Derived.Test.YtmghckddofefkaaOpn
set_option linter.unusedVariables false
set_option linter.unusedSimpArgs false
set_option linter.constructorNameAsVariable false
namespace Go.Proofs.Ytmghckddofefkaa
open Go.RowKit Go.ChangeShapes Go.WideShapes Go.Deep

theorem Try.du16 : Try.prog.cellsOf 58 = 1 := by kernel_rfl
theorem Try.du8 : Try.prog.cellsOf 5 = 1 := by kernel_rfl
theorem du_u16 {k : Int} (h : (Lit.int .u16 k).wf = true) : 0 ≤ k ∧ k ≤ 65535 := by
  simp [Lit.wf, IntKind.min, IntKind.max, IntKind.bits, IntKind.signed] at h
  omega
theorem du_u8 {k : Int} (h : (Lit.int .u8 k).wf = true) : 0 ≤ k ∧ k ≤ 255 := by
  simp [Lit.wf, IntKind.min, IntKind.max, IntKind.bits, IntKind.signed] at h
  omega
theorem ints16_of {H : Type} {enc : TypeId × Value → H} {w : World} {a : Option Addr} {len cap : Nat} {d : DataW H} {p : List MemPlace}
    (h : DataW.Trod enc Try.prog w 0 (fun _ => true) true 67 (.slice a len cap) d p) :
    ∃ L : List Int, RR w u16c 1 a len cap L ∧ ∀ x ∈ L, 0 ≤ x ∧ x ≤ 65535 :=
  row_of (c := u16c) (s := 1) _ Try.underlying67 Try.du16 (fun m cs y hl hf => by
    obtain ⟨n0, e0, _, wf0⟩ := DataW.trod_int Try.underlying58 hf
    exact ⟨n0, du_u16 wf0, e0⟩) h
theorem ints8_of {H : Type} {enc : TypeId × Value → H} {w : World} {a : Option Addr} {len cap : Nat} {d : DataW H} {p : List MemPlace}
    (h : DataW.Trod enc Try.prog w 0 (fun _ => true) true 68 (.slice a len cap) d p) :
    ∃ L : List Int, RR w u8c 1 a len cap L ∧ ∀ x ∈ L, 0 ≤ x ∧ x ≤ 255 :=
  row_of (c := u8c) (s := 1) _ Try.underlying68 Try.du8 (fun m cs y hl hf => by
    obtain ⟨n0, e0, _, wf0⟩ := DataW.trod_int Try.underlying5 hf
    exact ⟨n0, du_u8 wf0, e0⟩) h
end Go.Proofs.Ytmghckddofefkaa
