/-
  An argument of the law CodeJoins: an array of two strings that came in. No condition.
-/
import Derived.Test.YtbhjoajcfeheaaaCodeO
namespace Go.Proofs.Ytbhjoajcfeheaaa
open Go.RowKit Go.ChangeShapes Go.WideShapes Go.Deep

theorem two_strings {H : Type} {enc : TypeId × Value → H} {w : World} {r : Reach} {b0 : Nat} {v : Value} {d : DataW H} {p : List MemPlace}
    (hv : Value.okWide Try.prog w r b0 51 v) (h : DataW.Trod enc Try.prog w 0 (fun _ => true) true 51 v d p) :
    ∃ s0 s1 : ByteArray, v = .agg #[.string s0, .string s1] ∧ s0.size ≤ maxLen ∧ s1.size ≤ maxLen := by
  have hc : Try.prog.cellsOf 51 = 2 := by kernel_rfl
  have he : Try.prog.cellsOf 9 = 1 := by kernel_rfl
  simp only [Value.okWide, Try.underlying51] at hv
  obtain ⟨cs, rfl, hsz, _⟩ := hv
  obtain ⟨l⟩ := cs
  match l, hsz.trans hc with
  | [c0, c1], _ =>
    obtain ⟨fuel, hf⟩ := h
    obtain ⟨xs, m, _, _, _, hlen, hg⟩ := DataW.trod_array Try.underlying51 hf
    match xs, hlen with
    | [y0, y1], _ =>
      have g0 := hg 0 (by omega)
      have g1 := hg 1 (by omega)
      rw [he] at g0 g1
      have g0' : DataW.trod enc Try.prog w 0 (fun _ => true) true m 9 [c0] = some y0 := by simpa [Value.cells] using g0
      have g1' : DataW.trod enc Try.prog w 0 (fun _ => true) true m 9 [c1] = some y1 := by simpa [Value.cells] using g1
      obtain ⟨s0, e0, _, z0⟩ := DataW.trod_string (x := y0) Try.underlying9 g0'
      obtain ⟨s1, e1, _, z1⟩ := DataW.trod_string (x := y1) Try.underlying9 g1'
      simp at e0 e1
      subst e0 e1
      exact ⟨s0, s1, rfl, z0, z1⟩
end Go.Proofs.Ytbhjoajcfeheaaa
