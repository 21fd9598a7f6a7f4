/-
  Deltas that came in as arguments: a delta, a slice of them. No condition.
-/
import Derived.Test.YtealcccjnmfkcaaDlA
import Derived.Test.YtealcccjnmfkcaaOpn
set_option linter.unusedVariables false
set_option linter.unusedSimpArgs false
set_option linter.constructorNameAsVariable false
namespace Go.Proofs.Ytealcccjnmfkcaa
open Go.RowKit Go.ChangeShapes Go.WideShapes Go.Deep

theorem Try.c8 : Try.prog.cellsOf 5 = 1 := by kernel_rfl
theorem Try.ci : Try.prog.cellsOf 2 = 1 := by kernel_rfl
theorem Try.cD : Try.prog.cellsOf 102 = 2 := by kernel_rfl
theorem bnd_i64 {k : Int} (h : (Lit.int .i64 k).wf = true) : -9223372036854775808 ≤ k ∧ k ≤ 9223372036854775807 := by
  simp [Lit.wf, IntKind.min, IntKind.max, IntKind.bits, IntKind.signed] at h
  omega
theorem bnd_u8 {k : Int} (h : (Lit.int .u8 k).wf = true) : 0 ≤ k ∧ k ≤ 255 := by
  simp [Lit.wf, IntKind.min, IntKind.max, IntKind.bits, IntKind.signed] at h
  omega

set_option maxRecDepth 100000 in
theorem delta_trod {H : Type} {enc : TypeId × Value → H} {w : World} (m : Nat) (cs : List Value) (y : DataW H × List MemPlace) (hl : cs.length = 2) (hf : DataW.trod enc Try.prog w 0 (fun _ => true) true m 102 cs = some y) :
    ∃ x : Dl, inD x ∧ cs = dc x := by
  obtain ⟨xs, n', _, _, _, hxl, hg⟩ := DataW.trod_struct Try.underlying102 hf
  match cs, hl, xs, hxl with
  | [u0, u1], _, [y0, y1], _ =>
    have g0 : DataW.trod enc Try.prog w 0 (fun _ => true) true n' 5 (([u0, u1].drop 0).take (Try.prog.cellsOf 5)) = some y0 := hg 0 _ rfl
    have g1 : DataW.trod enc Try.prog w 0 (fun _ => true) true n' 2 (([u0, u1].drop 1).take (Try.prog.cellsOf 2)) = some y1 := hg 1 _ rfl
    rw [Try.c8] at g0
    rw [Try.ci] at g1
    obtain ⟨n0, e0, _, z0⟩ := DataW.trod_int (x := y0) Try.underlying5 g0
    obtain ⟨n1, e1, _, z1⟩ := DataW.trod_int (x := y1) Try.underlying2 g1
    simp at e0 e1
    subst e0 e1
    exact ⟨⟨n0, n1⟩, ⟨bnd_u8 z0, bnd_i64 z1⟩, rfl⟩
theorem deltas_of {H : Type} {enc : TypeId × Value → H} {w : World} {a : Option Addr} {len cap : Nat} {d : DataW H} {p : List MemPlace}
    (h : DataW.Trod enc Try.prog w 0 (fun _ => true) true 26 (.slice a len cap) d p) :
    ∃ L : List Dl, DR w a len cap L ∧ WfL L :=
  row_of (c := dc) (s := 2) _ Try.underlying26 Try.cD delta_trod h
theorem delta_of {H : Type} {enc : TypeId × Value → H} {w : World} {r : Reach} {b0 : Nat} {v : Value} {d : DataW H} {p : List MemPlace}
    (hv : Value.okWide Try.prog w r b0 102 v) (h : DataW.Trod enc Try.prog w 0 (fun _ => true) true 102 v d p) :
    ∃ x : Dl, v = dv x ∧ inD x := by
  simp only [Value.okWide, Try.underlying102] at hv
  obtain ⟨cs, rfl, hsz, _⟩ := hv
  obtain ⟨l⟩ := cs
  obtain ⟨fuel, hf⟩ := h
  obtain ⟨x, hx, hc⟩ := delta_trod fuel l _ (hsz.trans Try.cD) hf
  exact ⟨x, by rw [hc]; rfl, hx⟩
theorem slice_trod {H : Type} {enc : TypeId × Value → H} {w : World} {fuel : Nat} {c : Value} {y : DataW H × List MemPlace} {t e : TypeId} (ht : Try.prog.underlying t = some (.slice e))
    (hf : DataW.trod enc Try.prog w 0 (fun _ => true) true fuel t [c] = some y) : ∃ a len cap, c = .slice a len cap := by
  rcases open_slice ht hf with ⟨hcs, _⟩ | ⟨x, l, c', m, n, D, Pl, hcs, _⟩
  · simp at hcs; exact ⟨_, _, _, hcs⟩
  · simp at hcs; exact ⟨_, _, _, hcs⟩
end Go.Proofs.Ytealcccjnmfkcaa
