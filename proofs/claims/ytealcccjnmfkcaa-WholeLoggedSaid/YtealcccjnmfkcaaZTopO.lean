/-
  Arguments opened: a slice of the whole's calls by bytes. No condition.
-/
import Derived.Test.YtealcccjnmfkcaaYOpn
import Derived.Test.YtealcccjnmfkcaaZTopD
set_option linter.unusedVariables false
set_option linter.unusedSimpArgs false
set_option linter.constructorNameAsVariable false
namespace Go.Proofs.Ytealcccjnmfkcaa
open Go.RowKit Go.ChangeShapes Go.WideShapes Go.Deep

theorem bnd_u16 {k : Int} (h : (Lit.int .u16 k).wf = true) : 0 ≤ k ∧ k ≤ 65535 := by
  simp [Lit.wf, IntKind.min, IntKind.max, IntKind.bits, IntKind.signed] at h
  omega
theorem Try.cbo : Try.prog.cellsOf 4 = 1 := by kernel_rfl
theorem Try.cCl : Try.prog.cellsOf 75 = 5 := by kernel_rfl

set_option maxRecDepth 100000 in
theorem call_trod {H : Type} {enc : TypeId × Value → H} {w : World} (m : Nat) (cs : List Value) (y : DataW H × List MemPlace) (hl : cs.length = 5) (hf : DataW.trod enc Try.prog w 0 (fun _ => true) true m 75 cs = some y) :
    ∃ x : Cl, ClOk x ∧ cs = cc x := by
  obtain ⟨xs, n', _, _, _, hxl, hg⟩ := DataW.trod_struct Try.underlying75 hf
  match cs, hl, xs, hxl with
  | [u0, u1, u2, u3, u4], _, [y0, y1, y2, y3, y4], _ =>
    have g0 : DataW.trod enc Try.prog w 0 (fun _ => true) true n' 5 (([u0, u1, u2, u3, u4].drop 0).take (Try.prog.cellsOf 5)) = some y0 := hg 0 _ rfl
    have g1 : DataW.trod enc Try.prog w 0 (fun _ => true) true n' 5 (([u0, u1, u2, u3, u4].drop 1).take (Try.prog.cellsOf 5)) = some y1 := hg 1 _ rfl
    have g2 : DataW.trod enc Try.prog w 0 (fun _ => true) true n' 5 (([u0, u1, u2, u3, u4].drop 2).take (Try.prog.cellsOf 5)) = some y2 := hg 2 _ rfl
    have g3 : DataW.trod enc Try.prog w 0 (fun _ => true) true n' 2 (([u0, u1, u2, u3, u4].drop 3).take (Try.prog.cellsOf 2)) = some y3 := hg 3 _ rfl
    have g4 : DataW.trod enc Try.prog w 0 (fun _ => true) true n' 4 (([u0, u1, u2, u3, u4].drop 4).take (Try.prog.cellsOf 4)) = some y4 := hg 4 _ rfl
    rw [Try.c8] at g0 g1 g2
    rw [Try.ci] at g3
    rw [Try.cbo] at g4
    obtain ⟨n0, e0, _, z0⟩ := DataW.trod_int (x := y0) Try.underlying5 g0
    obtain ⟨n1, e1, _, z1⟩ := DataW.trod_int (x := y1) Try.underlying5 g1
    obtain ⟨n2, e2, _, z2⟩ := DataW.trod_int (x := y2) Try.underlying5 g2
    obtain ⟨n3, e3, _, z3⟩ := DataW.trod_int (x := y3) Try.underlying2 g3
    obtain ⟨n4, e4, _⟩ := DataW.trod_bool (x := y4) Try.underlying4 g4
    simp at e0 e1 e2 e3 e4
    subst e0 e1 e2 e3 e4
    exact ⟨⟨n0, n1, n2, n3, n4⟩, ⟨bnd_u8 z0, bnd_u8 z1, bnd_u8 z2, bnd_i64 z3⟩, rfl⟩
theorem calls_of {H : Type} {enc : TypeId × Value → H} {w : World} {a : Option Addr} {len cap : Nat} {d : DataW H} {p : List MemPlace}
    (h : DataW.Trod enc Try.prog w 0 (fun _ => true) true 69 (.slice a len cap) d p) :
    ∃ L : List Cl, CLR w a len cap L ∧ ∀ x ∈ L, ClOk x :=
  row_of (c := cc) (s := 5) _ Try.underlying69 Try.cCl call_trod h
end Go.Proofs.Ytealcccjnmfkcaa
