/-
  Steps that came in, opened. No condition.
-/
import Derived.Test.YtmghckddofefkaaHaX
import Derived.Test.YtmghckddofefkaaHaO
import Derived.Test.YtmghckddofefkaaOpn
set_option linter.unusedVariables false
set_option linter.unusedSimpArgs false
set_option linter.constructorNameAsVariable false
namespace Go.Proofs.Ytmghckddofefkaa
open Go.RowKit Go.ChangeShapes Go.WideShapes Go.Deep


theorem Try.hxS : Try.prog.cellsOf 60 = 5 := by kernel_rfl
theorem Try.hx16 : Try.prog.cellsOf 58 = 1 := by kernel_rfl
theorem hx_u16 {k : Int} (h : (Lit.int .u16 k).wf = true) : 0 ≤ k ∧ k ≤ 65535 := by
  simp [Lit.wf, IntKind.min, IntKind.max, IntKind.bits, IntKind.signed] at h
  omega
theorem hx_u8 {k : Int} (h : (Lit.int .u8 k).wf = true) : 0 ≤ k ∧ k ≤ 255 := by
  simp [Lit.wf, IntKind.min, IntKind.max, IntKind.bits, IntKind.signed] at h
  omega
set_option maxRecDepth 100000 in
theorem step_trod {H : Type} {enc : TypeId × Value → H} {w : World} (m : Nat) (cs : List Value) (y : DataW H × List MemPlace) (hl : cs.length = 5) (hf : DataW.trod enc Try.prog w 0 (fun _ => true) true m 60 cs = some y) :
    ∃ x : Stp, inStp x ∧ cs = stc x := by
  obtain ⟨xs, n', _, _, _, hxl, hg⟩ := DataW.trod_struct Try.underlying60 hf
  match cs, hl, xs, hxl with
  | [u0, u1, u2, u3, u4], _, [y0, y1, y2, y3, y4], _ =>
    have g0 : DataW.trod enc Try.prog w 0 (fun _ => true) true n' 5 (([u0, u1, u2, u3, u4].drop 0).take (Try.prog.cellsOf 5)) = some y0 := hg 0 _ rfl
    have g1 : DataW.trod enc Try.prog w 0 (fun _ => true) true n' 58 (([u0, u1, u2, u3, u4].drop 1).take (Try.prog.cellsOf 58)) = some y1 := hg 1 _ rfl
    have g2 : DataW.trod enc Try.prog w 0 (fun _ => true) true n' 5 (([u0, u1, u2, u3, u4].drop 2).take (Try.prog.cellsOf 5)) = some y2 := hg 2 _ rfl
    have g3 : DataW.trod enc Try.prog w 0 (fun _ => true) true n' 5 (([u0, u1, u2, u3, u4].drop 3).take (Try.prog.cellsOf 5)) = some y3 := hg 3 _ rfl
    have g4 : DataW.trod enc Try.prog w 0 (fun _ => true) true n' 9 (([u0, u1, u2, u3, u4].drop 4).take (Try.prog.cellsOf 9)) = some y4 := hg 4 _ rfl
    rw [Try.hc8] at g0 g2 g3
    rw [Try.hx16] at g1
    rw [Try.hcs] at g4
    obtain ⟨n0, e0, _, z0⟩ := DataW.trod_int (x := y0) Try.underlying5 g0
    obtain ⟨n1, e1, _, z1⟩ := DataW.trod_int (x := y1) Try.underlying58 g1
    obtain ⟨n2, e2, _, z2⟩ := DataW.trod_int (x := y2) Try.underlying5 g2
    obtain ⟨n3, e3, _, z3⟩ := DataW.trod_int (x := y3) Try.underlying5 g3
    obtain ⟨n4, e4, _⟩ := DataW.trod_string (x := y4) Try.underlying9 g4
    simp at e0 e1 e2 e3 e4
    subst e0 e1 e2 e3 e4
    have b0 := hx_u8 z0
    have b1 := hx_u16 z1
    have b2 := hx_u8 z2
    have b3 := hx_u8 z3
    refine ⟨⟨n0, n1.toNat, n2.toNat, n3.toNat, n4⟩, ⟨b0, by show n1.toNat ≤ 65535; omega, by show n2.toNat ≤ 255; omega, by show n3.toNat ≤ 255; omega⟩, ?_⟩
    simp only [stc]
    rw [show ((n1.toNat : Nat) : Int) = n1 by omega, show ((n2.toNat : Nat) : Int) = n2 by omega, show ((n3.toNat : Nat) : Int) = n3 by omega]
theorem steps_of {H : Type} {enc : TypeId × Value → H} {w : World} {a : Option Addr} {len cap : Nat} {d : DataW H} {p : List MemPlace}
    (h : DataW.Trod enc Try.prog w 0 (fun _ => true) true 54 (.slice a len cap) d p) :
    ∃ L : List Stp, RR w stc 5 a len cap L ∧ ∀ x ∈ L, inStp x :=
  row_of (c := stc) (s := 5) _ Try.underlying54 Try.hxS step_trod h
end Go.Proofs.Ytmghckddofefkaa
