/-
  Acts opened. No condition.
-/
import Derived.Test.YtjooceaclfdjjaaTyU
import Derived.Test.YtjooceaclfdjjaaTyO
set_option linter.unusedVariables false
set_option linter.unusedSimpArgs false
namespace Go.Proofs.Ytjooceaclfdjjaa
open Go.RowKit

theorem acts_of {H : Type} {enc : TypeId × Value → H} {w : World} {a : Option Addr} {len cap : Nat} {d : DataW H} {p : List MemPlace}
    (h : DataW.Trod enc Try.prog w 0 (fun _ => true) true 45 (.slice a len cap) d p) : ∃ L : List Ay, RR w ac 4 a len cap L := by
  obtain ⟨L, hL, _⟩ := row_of (c := ac) (s := 4) (fun _ => True) Try.underlying45 Try.tyA (fun m cs y hl hf => by
    obtain ⟨xs, n', _, _, _, hxl, hg⟩ := DataW.trod_struct Try.underlying27 hf
    match cs, hl, xs, hxl with
    | [u0, u1, u2, u3], _, [y0, y1, y2, y3], _ =>
      have g0 : DataW.trod enc Try.prog w 0 (fun _ => true) true n' 4 (([u0, u1, u2, u3].drop 0).take (Try.prog.cellsOf 4)) = some y0 := hg 0 _ rfl
      have g1 : DataW.trod enc Try.prog w 0 (fun _ => true) true n' 5 (([u0, u1, u2, u3].drop 1).take (Try.prog.cellsOf 5)) = some y1 := hg 1 _ rfl
      have g2 : DataW.trod enc Try.prog w 0 (fun _ => true) true n' 3 (([u0, u1, u2, u3].drop 2).take (Try.prog.cellsOf 3)) = some y2 := hg 2 _ rfl
      have g3 : DataW.trod enc Try.prog w 0 (fun _ => true) true n' 3 (([u0, u1, u2, u3].drop 3).take (Try.prog.cellsOf 3)) = some y3 := hg 3 _ rfl
      rw [Try.tyb] at g0
      rw [Try.tyu] at g1
      rw [Try.tyi] at g2 g3
      obtain ⟨n0, e0, _⟩ := DataW.trod_bool (x := y0) Try.underlying4 g0
      obtain ⟨n1, e1, _, z1⟩ := DataW.trod_int (x := y1) Try.underlying5 g1
      obtain ⟨n2, e2, _, z2⟩ := DataW.trod_int (x := y2) Try.underlying3 g2
      obtain ⟨n3, e3, _, z3⟩ := DataW.trod_int (x := y3) Try.underlying3 g3
      obtain ⟨k, rfl⟩ := ty_u8 z1
      simp at e0 e1 e2 e3
      subst e0 e1 e2 e3
      exact ⟨⟨n0, k, n2, n3⟩, trivial, rfl⟩) h
  exact ⟨L, hL⟩
end Go.Proofs.Ytjooceaclfdjjaa
