/-
  Arguments of layer 10's laws that came in: calls, a call, an array of two or three bytes. No condition.
-/
import Derived.Test.YtealcccjnmfkcaaSiA
import Derived.Test.YtealcccjnmfkcaaSiP
import Derived.Test.YtealcccjnmfkcaaDlP
set_option linter.unusedVariables false
set_option linter.unusedSimpArgs false
set_option linter.constructorNameAsVariable false
namespace Go.Proofs.Ytealcccjnmfkcaa
open Go.RowKit Go.ChangeShapes Go.WideShapes Go.Deep

theorem Try.cn : Try.prog.cellsOf 3 = 1 := by kernel_rfl
theorem Try.cR : Try.prog.cellsOf 36 = 4 := by kernel_rfl

set_option maxRecDepth 100000 in
theorem rec_trod {H : Type} {enc : TypeId × Value → H} {w : World} (m : Nat) (cs : List Value) (y : DataW H × List MemPlace) (hl : cs.length = 4) (hf : DataW.trod enc Try.prog w 0 (fun _ => true) true m 36 cs = some y) :
    ∃ x : Rc, RcOk x ∧ cs = kc x := by
  obtain ⟨xs, n', _, _, _, hxl, hg⟩ := DataW.trod_struct Try.underlying36 hf
  match cs, hl, xs, hxl with
  | [u0, u1, u2, u3], _, [y0, y1, y2, y3], _ =>
    have g0 : DataW.trod enc Try.prog w 0 (fun _ => true) true n' 3 (([u0, u1, u2, u3].drop 0).take (Try.prog.cellsOf 3)) = some y0 := hg 0 _ rfl
    have g1 : DataW.trod enc Try.prog w 0 (fun _ => true) true n' 3 (([u0, u1, u2, u3].drop 1).take (Try.prog.cellsOf 3)) = some y1 := hg 1 _ rfl
    have g2 : DataW.trod enc Try.prog w 0 (fun _ => true) true n' 5 (([u0, u1, u2, u3].drop 2).take (Try.prog.cellsOf 5)) = some y2 := hg 2 _ rfl
    have g3 : DataW.trod enc Try.prog w 0 (fun _ => true) true n' 2 (([u0, u1, u2, u3].drop 3).take (Try.prog.cellsOf 2)) = some y3 := hg 3 _ rfl
    rw [Try.cn] at g0 g1
    rw [Try.c8] at g2
    rw [Try.ci] at g3
    obtain ⟨n0, e0, _, z0⟩ := DataW.trod_int (x := y0) Try.underlying3 g0
    obtain ⟨n1, e1, _, z1⟩ := DataW.trod_int (x := y1) Try.underlying3 g1
    obtain ⟨n2, e2, _, z2⟩ := DataW.trod_int (x := y2) Try.underlying5 g2
    obtain ⟨n3, e3, _, z3⟩ := DataW.trod_int (x := y3) Try.underlying2 g3
    simp at e0 e1 e2 e3
    subst e0 e1 e2 e3
    exact ⟨⟨n0, n1, n2, n3⟩, ⟨bnd_i64 z0, bnd_i64 z1, bnd_u8 z2, bnd_i64 z3⟩, rfl⟩
theorem recs_of {H : Type} {enc : TypeId × Value → H} {w : World} {a : Option Addr} {len cap : Nat} {d : DataW H} {p : List MemPlace}
    (h : DataW.Trod enc Try.prog w 0 (fun _ => true) true 22 (.slice a len cap) d p) :
    ∃ L : List Rc, KR w a len cap L ∧ ∀ x ∈ L, RcOk x :=
  row_of (c := kc) (s := 4) _ Try.underlying22 Try.cR rec_trod h
theorem rec_of {H : Type} {enc : TypeId × Value → H} {w : World} {r : Reach} {b0 : Nat} {v : Value} {d : DataW H} {p : List MemPlace}
    (hv : Value.okWide Try.prog w r b0 36 v) (h : DataW.Trod enc Try.prog w 0 (fun _ => true) true 36 v d p) :
    ∃ x : Rc, v = kv x ∧ RcOk x := by
  simp only [Value.okWide, Try.underlying36] at hv
  obtain ⟨cs, rfl, hsz, _⟩ := hv
  obtain ⟨l⟩ := cs
  obtain ⟨fuel, hf⟩ := h
  obtain ⟨x, hx, hc⟩ := rec_trod fuel l _ (hsz.trans Try.cR) hf
  exact ⟨x, by rw [hc]; rfl, hx⟩
set_option maxRecDepth 100000 in
theorem two_u8 {H : Type} {enc : TypeId × Value → H} {w : World} {r : Reach} {b0 : Nat} {v : Value} {d : DataW H} {p : List MemPlace}
    (hv : Value.okWide Try.prog w r b0 56 v) (h : DataW.Trod enc Try.prog w 0 (fun _ => true) true 56 v d p) :
    ∃ k0 k1 : Int, v = .agg #[.int .u8 k0, .int .u8 k1] ∧ (0 ≤ k0 ∧ k0 ≤ 255) ∧ (0 ≤ k1 ∧ k1 ≤ 255) := by
  have hc : Try.prog.cellsOf 56 = 2 := by kernel_rfl
  simp only [Value.okWide, Try.underlying56] at hv
  obtain ⟨cs, rfl, hsz, _⟩ := hv
  obtain ⟨l⟩ := cs
  match l, hsz.trans hc with
  | [c0, c1], _ =>
    obtain ⟨fuel, hf⟩ := h
    obtain ⟨xs, m, _, _, _, hlen, hg⟩ := DataW.trod_array Try.underlying56 hf
    match xs, hlen with
    | [y0, y1], _ =>
      have g0 := hg 0 (by omega)
      have g1 := hg 1 (by omega)
      rw [Try.c8] at g0 g1
      have g0' : DataW.trod enc Try.prog w 0 (fun _ => true) true m 5 [c0] = some y0 := by simpa [Value.cells] using g0
      have g1' : DataW.trod enc Try.prog w 0 (fun _ => true) true m 5 [c1] = some y1 := by simpa [Value.cells] using g1
      obtain ⟨s0, e0, _, z0⟩ := DataW.trod_int (x := y0) Try.underlying5 g0'
      obtain ⟨s1, e1, _, z1⟩ := DataW.trod_int (x := y1) Try.underlying5 g1'
      simp at e0 e1
      subst e0 e1
      exact ⟨s0, s1, rfl, bnd_u8 z0, bnd_u8 z1⟩
set_option maxRecDepth 100000 in
theorem three_u8 {H : Type} {enc : TypeId × Value → H} {w : World} {r : Reach} {b0 : Nat} {v : Value} {d : DataW H} {p : List MemPlace}
    (hv : Value.okWide Try.prog w r b0 66 v) (h : DataW.Trod enc Try.prog w 0 (fun _ => true) true 66 v d p) :
    ∃ k0 k1 k2 : Int, v = .agg #[.int .u8 k0, .int .u8 k1, .int .u8 k2] ∧ (0 ≤ k0 ∧ k0 ≤ 255) ∧ (0 ≤ k1 ∧ k1 ≤ 255) ∧ (0 ≤ k2 ∧ k2 ≤ 255) := by
  have hc : Try.prog.cellsOf 66 = 3 := by kernel_rfl
  simp only [Value.okWide, Try.underlying66] at hv
  obtain ⟨cs, rfl, hsz, _⟩ := hv
  obtain ⟨l⟩ := cs
  match l, hsz.trans hc with
  | [c0, c1, c2], _ =>
    obtain ⟨fuel, hf⟩ := h
    obtain ⟨xs, m, _, _, _, hlen, hg⟩ := DataW.trod_array Try.underlying66 hf
    match xs, hlen with
    | [y0, y1, y2], _ =>
      have g0 := hg 0 (by omega)
      have g1 := hg 1 (by omega)
      have g2 := hg 2 (by omega)
      rw [Try.c8] at g0 g1 g2
      have g0' : DataW.trod enc Try.prog w 0 (fun _ => true) true m 5 [c0] = some y0 := by simpa [Value.cells] using g0
      have g1' : DataW.trod enc Try.prog w 0 (fun _ => true) true m 5 [c1] = some y1 := by simpa [Value.cells] using g1
      have g2' : DataW.trod enc Try.prog w 0 (fun _ => true) true m 5 [c2] = some y2 := by simpa [Value.cells] using g2
      obtain ⟨s0, e0, _, z0⟩ := DataW.trod_int (x := y0) Try.underlying5 g0'
      obtain ⟨s1, e1, _, z1⟩ := DataW.trod_int (x := y1) Try.underlying5 g1'
      obtain ⟨s2, e2, _, z2⟩ := DataW.trod_int (x := y2) Try.underlying5 g2'
      simp at e0 e1 e2
      subst e0 e1 e2
      exact ⟨s0, s1, s2, rfl, bnd_u8 z0, bnd_u8 z1, bnd_u8 z2⟩
end Go.Proofs.Ytealcccjnmfkcaa
