/-
  Arguments of layer 15's laws that came in: records, a record. No condition.
-/
import Derived.Test.YtjfmahceolhfnaaChQ
import Derived.Test.YtjfmahceolhfnaaOpn
set_option linter.unusedVariables false
set_option linter.unusedSimpArgs false
set_option linter.constructorNameAsVariable false
namespace Go.Proofs.Ytjfmahceolhfnaa
open Go.RowKit Go.ChangeShapes Go.WideShapes Go.Deep

theorem Try.cn : Try.prog.cellsOf 3 = 1 := by kernel_rfl
theorem Try.cl : Try.prog.cellsOf 2 = 1 := by kernel_rfl
theorem Try.c8 : Try.prog.cellsOf 5 = 1 := by kernel_rfl
theorem Try.cR : Try.prog.cellsOf 34 = 8 := by kernel_rfl
theorem bnd_u8 {n : Int} (h : (Lit.int .u8 n).wf = true) : 0 ≤ n ∧ n ≤ 255 := by
  have e1 : IntKind.u8.min = 0 := by decide
  have e2 : IntKind.u8.max = 255 := by decide
  have h : (decide (IntKind.u8.min ≤ n) && decide (n ≤ IntKind.u8.max)) = true := h
  rw [e1, e2] at h
  simpa using h
theorem bnd_u16 {n : Int} (h : (Lit.int .u16 n).wf = true) : 0 ≤ n ∧ n ≤ 65535 := by
  have e1 : IntKind.u16.min = 0 := by decide
  have e2 : IntKind.u16.max = 65535 := by decide
  have h : (decide (IntKind.u16.min ≤ n) && decide (n ≤ IntKind.u16.max)) = true := h
  rw [e1, e2] at h
  simpa using h
theorem nat_of {n : Int} (h : 0 ≤ n) : ∃ t : Nat, n = (t : Int) := ⟨n.toNat, by omega⟩
def RdOk (r : Rd) : Prop := r.who < 256 ∧ (Lit.int .i64 r.tx).wf = true
set_option maxRecDepth 100000 in
theorem rec_trod {H : Type} {enc : TypeId × Value → H} {w : World} (m : Nat) (cs : List Value) (y : DataW H × List MemPlace) (hl : cs.length = 8) (hf : DataW.trod enc Try.prog w 0 (fun _ => true) true m 34 cs = some y) :
    ∃ x : Rd, RdOk x ∧ cs = kcl x := by
  obtain ⟨xs, n', _, _, _, hxl, hg⟩ := DataW.trod_struct Try.underlying34 hf
  match cs, hl, xs, hxl with
  | [u0, u1, u2, u3, u4, u5, u6, u7], _, [y0, y1, y2, y3, y4, y5, y6, y7], _ =>
    have g0 : DataW.trod enc Try.prog w 0 (fun _ => true) true n' 3 (([u0, u1, u2, u3, u4, u5, u6, u7].drop 0).take (Try.prog.cellsOf 3)) = some y0 := hg 0 _ rfl
    have g1 : DataW.trod enc Try.prog w 0 (fun _ => true) true n' 3 (([u0, u1, u2, u3, u4, u5, u6, u7].drop 1).take (Try.prog.cellsOf 3)) = some y1 := hg 1 _ rfl
    have g2 : DataW.trod enc Try.prog w 0 (fun _ => true) true n' 5 (([u0, u1, u2, u3, u4, u5, u6, u7].drop 2).take (Try.prog.cellsOf 5)) = some y2 := hg 2 _ rfl
    have g3 : DataW.trod enc Try.prog w 0 (fun _ => true) true n' 3 (([u0, u1, u2, u3, u4, u5, u6, u7].drop 3).take (Try.prog.cellsOf 3)) = some y3 := hg 3 _ rfl
    have g4 : DataW.trod enc Try.prog w 0 (fun _ => true) true n' 3 (([u0, u1, u2, u3, u4, u5, u6, u7].drop 4).take (Try.prog.cellsOf 3)) = some y4 := hg 4 _ rfl
    have g5 : DataW.trod enc Try.prog w 0 (fun _ => true) true n' 2 (([u0, u1, u2, u3, u4, u5, u6, u7].drop 5).take (Try.prog.cellsOf 2)) = some y5 := hg 5 _ rfl
    have g6 : DataW.trod enc Try.prog w 0 (fun _ => true) true n' 2 (([u0, u1, u2, u3, u4, u5, u6, u7].drop 6).take (Try.prog.cellsOf 2)) = some y6 := hg 6 _ rfl
    have g7 : DataW.trod enc Try.prog w 0 (fun _ => true) true n' 3 (([u0, u1, u2, u3, u4, u5, u6, u7].drop 7).take (Try.prog.cellsOf 3)) = some y7 := hg 7 _ rfl
    rw [Try.cn] at g0 g1 g3 g4 g7
    rw [Try.c8] at g2
    rw [Try.cl] at g5 g6
    obtain ⟨n0, e0, _, z0⟩ := DataW.trod_int (x := y0) Try.underlying3 g0
    obtain ⟨n1, e1, _, z1⟩ := DataW.trod_int (x := y1) Try.underlying3 g1
    obtain ⟨n2, e2, _, z2⟩ := DataW.trod_int (x := y2) Try.underlying5 g2
    obtain ⟨n3, e3, _, z3⟩ := DataW.trod_int (x := y3) Try.underlying3 g3
    obtain ⟨n4, e4, _, z4⟩ := DataW.trod_int (x := y4) Try.underlying3 g4
    obtain ⟨n5, e5, _, z5⟩ := DataW.trod_int (x := y5) Try.underlying2 g5
    obtain ⟨n6, e6, _, z6⟩ := DataW.trod_int (x := y6) Try.underlying2 g6
    obtain ⟨n7, e7, _, z7⟩ := DataW.trod_int (x := y7) Try.underlying3 g7
    simp at e0 e1 e2 e3 e4 e5 e6 e7
    subst e0 e1 e2 e3 e4 e5 e6 e7
    have b2 := bnd_u8 z2
    obtain ⟨q, rfl⟩ := nat_of b2.1
    exact ⟨⟨n0, n1, q, n3, n4, n5, n6, n7⟩, ⟨by simp only; omega, z1⟩, rfl⟩
theorem recs_of {H : Type} {enc : TypeId × Value → H} {w : World} {a : Option Addr} {len cap : Nat} {d : DataW H} {p : List MemPlace}
    (h : DataW.Trod enc Try.prog w 0 (fun _ => true) true 22 (.slice a len cap) d p) :
    ∃ L : List Rd, RR w kcl 8 a len cap L ∧ OkL L :=
  row_of (c := kcl) (s := 8) _ Try.underlying22 Try.cR rec_trod h
theorem rec_of {H : Type} {enc : TypeId × Value → H} {w : World} {r : Reach} {b0 : Nat} {v : Value} {d : DataW H} {p : List MemPlace}
    (hv : Value.okWide Try.prog w r b0 34 v) (h : DataW.Trod enc Try.prog w 0 (fun _ => true) true 34 v d p) :
    ∃ x : Rd, v = .agg (rA x) ∧ RdOk x := by
  simp only [Value.okWide, Try.underlying34] at hv
  obtain ⟨cs, rfl, hsz, _⟩ := hv
  obtain ⟨l⟩ := cs
  obtain ⟨fuel, hf⟩ := h
  obtain ⟨x, hx, hc⟩ := rec_trod fuel l _ (hsz.trans Try.cR) hf
  exact ⟨x, by rw [hc]; rfl, hx⟩
theorem byte_of {n : Int} (h : (Lit.int .u8 n).wf = true) : ∃ t : Nat, n = (t : Int) ∧ t < 256 := by
  have b := bnd_u8 h
  obtain ⟨t, rfl⟩ := nat_of b.1
  exact ⟨t, rfl, by omega⟩
theorem word_of {n : Int} (h : (Lit.int .u16 n).wf = true) : ∃ t : Nat, n = (t : Int) ∧ t < 65536 := by
  have b := bnd_u16 h
  obtain ⟨t, rfl⟩ := nat_of b.1
  exact ⟨t, rfl, by omega⟩
end Go.Proofs.Ytjfmahceolhfnaa
