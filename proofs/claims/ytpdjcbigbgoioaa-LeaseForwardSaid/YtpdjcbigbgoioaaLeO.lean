/-
  Arguments of layer 11's laws that came in: a lease, an act. No condition.
-/
import Derived.Test.YtpdjcbigbgoioaaLeA
import Derived.ProofKit
import Derived.OpenShut
import Derived.Deep.Slices
import Derived.Deep.Fields
import Derived.ChangeArms
set_option linter.unusedVariables false
set_option linter.unusedSimpArgs false
set_option linter.constructorNameAsVariable false
namespace Go.Proofs.Ytpdjcbigbgoioaa
open Go.RowKit Go.ChangeShapes Go.WideShapes Go.Deep

theorem le_i64 {k : Int} (h : (Lit.int .i64 k).wf = true) : -9223372036854775808 ≤ k ∧ k ≤ 9223372036854775807 := by
  simp [Lit.wf, IntKind.min, IntKind.max, IntKind.bits, IntKind.signed] at h
  omega
theorem le_u8 {k : Int} (h : (Lit.int .u8 k).wf = true) : 0 ≤ k ∧ k ≤ 255 := by
  simp [Lit.wf, IntKind.min, IntKind.max, IntKind.bits, IntKind.signed] at h
  omega
theorem Try.lc8 : Try.prog.cellsOf 5 = 1 := by kernel_rfl
theorem Try.lci : Try.prog.cellsOf 3 = 1 := by kernel_rfl
theorem Try.lcb : Try.prog.cellsOf 4 = 1 := by kernel_rfl
theorem Try.lcL : Try.prog.cellsOf 23 = 3 := by kernel_rfl
theorem Try.lcA : Try.prog.cellsOf 25 = 3 := by kernel_rfl

set_option maxRecDepth 100000 in
theorem lease_of {H : Type} {enc : TypeId × Value → H} {w : World} {r : Reach} {b0 : Nat} {v : Value} {d : DataW H} {p : List MemPlace}
    (hv : Value.okWide Try.prog w r b0 23 v) (h : DataW.Trod enc Try.prog w 0 (fun _ => true) true 23 v d p) :
    ∃ (ep st to : Int), v = .agg #[.int .i64 ep, .int .i64 st, .int .u8 to] ∧ inL ⟨ep, st, to⟩ := by
  simp only [Value.okWide, Try.underlying23] at hv
  obtain ⟨cs, rfl, hsz, _⟩ := hv
  obtain ⟨l⟩ := cs
  obtain ⟨fuel, hf⟩ := h
  obtain ⟨xs, n', _, _, _, hxl, hg⟩ := DataW.trod_struct Try.underlying23 hf
  match l, hsz.trans Try.lcL, xs, hxl with
  | [u0, u1, u2], _, [y0, y1, y2], _ =>
    have g0 : DataW.trod enc Try.prog w 0 (fun _ => true) true n' 3 (([u0, u1, u2].drop 0).take (Try.prog.cellsOf 3)) = some y0 := hg 0 _ rfl
    have g1 : DataW.trod enc Try.prog w 0 (fun _ => true) true n' 3 (([u0, u1, u2].drop 1).take (Try.prog.cellsOf 3)) = some y1 := hg 1 _ rfl
    have g2 : DataW.trod enc Try.prog w 0 (fun _ => true) true n' 5 (([u0, u1, u2].drop 2).take (Try.prog.cellsOf 5)) = some y2 := hg 2 _ rfl
    rw [Try.lci] at g0 g1
    rw [Try.lc8] at g2
    obtain ⟨n0, e0, _, z0⟩ := DataW.trod_int (x := y0) Try.underlying3 g0
    obtain ⟨n1, e1, _, z1⟩ := DataW.trod_int (x := y1) Try.underlying3 g1
    obtain ⟨n2, e2, _, z2⟩ := DataW.trod_int (x := y2) Try.underlying5 g2
    simp at e0 e1 e2
    subst e0 e1 e2
    exact ⟨n0, n1, n2, rfl, le_i64 z0, le_i64 z1, le_u8 z2⟩
/-- A call of the law's: Give or Take, the epoch, the station. -/
structure Lac where
  g : Bool
  x : Int
  t : Int
def inLac (a : Lac) : Prop := (-9223372036854775808 ≤ a.x ∧ a.x ≤ 9223372036854775807) ∧ (0 ≤ a.t ∧ a.t ≤ 255)
def lac (a : Lac) : List Value := [.bool a.g, .int .i64 a.x, .int .u8 a.t]
set_option maxRecDepth 100000 in
theorem lac_trod {H : Type} {enc : TypeId × Value → H} {w : World} (m : Nat) (cs : List Value) (y : DataW H × List MemPlace) (hl : cs.length = 3) (hf : DataW.trod enc Try.prog w 0 (fun _ => true) true m 25 cs = some y) :
    ∃ x : Lac, inLac x ∧ cs = lac x := by
  obtain ⟨xs, n', _, _, _, hxl, hg⟩ := DataW.trod_struct Try.underlying25 hf
  match cs, hl, xs, hxl with
  | [u0, u1, u2], _, [y0, y1, y2], _ =>
    have g0 : DataW.trod enc Try.prog w 0 (fun _ => true) true n' 4 (([u0, u1, u2].drop 0).take (Try.prog.cellsOf 4)) = some y0 := hg 0 _ rfl
    have g1 : DataW.trod enc Try.prog w 0 (fun _ => true) true n' 3 (([u0, u1, u2].drop 1).take (Try.prog.cellsOf 3)) = some y1 := hg 1 _ rfl
    have g2 : DataW.trod enc Try.prog w 0 (fun _ => true) true n' 5 (([u0, u1, u2].drop 2).take (Try.prog.cellsOf 5)) = some y2 := hg 2 _ rfl
    rw [Try.lcb] at g0
    rw [Try.lci] at g1
    rw [Try.lc8] at g2
    obtain ⟨n0, e0, _⟩ := DataW.trod_bool (x := y0) Try.underlying4 g0
    obtain ⟨n1, e1, _, z1⟩ := DataW.trod_int (x := y1) Try.underlying3 g1
    obtain ⟨n2, e2, _, z2⟩ := DataW.trod_int (x := y2) Try.underlying5 g2
    simp at e0 e1 e2
    subst e0 e1 e2
    exact ⟨⟨n0, n1, n2⟩, ⟨le_i64 z1, le_u8 z2⟩, rfl⟩
theorem lact_of {H : Type} {enc : TypeId × Value → H} {w : World} {r : Reach} {b0 : Nat} {v : Value} {d : DataW H} {p : List MemPlace}
    (hv : Value.okWide Try.prog w r b0 25 v) (h : DataW.Trod enc Try.prog w 0 (fun _ => true) true 25 v d p) :
    ∃ a : Lac, v = .agg #[.bool a.g, .int .i64 a.x, .int .u8 a.t] ∧ inLac a := by
  simp only [Value.okWide, Try.underlying25] at hv
  obtain ⟨cs, rfl, hsz, _⟩ := hv
  obtain ⟨l⟩ := cs
  obtain ⟨fuel, hf⟩ := h
  obtain ⟨x, hx, hc⟩ := lac_trod fuel l _ (hsz.trans Try.lcA) hf
  exact ⟨x, by rw [hc]; rfl, hx⟩
end Go.Proofs.Ytpdjcbigbgoioaa
