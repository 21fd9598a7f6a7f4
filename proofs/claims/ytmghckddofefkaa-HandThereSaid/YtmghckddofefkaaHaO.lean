/-
  Arguments of layer 12's laws that came in: a side, a message. No condition.
-/
import Derived.Test.YtmghckddofefkaaHaA
import Derived.ProofKit
import Derived.OpenShut
import Derived.Deep.Slices
import Derived.Deep.Fields
import Derived.ChangeArms
set_option linter.unusedVariables false
set_option linter.unusedSimpArgs false
set_option linter.constructorNameAsVariable false
namespace Go.Proofs.Ytmghckddofefkaa
open Go.RowKit Go.ChangeShapes Go.WideShapes Go.Deep

theorem Try.hc8 : Try.prog.cellsOf 5 = 1 := by kernel_rfl
theorem Try.hci : Try.prog.cellsOf 3 = 1 := by kernel_rfl
theorem Try.hcb : Try.prog.cellsOf 4 = 1 := by kernel_rfl
theorem Try.hcs : Try.prog.cellsOf 9 = 1 := by kernel_rfl
theorem Try.hcL : Try.prog.cellsOf 23 = 3 := by kernel_rfl
theorem Try.hcS : Try.prog.cellsOf 25 = 6 := by kernel_rfl
theorem Try.hcM : Try.prog.cellsOf 27 = 5 := by kernel_rfl

set_option maxRecDepth 100000 in
theorem side_of {H : Type} {enc : TypeId × Value → H} {w : World} {r : Reach} {b0 : Nat} {v : Value} {d : DataW H} {p : List MemPlace}
    (hv : Value.okWide Try.prog w r b0 25 v) (h : DataW.Trod enc Try.prog w 0 (fun _ => true) true 25 v d p) :
    ∃ (me ep st to : Int) (cg : ByteArray) (kp : Bool), v = .agg #[.int .u8 me, .int .i64 ep, .int .i64 st, .int .u8 to, .string cg, .bool kp] := by
  simp only [Value.okWide, Try.underlying25] at hv
  obtain ⟨cs, rfl, hsz, _⟩ := hv
  obtain ⟨l⟩ := cs
  obtain ⟨fuel, hf⟩ := h
  obtain ⟨xs, n', _, _, _, hxl, hg⟩ := DataW.trod_struct Try.underlying25 hf
  match l, hsz.trans Try.hcS, xs, hxl with
  | [u0, u1, u2, u3, u4, u5], _, [y0, y1, y2, y3], _ =>
    have g0 : DataW.trod enc Try.prog w 0 (fun _ => true) true n' 5 (([u0, u1, u2, u3, u4, u5].drop 0).take (Try.prog.cellsOf 5)) = some y0 := hg 0 _ rfl
    have g1 : DataW.trod enc Try.prog w 0 (fun _ => true) true n' 23 (([u0, u1, u2, u3, u4, u5].drop 1).take (Try.prog.cellsOf 23)) = some y1 := hg 1 _ rfl
    have g2 : DataW.trod enc Try.prog w 0 (fun _ => true) true n' 9 (([u0, u1, u2, u3, u4, u5].drop 4).take (Try.prog.cellsOf 9)) = some y2 := hg 2 _ rfl
    have g3 : DataW.trod enc Try.prog w 0 (fun _ => true) true n' 4 (([u0, u1, u2, u3, u4, u5].drop 5).take (Try.prog.cellsOf 4)) = some y3 := hg 3 _ rfl
    rw [Try.hc8] at g0
    rw [Try.hcL] at g1
    rw [Try.hcs] at g2
    rw [Try.hcb] at g3
    obtain ⟨n0, e0, _, _⟩ := DataW.trod_int (x := y0) Try.underlying5 g0
    obtain ⟨n2, e2, _⟩ := DataW.trod_string (x := y2) Try.underlying9 g2
    obtain ⟨n3, e3, _⟩ := DataW.trod_bool (x := y3) Try.underlying4 g3
    obtain ⟨zs, m', _, _, _, hzl, hq⟩ := DataW.trod_struct Try.underlying23 g1
    match zs, hzl with
    | [z0, z1, z2], _ =>
      have q0 : DataW.trod enc Try.prog w 0 (fun _ => true) true m' 3 (([u1, u2, u3].drop 0).take (Try.prog.cellsOf 3)) = some z0 := hq 0 _ rfl
      have q1 : DataW.trod enc Try.prog w 0 (fun _ => true) true m' 3 (([u1, u2, u3].drop 1).take (Try.prog.cellsOf 3)) = some z1 := hq 1 _ rfl
      have q2 : DataW.trod enc Try.prog w 0 (fun _ => true) true m' 5 (([u1, u2, u3].drop 2).take (Try.prog.cellsOf 5)) = some z2 := hq 2 _ rfl
      rw [Try.hci] at q0 q1
      rw [Try.hc8] at q2
      obtain ⟨k0, f0, _, _⟩ := DataW.trod_int (x := z0) Try.underlying3 q0
      obtain ⟨k1, f1, _, _⟩ := DataW.trod_int (x := z1) Try.underlying3 q1
      obtain ⟨k2, f2, _, _⟩ := DataW.trod_int (x := z2) Try.underlying5 q2
      simp at e0 e2 e3 f0 f1 f2
      subst e0 e2 e3 f0 f1 f2
      exact ⟨n0, k0, k1, k2, n2, n3, rfl⟩
set_option maxRecDepth 100000 in
theorem msg_of {H : Type} {enc : TypeId × Value → H} {w : World} {r : Reach} {b0 : Nat} {v : Value} {d : DataW H} {p : List MemPlace}
    (hv : Value.okWide Try.prog w r b0 27 v) (h : DataW.Trod enc Try.prog w 0 (fun _ => true) true 27 v d p) :
    ∃ (kd fr t e : Int) (mg : ByteArray), v = .agg #[.int .i64 kd, .int .u8 fr, .int .u8 t, .int .i64 e, .string mg] := by
  simp only [Value.okWide, Try.underlying27] at hv
  obtain ⟨cs, rfl, hsz, _⟩ := hv
  obtain ⟨l⟩ := cs
  obtain ⟨fuel, hf⟩ := h
  obtain ⟨xs, n', _, _, _, hxl, hg⟩ := DataW.trod_struct Try.underlying27 hf
  match l, hsz.trans Try.hcM, xs, hxl with
  | [u0, u1, u2, u3, u4], _, [y0, y1, y2, y3, y4], _ =>
    have g0 : DataW.trod enc Try.prog w 0 (fun _ => true) true n' 3 (([u0, u1, u2, u3, u4].drop 0).take (Try.prog.cellsOf 3)) = some y0 := hg 0 _ rfl
    have g1 : DataW.trod enc Try.prog w 0 (fun _ => true) true n' 5 (([u0, u1, u2, u3, u4].drop 1).take (Try.prog.cellsOf 5)) = some y1 := hg 1 _ rfl
    have g2 : DataW.trod enc Try.prog w 0 (fun _ => true) true n' 5 (([u0, u1, u2, u3, u4].drop 2).take (Try.prog.cellsOf 5)) = some y2 := hg 2 _ rfl
    have g3 : DataW.trod enc Try.prog w 0 (fun _ => true) true n' 3 (([u0, u1, u2, u3, u4].drop 3).take (Try.prog.cellsOf 3)) = some y3 := hg 3 _ rfl
    have g4 : DataW.trod enc Try.prog w 0 (fun _ => true) true n' 9 (([u0, u1, u2, u3, u4].drop 4).take (Try.prog.cellsOf 9)) = some y4 := hg 4 _ rfl
    rw [Try.hci] at g0 g3
    rw [Try.hc8] at g1 g2
    rw [Try.hcs] at g4
    obtain ⟨n0, e0, _, _⟩ := DataW.trod_int (x := y0) Try.underlying3 g0
    obtain ⟨n1, e1, _, _⟩ := DataW.trod_int (x := y1) Try.underlying5 g1
    obtain ⟨n2, e2, _, _⟩ := DataW.trod_int (x := y2) Try.underlying5 g2
    obtain ⟨n3, e3, _, _⟩ := DataW.trod_int (x := y3) Try.underlying3 g3
    obtain ⟨n4, e4, _⟩ := DataW.trod_string (x := y4) Try.underlying9 g4
    simp at e0 e1 e2 e3 e4
    subst e0 e1 e2 e3 e4
    exact ⟨n0, n1, n2, n3, n4, rfl⟩
end Go.Proofs.Ytmghckddofefkaa
