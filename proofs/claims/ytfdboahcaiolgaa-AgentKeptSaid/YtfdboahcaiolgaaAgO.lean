/-
  Arguments of layer 19's laws that came in: a side, a ballot, ballots, bytes, words. No condition.
-/
import Derived.Test.YtfdboahcaiolgaaAgA
import Derived.Test.YtfdboahcaiolgaaOpn
set_option linter.unusedVariables false
set_option linter.unusedSimpArgs false
set_option linter.constructorNameAsVariable false
namespace Go.Proofs.Ytfdboahcaiolgaa
open Go.RowKit Go.ChangeShapes Go.WideShapes Go.Deep

theorem Try.hc8 : Try.prog.cellsOf 5 = 1 := by kernel_rfl
theorem Try.hci : Try.prog.cellsOf 3 = 1 := by kernel_rfl
theorem Try.hcb : Try.prog.cellsOf 4 = 1 := by kernel_rfl
theorem Try.hcs : Try.prog.cellsOf 9 = 1 := by kernel_rfl
theorem Try.hcL : Try.prog.cellsOf 38 = 3 := by kernel_rfl
theorem Try.hcS : Try.prog.cellsOf 40 = 6 := by kernel_rfl
theorem Try.hcB : Try.prog.cellsOf 42 = 2 := by kernel_rfl
theorem bnd_u8 {n : Int} (h : (Lit.int .u8 n).wf = true) : 0 ≤ n ∧ n ≤ 255 := by
  have e1 : IntKind.u8.min = 0 := by decide
  have e2 : IntKind.u8.max = 255 := by decide
  have h : (decide (IntKind.u8.min ≤ n) && decide (n ≤ IntKind.u8.max)) = true := h
  rw [e1, e2] at h
  simpa using h
theorem bnd_u16 {n : Int} (h : (Lit.int .u16 n).wf = true) : 0 ≤ n ∧ n ≤ 65535 := by
  have e1 : IntKind.u16.min = 0 := by decide
  have e2 : IntKind.u16.max = 65535 := by decide
  have h : (decide (IntKind.u16.min ≤ n) && decide (n ≤ IntKind.u16.max)) = true := h
  rw [e1, e2] at h
  simpa using h
theorem nat_of {n : Int} (h : 0 ≤ n) : ∃ t : Nat, n = (t : Int) := ⟨n.toNat, by omega⟩
theorem word_of {n : Int} (h : (Lit.int .u16 n).wf = true) : ∃ t : Nat, n = (t : Int) ∧ t < 65536 := by
  have b := bnd_u16 h
  obtain ⟨t, rfl⟩ := nat_of b.1
  exact ⟨t, rfl, by omega⟩
theorem byte_of {n : Int} (h : (Lit.int .u8 n).wf = true) : ∃ t : Nat, n = (t : Int) ∧ t < 256 := by
  have b := bnd_u8 h
  obtain ⟨t, rfl⟩ := nat_of b.1
  exact ⟨t, rfl, by omega⟩
set_option maxRecDepth 100000 in
theorem side_of {H : Type} {enc : TypeId × Value → H} {w : World} {r : Reach} {b0 : Nat} {v : Value} {d : DataW H} {p : List MemPlace}
    (hv : Value.okWide Try.prog w r b0 40 v) (h : DataW.Trod enc Try.prog w 0 (fun _ => true) true 40 v d p) :
    ∃ s : Sd, v = .agg (siA s) := by
  simp only [Value.okWide, Try.underlying40] at hv
  obtain ⟨cs, rfl, hsz, _⟩ := hv
  obtain ⟨l⟩ := cs
  obtain ⟨fuel, hf⟩ := h
  obtain ⟨xs, n', _, _, _, hxl, hg⟩ := DataW.trod_struct Try.underlying40 hf
  match l, hsz.trans Try.hcS, xs, hxl with
  | [u0, u1, u2, u3, u4, u5], _, [y0, y1, y2, y3], _ =>
    have g0 : DataW.trod enc Try.prog w 0 (fun _ => true) true n' 5 (([u0, u1, u2, u3, u4, u5].drop 0).take (Try.prog.cellsOf 5)) = some y0 := hg 0 _ rfl
    have g1 : DataW.trod enc Try.prog w 0 (fun _ => true) true n' 38 (([u0, u1, u2, u3, u4, u5].drop 1).take (Try.prog.cellsOf 38)) = some y1 := hg 1 _ rfl
    have g2 : DataW.trod enc Try.prog w 0 (fun _ => true) true n' 9 (([u0, u1, u2, u3, u4, u5].drop 4).take (Try.prog.cellsOf 9)) = some y2 := hg 2 _ rfl
    have g3 : DataW.trod enc Try.prog w 0 (fun _ => true) true n' 4 (([u0, u1, u2, u3, u4, u5].drop 5).take (Try.prog.cellsOf 4)) = some y3 := hg 3 _ rfl
    rw [Try.hc8] at g0
    rw [Try.hcL] at g1
    rw [Try.hcs] at g2
    rw [Try.hcb] at g3
    obtain ⟨n0, e0, _, _⟩ := DataW.trod_int (x := y0) Try.underlying5 g0
    obtain ⟨n2, e2, _⟩ := DataW.trod_string (x := y2) Try.underlying9 g2
    obtain ⟨n3, e3, _⟩ := DataW.trod_bool (x := y3) Try.underlying4 g3
    obtain ⟨zs, m', _, _, _, hzl, hq⟩ := DataW.trod_struct Try.underlying38 g1
    match zs, hzl with
    | [z0, z1, z2], _ =>
      have q0 : DataW.trod enc Try.prog w 0 (fun _ => true) true m' 3 (([u1, u2, u3].drop 0).take (Try.prog.cellsOf 3)) = some z0 := hq 0 _ rfl
      have q1 : DataW.trod enc Try.prog w 0 (fun _ => true) true m' 3 (([u1, u2, u3].drop 1).take (Try.prog.cellsOf 3)) = some z1 := hq 1 _ rfl
      have q2 : DataW.trod enc Try.prog w 0 (fun _ => true) true m' 5 (([u1, u2, u3].drop 2).take (Try.prog.cellsOf 5)) = some z2 := hq 2 _ rfl
      rw [Try.hci] at q0 q1
      rw [Try.hc8] at q2
      obtain ⟨k0, f0, _, _⟩ := DataW.trod_int (x := z0) Try.underlying3 q0
      obtain ⟨k1, f1, _, _⟩ := DataW.trod_int (x := z1) Try.underlying3 q1
      obtain ⟨k2, f2, _, _⟩ := DataW.trod_int (x := z2) Try.underlying5 q2
      simp at e0 e2 e3 f0 f1 f2
      subst e0 e2 e3 f0 f1 f2
      exact ⟨⟨n0, ⟨k0, k1, k2⟩, n2, n3⟩, rfl⟩
set_option maxRecDepth 100000 in
theorem ballot_trod {H : Type} {enc : TypeId × Value → H} {w : World} (m : Nat) (cs : List Value) (y : DataW H × List MemPlace) (hl : cs.length = 2) (hf : DataW.trod enc Try.prog w 0 (fun _ => true) true m 42 cs = some y) :
    ∃ b : Bl, ((Lit.int .i64 b.tx).wf = true ∧ (Lit.int .i64 b.vt).wf = true) ∧ cs = dcl b := by
  obtain ⟨xs, n', _, _, _, hxl, hg⟩ := DataW.trod_struct Try.underlying42 hf
  match cs, hl, xs, hxl with
  | [u0, u1], _, [y0, y1], _ =>
    have g0 : DataW.trod enc Try.prog w 0 (fun _ => true) true n' 3 (([u0, u1].drop 0).take (Try.prog.cellsOf 3)) = some y0 := hg 0 _ rfl
    have g1 : DataW.trod enc Try.prog w 0 (fun _ => true) true n' 3 (([u0, u1].drop 1).take (Try.prog.cellsOf 3)) = some y1 := hg 1 _ rfl
    rw [Try.hci] at g0 g1
    obtain ⟨n0, e0, _, z0⟩ := DataW.trod_int (x := y0) Try.underlying3 g0
    obtain ⟨n1, e1, _, z1⟩ := DataW.trod_int (x := y1) Try.underlying3 g1
    simp at e0 e1
    subst e0 e1
    exact ⟨⟨n0, n1⟩, ⟨z0, z1⟩, rfl⟩
theorem ballots_of {H : Type} {enc : TypeId × Value → H} {w : World} {a : Option Addr} {len cap : Nat} {d : DataW H} {p : List MemPlace}
    (h : DataW.Trod enc Try.prog w 0 (fun _ => true) true 22 (.slice a len cap) d p) : ∃ L : List Bl, RR w dcl 2 a len cap L ∧ ∀ b ∈ L, (Lit.int .i64 b.tx).wf = true ∧ (Lit.int .i64 b.vt).wf = true :=
  row_of (c := dcl) (s := 2) (fun b => (Lit.int .i64 b.tx).wf = true ∧ (Lit.int .i64 b.vt).wf = true) Try.underlying22 Try.hcB (fun m cs y hl hf => ballot_trod m cs y hl hf) h
theorem ballot_of {H : Type} {enc : TypeId × Value → H} {w : World} {r : Reach} {b0 : Nat} {v : Value} {d : DataW H} {p : List MemPlace}
    (hv : Value.okWide Try.prog w r b0 42 v) (h : DataW.Trod enc Try.prog w 0 (fun _ => true) true 42 v d p) : ∃ b : Bl, v = .agg (btA b) := by
  simp only [Value.okWide, Try.underlying42] at hv
  obtain ⟨cs, rfl, hsz, _⟩ := hv
  obtain ⟨l⟩ := cs
  obtain ⟨fuel, hf⟩ := h
  obtain ⟨b, _, e⟩ := ballot_trod _ _ _ (hsz.trans Try.hcB) hf
  refine ⟨b, ?_⟩
  have e : l = dcl b := e
  rw [e]
  rfl
end Go.Proofs.Ytfdboahcaiolgaa
