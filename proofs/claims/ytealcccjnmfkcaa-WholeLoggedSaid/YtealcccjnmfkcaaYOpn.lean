/-
  A slice argument that came in, opened, for elements that are written as a fixed number of cells. No condition.
-/
import Derived.Test.YtealcccjnmfkcaaRows
import Derived.Test.YtealcccjnmfkcaaYRow
import Derived.ProofKit
import Derived.OpenShut
import Derived.Deep.Slices
import Derived.Deep.Fields
import Derived.ChangeArms
import Derived.Test.YtealcccjnmfkcaaYDlA
import Derived.Test.YtealcccjnmfkcaaYSiA
import Derived.Test.YtealcccjnmfkcaaSiP
set_option linter.unusedVariables false
set_option linter.unusedSimpArgs false
namespace Go.Proofs.Ytealcccjnmfkcaa
open Go.RowKit Go.ChangeShapes Go.WideShapes Go.Deep

theorem exists_list {α : Type} (P : Nat → α → Prop) : ∀ n : Nat, (∀ i, i < n → ∃ v, P i v) → ∃ l : List α, l.length = n ∧ ∀ (j : Nat) (v : α), l[j]? = some v → P j v
  | 0, _ => ⟨[], rfl, fun j v hv => by simp at hv⟩
  | n + 1, h => by
    obtain ⟨l, h1, h2⟩ := exists_list P n (fun i hi => h i (by omega))
    obtain ⟨v, hv⟩ := h n (by omega)
    refine ⟨l ++ [v], by simp [h1], fun j u hu => ?_⟩
    by_cases hj : j < l.length
    · rw [List.getElem?_append_left hj] at hu
      exact h2 j u hu
    · rw [List.getElem?_append_right (by omega)] at hu
      obtain ⟨hlt, he⟩ := List.getElem?_eq_some_iff.1 hu
      simp at hlt he
      obtain rfl : j = n := by omega
      rw [← he]
      exact hv

/-- A slice whose elements are each written as s cells, opened. -/
theorem row_of {α : Type} {c : α → List Value} {s : Nat} [Nonempty (EncOk c s)] {H : Type} {enc : TypeId × Value → H} {w : World} {a : Option Addr} {len cap : Nat} {d : DataW H} {p : List MemPlace} {t e : TypeId} (q : α → Prop)
    (ht : Try.prog.underlying t = some (.slice e)) (hs : Try.prog.cellsOf e = s)
    (hone : ∀ (m : Nat) (cs : List Value) (y : DataW H × List MemPlace), cs.length = s → DataW.trod enc Try.prog w 0 (fun _ => true) true m e cs = some y → ∃ x, q x ∧ cs = c x)
    (h : DataW.Trod enc Try.prog w 0 (fun _ => true) true t (.slice a len cap) d p) :
    ∃ L : List α, RR0 w c s a len cap L ∧ ∀ x ∈ L, q x := by
  obtain ⟨fuel, hf⟩ := h
  rcases open_slice ht hf with ⟨hcs, _⟩ | ⟨x, l, c', m, n, D, Pl, hcs, hb, hl, hm, hmm, _, hi⟩
  · simp [Value.cells] at hcs
    obtain ⟨rfl, rfl, rfl⟩ := hcs
    exact ⟨[], RR0.nil _ _ _, by simp⟩
  · simp [Value.cells] at hcs
    obtain ⟨rfl, rfl, rfl⟩ := hcs
    simp only [if_true] at hmm
    subst hmm
    have key : ∀ i, i < len → ∃ v : α, q v ∧ ∀ (j : Nat) (u : Value), (c v)[j]? = some u → w.cell? ((x.add (i * s)).add j) = some u := by
      intro i hil
      obtain ⟨cs', hc, ht⟩ := hi i (by omega)
      rw [hs] at hc
      obtain ⟨_, hcl, hat⟩ := World.cells?_some hc
      obtain ⟨v, hq, rfl⟩ := hone _ _ _ hcl ht
      refine ⟨v, hq, fun j u hu => ?_⟩
      rw [hat j (by rw [← hcl]; exact (List.getElem?_eq_some_iff.1 hu).1)]
      exact hu
    obtain ⟨L, h1, h2⟩ := exists_list _ len key
    refine ⟨L, ?_, fun v hv => ?_⟩
    · rcases Nat.eq_zero_or_pos len with h0 | h0
      · obtain rfl : L = [] := List.eq_nil_of_length_eq_zero (by omega)
        exact ⟨h1, by omega, by omega, fun h => by omega⟩
      · obtain ⟨v0, _, z1⟩ := key 0 h0
        have hl0 : 0 < (c v0).length := by rw [encLen (s := s)]; exact encPos c
        have z1 := z1 0 _ (List.getElem?_eq_getElem hl0)
        obtain ⟨b, off, spot⟩ := x
        have hspot : spot = none := by simpa [Addr.add] using World.cell?_spot z1
        subst hspot
        refine RR0.of_at h1 (by omega) (by omega) fun k x hx i v hv => ?_
        have := (h2 k x hx).2 i v hv
        simpa only [Addr.add_lit] using this
    · obtain ⟨j, hj, rfl⟩ := List.getElem_of_mem hv
      exact (h2 j _ (List.getElem?_eq_getElem hj)).1

end Go.Proofs.Ytealcccjnmfkcaa
/-
  Deltas that came in as arguments: a delta, a slice of them. No condition.
-/
set_option linter.unusedVariables false
set_option linter.unusedSimpArgs false
set_option linter.constructorNameAsVariable false
namespace Go.Proofs.Ytealcccjnmfkcaa
open Go.RowKit Go.ChangeShapes Go.WideShapes Go.Deep

theorem Try.c8 : Try.prog.cellsOf 5 = 1 := by kernel_rfl
theorem Try.ci : Try.prog.cellsOf 2 = 1 := by kernel_rfl
theorem Try.cD : Try.prog.cellsOf 102 = 2 := by kernel_rfl
theorem bnd_i64 {k : Int} (h : (Lit.int .i64 k).wf = true) : -9223372036854775808 ≤ k ∧ k ≤ 9223372036854775807 := by
  simp [Lit.wf, IntKind.min, IntKind.max, IntKind.bits, IntKind.signed] at h
  omega
theorem bnd_u8 {k : Int} (h : (Lit.int .u8 k).wf = true) : 0 ≤ k ∧ k ≤ 255 := by
  simp [Lit.wf, IntKind.min, IntKind.max, IntKind.bits, IntKind.signed] at h
  omega

set_option maxRecDepth 100000 in
theorem delta_trod {H : Type} {enc : TypeId × Value → H} {w : World} (m : Nat) (cs : List Value) (y : DataW H × List MemPlace) (hl : cs.length = 2) (hf : DataW.trod enc Try.prog w 0 (fun _ => true) true m 102 cs = some y) :
    ∃ x : Dl, inD x ∧ cs = dc x := by
  obtain ⟨xs, n', _, _, _, hxl, hg⟩ := DataW.trod_struct Try.underlying102 hf
  match cs, hl, xs, hxl with
  | [u0, u1], _, [y0, y1], _ =>
    have g0 : DataW.trod enc Try.prog w 0 (fun _ => true) true n' 5 (([u0, u1].drop 0).take (Try.prog.cellsOf 5)) = some y0 := hg 0 _ rfl
    have g1 : DataW.trod enc Try.prog w 0 (fun _ => true) true n' 2 (([u0, u1].drop 1).take (Try.prog.cellsOf 2)) = some y1 := hg 1 _ rfl
    rw [Try.c8] at g0
    rw [Try.ci] at g1
    obtain ⟨n0, e0, _, z0⟩ := DataW.trod_int (x := y0) Try.underlying5 g0
    obtain ⟨n1, e1, _, z1⟩ := DataW.trod_int (x := y1) Try.underlying2 g1
    simp at e0 e1
    subst e0 e1
    exact ⟨⟨n0, n1⟩, ⟨bnd_u8 z0, bnd_i64 z1⟩, rfl⟩
theorem deltas_of {H : Type} {enc : TypeId × Value → H} {w : World} {a : Option Addr} {len cap : Nat} {d : DataW H} {p : List MemPlace}
    (h : DataW.Trod enc Try.prog w 0 (fun _ => true) true 26 (.slice a len cap) d p) :
    ∃ L : List Dl, RR0 w dc 2 a len cap L ∧ WfL L :=
  row_of (c := dc) (s := 2) _ Try.underlying26 Try.cD delta_trod h
theorem delta_of {H : Type} {enc : TypeId × Value → H} {w : World} {r : Reach} {b0 : Nat} {v : Value} {d : DataW H} {p : List MemPlace}
    (hv : Value.okWide Try.prog w r b0 102 v) (h : DataW.Trod enc Try.prog w 0 (fun _ => true) true 102 v d p) :
    ∃ x : Dl, v = dv x ∧ inD x := by
  simp only [Value.okWide, Try.underlying102] at hv
  obtain ⟨cs, rfl, hsz, _⟩ := hv
  obtain ⟨l⟩ := cs
  obtain ⟨fuel, hf⟩ := h
  obtain ⟨x, hx, hc⟩ := delta_trod fuel l _ (hsz.trans Try.cD) hf
  exact ⟨x, by rw [hc]; rfl, hx⟩
theorem slice_trod {H : Type} {enc : TypeId × Value → H} {w : World} {fuel : Nat} {c : Value} {y : DataW H × List MemPlace} {t e : TypeId} (ht : Try.prog.underlying t = some (.slice e))
    (hf : DataW.trod enc Try.prog w 0 (fun _ => true) true fuel t [c] = some y) : ∃ a len cap, c = .slice a len cap := by
  rcases open_slice ht hf with ⟨hcs, _⟩ | ⟨x, l, c', m, n, D, Pl, hcs, _⟩
  · simp at hcs; exact ⟨_, _, _, hcs⟩
  · simp at hcs; exact ⟨_, _, _, hcs⟩
end Go.Proofs.Ytealcccjnmfkcaa

/-
  Arguments of layer 10's laws that came in: calls, a call, an array of two or three bytes. No condition.
-/
set_option linter.unusedVariables false
set_option linter.unusedSimpArgs false
set_option linter.constructorNameAsVariable false
namespace Go.Proofs.Ytealcccjnmfkcaa
open Go.RowKit Go.ChangeShapes Go.WideShapes Go.Deep

theorem Try.cn : Try.prog.cellsOf 3 = 1 := by kernel_rfl
theorem Try.cR : Try.prog.cellsOf 36 = 4 := by kernel_rfl

set_option maxRecDepth 100000 in
theorem rec_trod {H : Type} {enc : TypeId × Value → H} {w : World} (m : Nat) (cs : List Value) (y : DataW H × List MemPlace) (hl : cs.length = 4) (hf : DataW.trod enc Try.prog w 0 (fun _ => true) true m 36 cs = some y) :
    ∃ x : Rc, RcOk x ∧ cs = kc x := by
  obtain ⟨xs, n', _, _, _, hxl, hg⟩ := DataW.trod_struct Try.underlying36 hf
  match cs, hl, xs, hxl with
  | [u0, u1, u2, u3], _, [y0, y1, y2, y3], _ =>
    have g0 : DataW.trod enc Try.prog w 0 (fun _ => true) true n' 3 (([u0, u1, u2, u3].drop 0).take (Try.prog.cellsOf 3)) = some y0 := hg 0 _ rfl
    have g1 : DataW.trod enc Try.prog w 0 (fun _ => true) true n' 3 (([u0, u1, u2, u3].drop 1).take (Try.prog.cellsOf 3)) = some y1 := hg 1 _ rfl
    have g2 : DataW.trod enc Try.prog w 0 (fun _ => true) true n' 5 (([u0, u1, u2, u3].drop 2).take (Try.prog.cellsOf 5)) = some y2 := hg 2 _ rfl
    have g3 : DataW.trod enc Try.prog w 0 (fun _ => true) true n' 2 (([u0, u1, u2, u3].drop 3).take (Try.prog.cellsOf 2)) = some y3 := hg 3 _ rfl
    rw [Try.cn] at g0 g1
    rw [Try.c8] at g2
    rw [Try.ci] at g3
    obtain ⟨n0, e0, _, z0⟩ := DataW.trod_int (x := y0) Try.underlying3 g0
    obtain ⟨n1, e1, _, z1⟩ := DataW.trod_int (x := y1) Try.underlying3 g1
    obtain ⟨n2, e2, _, z2⟩ := DataW.trod_int (x := y2) Try.underlying5 g2
    obtain ⟨n3, e3, _, z3⟩ := DataW.trod_int (x := y3) Try.underlying2 g3
    simp at e0 e1 e2 e3
    subst e0 e1 e2 e3
    exact ⟨⟨n0, n1, n2, n3⟩, ⟨bnd_i64 z0, bnd_i64 z1, bnd_u8 z2, bnd_i64 z3⟩, rfl⟩
theorem recs_of {H : Type} {enc : TypeId × Value → H} {w : World} {a : Option Addr} {len cap : Nat} {d : DataW H} {p : List MemPlace}
    (h : DataW.Trod enc Try.prog w 0 (fun _ => true) true 22 (.slice a len cap) d p) :
    ∃ L : List Rc, KR w a len cap L ∧ ∀ x ∈ L, RcOk x :=
  row_of (c := kc) (s := 4) _ Try.underlying22 Try.cR rec_trod h
theorem rec_of {H : Type} {enc : TypeId × Value → H} {w : World} {r : Reach} {b0 : Nat} {v : Value} {d : DataW H} {p : List MemPlace}
    (hv : Value.okWide Try.prog w r b0 36 v) (h : DataW.Trod enc Try.prog w 0 (fun _ => true) true 36 v d p) :
    ∃ x : Rc, v = kv x ∧ RcOk x := by
  simp only [Value.okWide, Try.underlying36] at hv
  obtain ⟨cs, rfl, hsz, _⟩ := hv
  obtain ⟨l⟩ := cs
  obtain ⟨fuel, hf⟩ := h
  obtain ⟨x, hx, hc⟩ := rec_trod fuel l _ (hsz.trans Try.cR) hf
  exact ⟨x, by rw [hc]; rfl, hx⟩
set_option maxRecDepth 100000 in
theorem two_u8 {H : Type} {enc : TypeId × Value → H} {w : World} {r : Reach} {b0 : Nat} {v : Value} {d : DataW H} {p : List MemPlace}
    (hv : Value.okWide Try.prog w r b0 56 v) (h : DataW.Trod enc Try.prog w 0 (fun _ => true) true 56 v d p) :
    ∃ k0 k1 : Int, v = .agg #[.int .u8 k0, .int .u8 k1] ∧ (0 ≤ k0 ∧ k0 ≤ 255) ∧ (0 ≤ k1 ∧ k1 ≤ 255) := by
  have hc : Try.prog.cellsOf 56 = 2 := by kernel_rfl
  simp only [Value.okWide, Try.underlying56] at hv
  obtain ⟨cs, rfl, hsz, _⟩ := hv
  obtain ⟨l⟩ := cs
  match l, hsz.trans hc with
  | [c0, c1], _ =>
    obtain ⟨fuel, hf⟩ := h
    obtain ⟨xs, m, _, _, _, hlen, hg⟩ := DataW.trod_array Try.underlying56 hf
    match xs, hlen with
    | [y0, y1], _ =>
      have g0 := hg 0 (by omega)
      have g1 := hg 1 (by omega)
      rw [Try.c8] at g0 g1
      have g0' : DataW.trod enc Try.prog w 0 (fun _ => true) true m 5 [c0] = some y0 := by simpa [Value.cells] using g0
      have g1' : DataW.trod enc Try.prog w 0 (fun _ => true) true m 5 [c1] = some y1 := by simpa [Value.cells] using g1
      obtain ⟨s0, e0, _, z0⟩ := DataW.trod_int (x := y0) Try.underlying5 g0'
      obtain ⟨s1, e1, _, z1⟩ := DataW.trod_int (x := y1) Try.underlying5 g1'
      simp at e0 e1
      subst e0 e1
      exact ⟨s0, s1, rfl, bnd_u8 z0, bnd_u8 z1⟩
set_option maxRecDepth 100000 in
theorem three_u8 {H : Type} {enc : TypeId × Value → H} {w : World} {r : Reach} {b0 : Nat} {v : Value} {d : DataW H} {p : List MemPlace}
    (hv : Value.okWide Try.prog w r b0 66 v) (h : DataW.Trod enc Try.prog w 0 (fun _ => true) true 66 v d p) :
    ∃ k0 k1 k2 : Int, v = .agg #[.int .u8 k0, .int .u8 k1, .int .u8 k2] ∧ (0 ≤ k0 ∧ k0 ≤ 255) ∧ (0 ≤ k1 ∧ k1 ≤ 255) ∧ (0 ≤ k2 ∧ k2 ≤ 255) := by
  have hc : Try.prog.cellsOf 66 = 3 := by kernel_rfl
  simp only [Value.okWide, Try.underlying66] at hv
  obtain ⟨cs, rfl, hsz, _⟩ := hv
  obtain ⟨l⟩ := cs
  match l, hsz.trans hc with
  | [c0, c1, c2], _ =>
    obtain ⟨fuel, hf⟩ := h
    obtain ⟨xs, m, _, _, _, hlen, hg⟩ := DataW.trod_array Try.underlying66 hf
    match xs, hlen with
    | [y0, y1, y2], _ =>
      have g0 := hg 0 (by omega)
      have g1 := hg 1 (by omega)
      have g2 := hg 2 (by omega)
      rw [Try.c8] at g0 g1 g2
      have g0' : DataW.trod enc Try.prog w 0 (fun _ => true) true m 5 [c0] = some y0 := by simpa [Value.cells] using g0
      have g1' : DataW.trod enc Try.prog w 0 (fun _ => true) true m 5 [c1] = some y1 := by simpa [Value.cells] using g1
      have g2' : DataW.trod enc Try.prog w 0 (fun _ => true) true m 5 [c2] = some y2 := by simpa [Value.cells] using g2
      obtain ⟨s0, e0, _, z0⟩ := DataW.trod_int (x := y0) Try.underlying5 g0'
      obtain ⟨s1, e1, _, z1⟩ := DataW.trod_int (x := y1) Try.underlying5 g1'
      obtain ⟨s2, e2, _, z2⟩ := DataW.trod_int (x := y2) Try.underlying5 g2'
      simp at e0 e1 e2
      subst e0 e1 e2
      exact ⟨s0, s1, s2, rfl, bnd_u8 z0, bnd_u8 z1, bnd_u8 z2⟩
end Go.Proofs.Ytealcccjnmfkcaa
