/-
  A slice of acts that came in as an argument: each element's three cells, as the walks want them. No condition.
-/
import Derived.Test.YtopgnjnnijhpkaaCellH
import Derived.ProofKit
import Derived.OpenShut
import Derived.Deep.Slices
import Derived.Deep.Fields
namespace Go.Proofs.Ytopgnjnnijhpkaa
open Go.RowKit Go.ChangeShapes Go.WideShapes Go.Deep

theorem exists_list {α : Type} (P : Nat → α → Prop) : ∀ n : Nat, (∀ i, i < n → ∃ v, P i v) → ∃ l : List α, l.length = n ∧ ∀ (j : Nat) (v : α), l[j]? = some v → P j v
  | 0, _ => ⟨[], rfl, fun j v hv => by simp at hv⟩
  | n + 1, h => by
    obtain ⟨l, h1, h2⟩ := exists_list P n (fun i hi => h i (by omega))
    obtain ⟨v, hv⟩ := h n (by omega)
    refine ⟨l ++ [v], by simp [h1], fun j u hu => ?_⟩
    by_cases hj : j < l.length
    · rw [List.getElem?_append_left hj] at hu
      exact h2 j u hu
    · rw [List.getElem?_append_right (by omega)] at hu
      obtain ⟨hlt, he⟩ := List.getElem?_eq_some_iff.1 hu
      simp at hlt he
      obtain rfl : j = n := by omega
      rw [← he]
      exact hv

theorem ActV.mk_ok {a b c : Int} (h1 : (Lit.int .u8 a).wf = true) (h2 : (Lit.int .u8 b).wf = true) (h3 : (Lit.int .i64 c).wf = true) : ActV.ok ⟨a, b, c⟩ := ⟨h1, h2, h3⟩

theorem Try.cellsAct : Try.prog.cellsOf 30 = 3 := by kernel_rfl

set_option maxRecDepth 100000 in
theorem acts_of {H : Type} {enc : TypeId × Value → H} {w : World} {a : Option Addr} {len cap : Nat} {d : DataW H} {p : List MemPlace}
    (h : DataW.Trod enc Try.prog w 0 (fun _ => true) true 22 (.slice a len cap) d p) :
    ∃ acts : List ActV, len = acts.length ∧ CameA w a acts ∧ acts.length ≤ maxLen := by
  obtain ⟨fuel, hf⟩ := h
  rcases open_slice Try.underlying22 hf with ⟨hcs, _⟩ | ⟨x, l, c, m, n, D, Pl, hcs, hb, hl, hm, hmm, _, hi⟩
  · simp [Value.cells] at hcs
    obtain ⟨rfl, rfl, rfl⟩ := hcs
    exact ⟨[], rfl, fun j v hv => by simp at hv, Nat.zero_le _⟩
  · simp [Value.cells] at hcs
    obtain ⟨rfl, rfl, rfl⟩ := hcs
    simp only [if_true] at hmm
    subst hmm
    have key : ∀ i, i < len → ∃ v : ActV, v.ok ∧ w.cell? ((x.add (i * 3)).add 0) = some (.int .u8 v.kind) ∧ w.cell? ((x.add (i * 3)).add 1) = some (.int .u8 v.k) ∧ w.cell? ((x.add (i * 3)).add 2) = some (.int .i64 v.v) := by
      intro i hil
      obtain ⟨cs', hc, ht⟩ := hi i (by omega)
      rw [Try.cellsAct] at hc
      obtain ⟨xs, n', _, _, _, hxl, hg⟩ := DataW.trod_struct Try.underlying30 ht
      obtain ⟨_, hcl, hat⟩ := World.cells?_some hc
      match cs', hcl, xs, hxl with
      | [u0, u1, u2], _, [y0, y1, y2], _ =>
        have g0 : DataW.trod enc Try.prog w 0 (fun _ => true) true n' 5 (([u0, u1, u2].drop 0).take (Try.prog.cellsOf 5)) = some y0 := hg 0 _ rfl
        have g1 : DataW.trod enc Try.prog w 0 (fun _ => true) true n' 5 (([u0, u1, u2].drop 1).take (Try.prog.cellsOf 5)) = some y1 := hg 1 _ rfl
        have g2 : DataW.trod enc Try.prog w 0 (fun _ => true) true n' 2 (([u0, u1, u2].drop 2).take (Try.prog.cellsOf 2)) = some y2 := hg 2 _ rfl
        rw [show Try.prog.cellsOf 5 = 1 by kernel_rfl] at g0 g1
        rw [show Try.prog.cellsOf 2 = 1 by kernel_rfl] at g2
        obtain ⟨n0, e0, _, wf0⟩ := DataW.trod_int (x := y0) Try.underlying5 g0
        obtain ⟨n1, e1, _, wf1⟩ := DataW.trod_int (x := y1) Try.underlying5 g1
        obtain ⟨n2, e2, _, wf2⟩ := DataW.trod_int (x := y2) Try.underlying2 g2
        simp at e0 e1 e2
        subst e0 e1 e2
        have hok : ActV.ok ⟨n0, n1, n2⟩ := ActV.mk_ok wf0 wf1 wf2
        exact ⟨⟨n0, n1, n2⟩, hok, hat 0 (by omega), hat 1 (by omega), hat 2 (by omega)⟩
    obtain ⟨acts, h1, h2⟩ := exists_list _ len key
    refine ⟨acts, h1.symm, fun j v hv => ?_, by omega⟩
    have hj : j < len := by rw [← h1]; exact (List.getElem?_eq_some_iff.1 hv).1
    obtain ⟨k1, k2, k3, k4⟩ := h2 j v hv
    obtain ⟨v0, _, z1, _⟩ := key 0 (by omega)
    obtain ⟨b, off, spot⟩ := x
    have hspot : spot = none := by simpa [Addr.add] using World.cell?_spot z1
    subst hspot
    simp only [Addr.add_lit, Nat.add_zero] at k2 k3 k4
    exact ⟨k1, b, off, rfl, World.block_lt_of_cell? w _ k2, k2, k3, k4⟩

end Go.Proofs.Ytopgnjnnijhpkaa
