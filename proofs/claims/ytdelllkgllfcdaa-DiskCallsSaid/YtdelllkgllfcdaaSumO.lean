/-
  Arguments that are slices of bytes, or slices of such, that came in: what a walk wants of them. No condition.
-/
import Derived.Test.YtdelllkgllfcdaaSumE
import Derived.Test.YtdelllkgllfcdaaBytO
import Derived.ProofKit
import Derived.OpenShut
import Derived.Deep.Slices
import Derived.Deep.Fields
namespace Go.Proofs.Ytdelllkgllfcdaa
open Go.RowKit Go.ChangeShapes Go.WideShapes Go.Deep

theorem lists_of {H : Type} {enc : TypeId × Value → H} {w : World} {a : Option Addr} {len cap : Nat} {d : DataW H} {p : List MemPlace}
    (h : DataW.Trod enc Try.prog w 0 (fun _ => true) true 34 (.slice a len cap) d p) :
    ∃ ls : List (List UInt8), LR w w.heap.size a len cap ls := by
  obtain ⟨fuel, hf⟩ := h
  rcases open_slice1 Try.underlying34 (by kernel_rfl) hf with ⟨hcs, _⟩ | ⟨x, l, c, m, n, V, D, Pl, hcs, hb, hl, hm, hmm, _, hi⟩
  · simp [Value.cells] at hcs
    obtain ⟨rfl, rfl, rfl⟩ := hcs
    exact ⟨[], rfl, Nat.le_refl _, Nat.zero_le _, fun i l h => by simp at h⟩
  · simp [Value.cells] at hcs
    obtain ⟨rfl, rfl, rfl⟩ := hcs
    simp only [if_true] at hmm
    subst hmm
    have key : ∀ i, i < len → ∃ v : List UInt8, ∃ A n c, w.cell? (x.add i) = some (.slice A n c) ∧ BR w w.heap.size A n c v := by
      intro i hil
      obtain ⟨hc, ht⟩ := hi i (by omega)
      obtain ⟨a', len', cap', e0, bs, hbr⟩ := bytes_trod ht
      simp at e0
      rw [e0] at hc
      exact ⟨bs, a', len', cap', hc, hbr⟩
    obtain ⟨vs, h1, h2⟩ := exists_list _ len key
    refine ⟨vs, h1, hl, by omega, fun i v hv => ?_⟩
    obtain ⟨A, n, c, k1, k2⟩ := h2 i v hv
    have hlt := (List.getElem?_eq_some_iff.1 hv).1
    obtain ⟨_, _, _, _, z1, _⟩ := key 0 (by omega)
    obtain ⟨b, off, spot⟩ := x
    have hspot : spot = none := by simpa [Addr.add] using World.cell?_spot z1
    subst hspot
    rw [Addr.add_lit] at k1
    exact ⟨b, off, A, n, c, rfl, World.block_lt_of_cell? w _ k1, k1, k2⟩
end Go.Proofs.Ytdelllkgllfcdaa
