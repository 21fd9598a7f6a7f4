/-
  A slice of integers that came in as an argument: each element's cell, as a law's walk wants it. No condition.
-/
import Derived.WalkKit
import Derived.ProofKit
import Derived.OpenShut
import Derived.Below
namespace Go.Proofs.Ytbdejcmlcjljkaa
open Go.RowKit

/-- A slice of integers that came in: each element's cell. -/
def Came1 (k : IntKind) (w : World) (a : Option Addr) (xs : List Int) : Prop :=
  ∀ i : Nat, i < xs.length → ∃ b off, a = some ⟨b, off, none⟩ ∧ b < w.heap.size ∧ w.cell? ⟨b, off + i, none⟩ = some (.int k (xs[i]?.getD 0))

theorem Came1.at_ {k : IntKind} {w wr : World} {a : Option Addr} {xs : List Int} (h : Came1 k w a xs) (hb : Below w.heap.size w wr) {i : Nat} (hi : i < xs.length) :
    ∃ b off x, a = some ⟨b, off, none⟩ ∧ Hid (xs[i]? = some x) ∧ wr.cell? ⟨b, off + i, none⟩ = some (.int k x) := by
  obtain ⟨b, off, h1, h2, h3⟩ := h i hi
  refine ⟨b, off, xs[i], h1, List.getElem?_eq_getElem hi, ?_⟩
  rw [hb.cell (p := ⟨b, off + i, none⟩) h2, h3, List.getElem?_eq_getElem hi]
  rfl

theorem came_of {k : IntKind} {w : World} {a : Option Addr} {len cap : Nat} {zs : List Int}
    (h : (a = none ∧ len = 0 ∧ cap = 0 ∧ zs = []) ∨ ∃ x, a = some x ∧ len ≤ cap ∧ cap ≤ maxLen ∧ zs.length = cap ∧ (∀ i, i < zs.length → w.cell? (x.add i) = some (.int k (zs.getD i 0))) ∧ ∀ n ∈ zs, (Lit.int k n).wf = true) :
    ∃ xs : List Int, len = xs.length ∧ Came1 k w a xs ∧ xs.length ≤ maxLen ∧ ∀ n ∈ xs, (Lit.int k n).wf = true := by
  rcases h with ⟨rfl, rfl, rfl, rfl⟩ | ⟨x, rfl, h1, h2, h3, h4, h5⟩
  · exact ⟨[], rfl, fun i hi => absurd hi (by simp), Nat.zero_le _, by simp⟩
  · refine ⟨zs.take len, by rw [List.length_take]; omega, fun i hi => ?_, by rw [List.length_take]; omega, fun n hn => h5 n (List.mem_of_mem_take hn)⟩
    rw [List.length_take] at hi
    obtain ⟨b, off, rfl, hc⟩ := ints_at h4 (by omega)
    have := hc i (by omega)
    refine ⟨b, off, rfl, World.block_lt_of_cell? w _ this, ?_⟩
    rw [this, List.getElem?_take_of_lt (by omega), List.getD_eq_getElem?_getD]

theorem wf_u8 {xs : List Int} (h : ∀ n ∈ xs, (Lit.int .u8 n).wf = true) (i : Nat) : 0 ≤ xs[i]?.getD 0 ∧ xs[i]?.getD 0 ≤ 255 := by
  by_cases hi : i < xs.length
  · rw [List.getElem?_eq_getElem hi]
    have := h _ (List.getElem_mem hi)
    exact bounds_u8 this
  · rw [List.getElem?_eq_none (by omega)]
    simp
end Go.Proofs.Ytbdejcmlcjljkaa
