/-
  More on memory, for any program: a store into a slice of a call's own; an array in a block of its own that reads as a function. No condition.
-/
import Derived.Test.YtcfdfimkgehdfaaRow
set_option linter.unusedVariables false
set_option linter.unusedSimpArgs false
namespace Go.Proofs.Ytcfdfimkgehdfaa
open Go.RowKit

theorem Seg.slot {w : World} {e : TypeId} {size : Nat} {A : Option Addr} {n c : Nat} {xs : List Value} {G : Option Nat} (h : Seg w e size A n c xs G) (k : Nat) (hk : k < n * size) :
    ∃ g off, A = some ⟨g, off, none⟩ ∧ G = some g ∧ w.frozen? ⟨g, off + k, none⟩ = false ∧ (∀ u, xs[k]? = some u → w.cell? ⟨g, off + k, none⟩ = some u) ∧ ∀ v, Seg (w.setCell ⟨g, off + k, none⟩ v) e size A n c (xs.set k v) G := by
  have hl := h.1
  have hnc := h.2.1
  have hm : n * size ≤ c * size := Nat.mul_le_mul_right _ hnc
  rcases h.2.2.2 with ⟨_, h0, _⟩ | ⟨g, off, cur, rfl, rfl, h3, h4, h5⟩
  · subst h0; simp at hm; omega
  · refine ⟨g, off, rfl, rfl, h3.frozen _, fun u hu => by rw [h3.cell]; exact h5 k u hu, fun v => ⟨by rw [List.length_set]; exact hl, hnc, h.2.2.1, .inr ⟨g, off, _, rfl, rfl, h3.put (off + k) v, by rw [Array.size_setIfInBounds]; exact h4, fun j u hu => ?_⟩⟩⟩
    rw [Array.getElem?_setIfInBounds]
    by_cases hj : k = j
    · subst hj
      rw [List.getElem?_set_self (by omega)] at hu
      rw [if_pos rfl, if_pos (by omega)]
      exact hu
    · rw [List.getElem?_set_ne hj] at hu
      rw [if_neg (by omega)]
      exact h5 j u hu
/-- Block g is an array of N cells, the i-th of which is f i. -/
def AN (w : World) (g : Nat) (t : TypeId) (N : Nat) (f : Nat → Value) : Prop := ∃ cs, CB w g t cs ∧ cs.size = N ∧ ∀ i, i < N → cs[i]? = some (f i)
section
variable {w w' : World} {g : Nat} {t : TypeId} {N : Nat} {f : Nat → Value}
theorem AN.lt (h : AN w g t N f) : g < w.heap.size := by obtain ⟨cs, h1, _⟩ := h; exact h1.lt
theorem AN.cell (h : AN w g t N f) {i : Nat} (hi : i < N) : w.cell? ⟨g, i, none⟩ = some (f i) := by
  obtain ⟨cs, h1, h2, h3⟩ := h
  rw [h1.cell]
  exact h3 i hi
theorem AN.frozen (h : AN w g t N f) (i : Nat) : w.frozen? ⟨g, i, none⟩ = false := by
  obtain ⟨cs, h1, _⟩ := h
  exact h1.frozen i
theorem AN.same (h : AN w g t N f) (e : w'.heap[g]? = w.heap[g]?) : AN w' g t N f := by
  obtain ⟨cs, h1, h2⟩ := h
  exact ⟨cs, h1.same e, h2⟩
theorem AN.drew (h : AN w g t N f) : AN w.drew g t N f := h
theorem AN.alloc (h : AN w g t N f) (o : Obj) : AN (w.alloc o) g t N f := h.same (Below.heap_alloc w o g h.lt)
theorem AN.put (h : AN w g t N f) {i : Nat} (hi : i < N) (u : Value) {f' : Nat → Value} (hf : ∀ j, j < N → f' j = if j = i then u else f j) : AN (w.setCell ⟨g, i, none⟩ u) g t N f' := by
  obtain ⟨cs, h1, h2, h3⟩ := h
  refine ⟨cs.setIfInBounds i u, h1.put i u, by simpa using h2, fun j hj => ?_⟩
  rw [Array.getElem?_setIfInBounds, hf j hj]
  by_cases e : i = j
  · subst e
    simp [h2, hi]
  · rw [if_neg e, if_neg (fun e' => e e'.symm)]
    exact h3 j hj
theorem AN.new (w : World) (t : TypeId) (N : Nat) (u : Value) (f : Nat → Value) (hf : ∀ j, j < N → f j = u) : AN (w.alloc (.cells (Array.replicate N u) t)) w.heap.size t N f :=
  ⟨_, CB.new w t _, by simp, fun i hi => by rw [hf i hi]; simp [hi]⟩
end
end Go.Proofs.Ytcfdfimkgehdfaa
