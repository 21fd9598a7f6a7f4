/-
  An array of 256 cells in memory that reads as a function. Plain facts on memory.
-/
import Derived.Test.YtopgnjnnijhpkaaCellF
namespace Go.Proofs.Ytopgnjnnijhpkaa
open Go.RowKit

/-- Block g is an array of 256 cells, the i-th of which is f i. -/
def AR (w : World) (g : Nat) (t : TypeId) (f : Nat → Value) : Prop := ∃ cs, CB w g t cs ∧ cs.size = 256 ∧ ∀ i, i < 256 → cs[i]? = some (f i)

section
variable {w w' : World} {g : Nat} {t : TypeId} {f : Nat → Value}
theorem AR.lt (h : AR w g t f) : g < w.heap.size := by obtain ⟨cs, h1, _⟩ := h; exact h1.lt
theorem AR.cell (h : AR w g t f) {i : Nat} (hi : i < 256) : w.cell? ⟨g, i, none⟩ = some (f i) := by
  obtain ⟨cs, h1, h2, h3⟩ := h
  rw [h1.cell]
  exact h3 i hi
theorem AR.frozen (h : AR w g t f) (i : Nat) : w.frozen? ⟨g, i, none⟩ = false := by
  obtain ⟨cs, h1, _⟩ := h
  exact h1.frozen i
theorem AR.same (h : AR w g t f) (e : w'.heap[g]? = w.heap[g]?) : AR w' g t f := by
  obtain ⟨cs, h1, h2⟩ := h
  exact ⟨cs, h1.same e, h2⟩
theorem AR.drewN (h : AR w g t f) (n : Nat) : AR (w.drewN n) g t f := h
theorem AR.alloc (h : AR w g t f) (o : Obj) : AR (w.alloc o) g t f := h.same (Below.heap_alloc w o g h.lt)
theorem AR.kept (h : AR w g t f) {B c : Nat} (hf : CF B w w' c) (hne : g ≠ c) : AR w' g t f := by
  obtain ⟨cs, h1, h2⟩ := h
  exact ⟨cs, hf.cb h1 hne, h2⟩
theorem AR.far (h : AR w g t f) {p : Addr} (hp : g ≠ p.block) (u : Value) : AR (w.setCell p u) g t f := h.same (Below.heap_setCell w p u g hp)
theorem AR.put (h : AR w g t f) {i : Nat} (hi : i < 256) (u : Value) {f' : Nat → Value} (hf : ∀ j, j < 256 → f' j = if j = i then u else f j) : AR (w.setCell ⟨g, i, none⟩ u) g t f' := by
  obtain ⟨cs, h1, h2, h3⟩ := h
  refine ⟨cs.setIfInBounds i u, h1.put i u, by simpa using h2, fun j hj => ?_⟩
  rw [Array.getElem?_setIfInBounds, hf j hj]
  by_cases e : i = j
  · subst e
    simp [h2, hi]
  · rw [if_neg e, if_neg (fun e' => e e'.symm)]
    exact h3 j hj
theorem AR.new (w : World) (t : TypeId) (u : Value) (f : Nat → Value) (hf : ∀ j, j < 256 → f j = u) : AR (w.alloc (.cells (Array.replicate 256 u) t)) w.heap.size t f :=
  ⟨_, CB.new w t _, by simp, fun i hi => by rw [hf i hi]; simp [hi]⟩
theorem AR.cb (h : AR w g t f) : ∃ cs, CB w g t cs := by obtain ⟨cs, h1, _⟩ := h; exact ⟨cs, h1⟩
end
end Go.Proofs.Ytopgnjnnijhpkaa
