/-
  Two slices of one element type that a loop makes, each in a block of its own. No condition.
-/
import Derived.Test.YtealcccjnmfkcaaRow2
set_option linter.unusedVariables false
set_option linter.unusedSimpArgs false
namespace Go.Proofs.Ytealcccjnmfkcaa
open Go.RowKit

/-- Two slices that a loop makes, each in a block of its own that is new since w. -/
structure Two (w : World) (T : TypeId) (s : Nat) (X Y : List Value) (v u : Value) (W : World) : Prop where
  out : ∃ A m c G A' m' c' G', v = .slice A m c ∧ u = .slice A' m' c' ∧ Seg W T s A m c X G ∧ Seg W T s A' m' c' Y G' ∧ (∀ g, G = some g → w.heap.size ≤ g) ∧ (∀ g, G' = some g → w.heap.size ≤ g) ∧ ∀ g, G = some g → G' ≠ some g
  low : Below w.heap.size w W
theorem Two.start (w : World) (T : TypeId) (s : Nat) {W : World} (h : Below w.heap.size w W) : Two w T s [] [] (.slice none 0 0) (.slice none 0 0) W :=
  ⟨⟨none, 0, 0, none, none, 0, 0, none, rfl, rfl, Seg.nil _ _ _, Seg.nil _ _ _, fun _ e => (by cases e), fun _ e => (by cases e), fun _ e => (by cases e)⟩, h⟩
theorem Two.swap {w : World} {T : TypeId} {s : Nat} {X Y : List Value} {v u : Value} {W : World} (h : Two w T s X Y v u W) : Two w T s Y X u v W := by
  obtain ⟨⟨A, m, c, G, A', m', c', G', h1, h2, h3, h4, h5, h6, h7⟩, h8⟩ := h
  exact ⟨⟨A', m', c', G', A, m, c, G, h2, h1, h4, h3, h6, h5, fun g e e' => h7 g e' e⟩, h8⟩
theorem Two.left {w : World} {T : TypeId} {s : Nat} {W w1 : World} (hl : Below w.heap.size w W) {A' : Option Addr} {m' c' : Nat} {Y : List Value} {G G' : Option Nat} (hs : Seg W T s A' m' c' Y G') (hG : ∀ g, G = some g → w.heap.size ≤ g) (hG' : ∀ g, G' = some g → w.heap.size ≤ g)
    (hne : ∀ g, G = some g → G' ≠ some g) {A1 : Option Addr} {N c1 : Nat} {X1 : List Value} {G1 : Option Nat} (n1 : Seg w1 T s A1 N c1 X1 G1) (n2 : W.grownBy w1 G) (n3 : Moved W G G1) : Two w T s X1 Y (.slice A1 N c1) (.slice A' m' c') w1 := by
  refine ⟨⟨A1, N, c1, G1, A', m', c', G', rfl, rfl, n1, hs.keep fun g hg => n2.block g (hs.lt g hg) (fun e => hne g e.symm hg), n3.ge hl.size hG, hG', fun g e e' => ?_⟩, hl.grown n2 hl.size hG⟩
  rcases n3 with h | ⟨g1, h, hg1⟩
  · exact hne g (h.symm.trans e) e'
  · rw [h] at e
    cases e
    have := hs.lt _ e'
    omega
theorem Two.on {w : World} {T : TypeId} {s : Nat} {X Y : List Value} {v u : Value} {W W' : World} (h : Two w T s X Y v u W) (hb : Below W.heap.size W W') : Two w T s X Y v u W' := by
  obtain ⟨⟨A, m, c, G, A', m', c', G', h1, h2, h3, h4, h5, h6, h7⟩, h8⟩ := h
  exact ⟨⟨A, m, c, G, A', m', c', G', h1, h2, h3.on hb, h4.on hb, h5, h6, h7⟩, bel2 h8 hb⟩
end Go.Proofs.Ytealcccjnmfkcaa
