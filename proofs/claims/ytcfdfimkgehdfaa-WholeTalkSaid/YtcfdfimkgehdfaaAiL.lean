/-
  Layer 18: things beside an air in a statement's walk. No condition.
-/
import Derived.Test.YtcfdfimkgehdfaaAiH
set_option linter.unusedVariables false
set_option linter.unusedSimpArgs false
set_option linter.unusedSectionVars false
namespace Go.Proofs.Ytcfdfimkgehdfaa
open Go.RowKit

section
variable {S S' : Nat → Prop} {ba room : Nat} {Q : Qs} {w W V : World}
theorem AO.on (h : AO S ba room Q W) (hb : Below W.heap.size W V) : AO S ba room Q V := Ob.on h hb
theorem AO.drew (h : AO S ba room Q W) : AO S ba room Q W.drew := Ob.drew h
theorem AO.wr (h : AO S ba room Q W) {g : Nat} (k : Wr W V g) (hg : ¬ S g) : AO S ba room Q V := Ob.wr h k hg
theorem AO.fresh (h : AO S ba room Q W) {g : Nat} (hg : W.heap.size ≤ g) : ¬ S g := Ob.fresh h hg
theorem AO.out (h : AO S ba room Q W) (o : Out W V S') (hd : ∀ i, S i → ¬ S' i) : AO S ba room Q V := Ob.out h o hd
theorem AO.lt (h : AO S ba room Q W) : ∀ i, S i → i < W.heap.size := Ob.lt h
theorem below_out (h : Below w.heap.size w W) (o : Out W V S) (hS : ∀ i, S i → w.heap.size ≤ i) : Below w.heap.size w V := h.trans (o.below h.size hS)
end
section
variable {α : Type} {c : α → List Value} {s : Nat} [Nonempty (EncOk c s)] {w W V : World} {N : Nat} {T : TypeId} {A : Option Addr} {n q : Nat} {L : List α} {G : Option Nat} {S S' : Nat → Prop}
theorem RL.out (h : RL w W c s A n q L) (o : Out W V S) (hS : ∀ i, S i → w.heap.size ≤ i) : RL w V c s A n q L := ⟨h.rr.keep fun b off hA hn hb => o.block b hb (fun e => by have := h.lo b off hA hn; have := hS b e; omega), h.lo⟩
theorem SO.outS (h : SO N W T c s A n q L G) (o : Out W V S) (hd : ∀ g, G = some g → ¬ S g) : SO N V T c s A n q L G := ⟨h.seg.keep fun g e => o.block g (h.seg.lt g e) (hd g e), h.hi⟩
theorem SO.farS (h : SO N W T c s A n q L G) (hd : ∀ g, G = some g → ¬ S g) (hn : ∀ i, S' i → S i ∨ W.heap.size ≤ i) : ∀ g, G = some g → ¬ S' g := fun g e e2 => by
  rcases hn g e2 with e3 | e3
  · exact hd g e e3
  · have := h.seg.lt g e; omega
end
theorem moved_nf {W : World} {G G' : Option Nat} {F : Nat → Prop} {X : World → Prop} (k : Moved W G G') (h : Ob F X W) (hd : ∀ g, G = some g → ¬ F g) : ∀ g, G' = some g → ¬ F g := by
  rcases k with rfl | ⟨g', rfl, hg⟩
  · exact hd
  · intro g e; cases e; exact h.fresh hg
theorem AO.grow {S : Nat → Prop} {ba room : Nat} {Q : Qs} {W V : World} (h : AO S ba room Q W) {G : Option Nat} (hg : W.grownBy V G) (hd : ∀ g, G = some g → ¬ S g) : AO S ba room Q V := Ob.grow h hg hd
theorem NPost.yes {w w' : World} {r : Nat} {e : Ending} (h1 : 1 ≤ r) (h2 : r ≤ 1000) (h : NPost w (r : Int) e w') : ∃ g S, e = .returned (.pointer (some ⟨g, 0, none⟩)) ∧ AO S g r (fun _ => []) w' ∧ (∀ i, S i → w.heap.size ≤ i) ∧ Below w.heap.size w w' := by
  rcases h with ⟨r', e1, _, _, h⟩ | ⟨h, _⟩
  · obtain rfl : r = r' := by omega
    exact h
  · omega
end Go.Proofs.Ytcfdfimkgehdfaa
