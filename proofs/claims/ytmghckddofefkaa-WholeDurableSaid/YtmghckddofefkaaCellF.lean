/-
  What a call of a cells' method leaves alone: all blocks but the cells' own and maps. Plain facts on memory.
-/
import Derived.Test.YtmghckddofefkaaRange
namespace Go.Proofs.Ytmghckddofefkaa
open Go.RowKit

theorem Book.keep {B : Nat} {W W' : World} (h1 : Book W B) (h2 : Book W (B + 1)) (hk : Keep2 B W W') : Book W' B ∧ Book W' (B + 1) := by
  constructor
  · rcases h1 with ⟨r, h1⟩ | ⟨d, h1⟩
    · exact .inl ⟨r, hk.1.trans h1⟩
    · exact .inr ⟨d, hk.1.trans h1⟩
  · rcases h2 with ⟨r, h2⟩ | ⟨d, h2⟩
    · exact .inl ⟨r, hk.2.trans h2⟩
    · exact .inr ⟨d, hk.2.trans h2⟩

/-- Of what was there only block c, maps, and nothing below B have changed. -/
structure CF (B : Nat) (w w' : World) (c : Nat) : Prop where
  low : Below B w w'
  keep : ∀ g, g < w.heap.size → g ≠ c → (∀ es cl, w.heap[g]? ≠ some (.map es cl)) → w'.heap[g]? = w.heap[g]?

section
variable {B : Nat} {w w' w'' : World} {c : Nat}
theorem CF.refl (B : Nat) (w : World) (c : Nat) : CF B w w c := ⟨Below.refl _ _, fun _ _ _ _ => rfl⟩
theorem CF.drewN (h : CF B w w' c) (n : Nat) : CF B w (w'.drewN n) c := ⟨⟨h.low.os, h.low.tape, h.low.output, h.low.size, h.low.block⟩, h.keep⟩
theorem CF.size (h : CF B w w' c) : w.heap.size ≤ w'.heap.size := h.low.size
theorem CF.cb (h : CF B w w' c) {g : Nat} {t : TypeId} {cs : Array Value} (hc : CB w g t cs) (hne : g ≠ c) : CB w' g t cs := hc.same (h.keep g hc.lt hne (fun es cl e => by
  have h' : w.heap[g]? = some (.cells cs t (0, 0)) := hc
  rw [h'] at e
  cases e))
theorem CF.seg (h : CF B w w' c) {e : TypeId} {size : Nat} {A : Option Addr} {n k : Nat} {xs : List Value} {G : Option Nat} (hs : Seg w e size A n k xs G) (hne : G ≠ some c) : Seg w' e size A n k xs G :=
  hs.keep fun g hg => by
    rcases hs.2.2.2 with ⟨_, _, h0⟩ | ⟨g', off, cur, _, h2, h3, _⟩
    · rw [h0] at hg
      cases hg
    · rw [h2] at hg
      cases hg
      exact (h.cb h3 (fun e => hne (by rw [h2, e]))).trans h3.symm
theorem CF.keep2 (h : CF B w w' c) {b : Nat} (h1 : Book w b) (h2 : Book w (b + 1)) (hc : ∃ t cs, CB w c t cs) : Keep2 b w w' := by
  obtain ⟨t, cs, hc⟩ := hc
  have key : ∀ {l : Nat}, Book w l → w'.heap[l]? = w.heap[l]? := fun {l} hl => h.keep l hl.lt (fun e => hc.noBook hl e.symm) (fun es cl e => by
    rcases hl with ⟨r, hl⟩ | ⟨d, hl⟩ <;> (rw [hl] at e; cases e))
  exact ⟨key h1, key h2⟩
end
end Go.Proofs.Ytmghckddofefkaa
