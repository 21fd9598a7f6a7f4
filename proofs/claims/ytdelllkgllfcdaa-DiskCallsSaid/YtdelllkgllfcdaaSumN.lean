/-
  Slices of bytes, and slices of such, in memory: small facts that walks of laws want. No condition but those that each theorem names.
-/
import Derived.Test.YtdelllkgllfcdaaSumE
import Derived.Lib.SlBytesConst
namespace Go.Proofs.Ytdelllkgllfcdaa
open Go.RowKit

theorem LR.max {w : World} {B : Nat} {A : Option Addr} {n c : Nat} {ls : List (List UInt8)} (h : LR w B A n c ls) : n ≤ 9223372036854775807 := by
  have h1 := h.2.1; have h2 := h.2.2.1; simp only [maxLen] at h2; omega

/-- The bytes of a constant, marked behind their last one. -/
theorem cellsU8 {w : World} {l : List UInt8} (t : TypeId) (vs : List Value) (fr : Nat × Nat) (n : Nat) (hn : l.length = n) (h : vs = bc l) (hm : n ≤ maxLen) : BR (w.alloc (.cells vs.toArray t fr)) (w.alloc (.cells vs.toArray t fr)).heap.size (some ⟨w.heap.size, 0, none⟩) n n l := by
  refine ⟨hn, Nat.le_refl _, hm, fun _ => ⟨w.heap.size, 0, rfl, by simp, fun i b hb => ?_⟩⟩
  have hg : (w.alloc (.cells vs.toArray t fr)).heap[w.heap.size]? = some (.cells vs.toArray t fr) := heap_alloc_new w _
  rw [Nat.zero_add, cell_of_row _ _ i _ t fr hg, h]
  unfold bc
  simp [hb]

theorem BR.on {w w' : World} {A : Option Addr} {n c : Nat} {bs : List UInt8} (h : BR w w.heap.size A n c bs) (hb : Below w.heap.size w w') : BR w' w'.heap.size A n c bs := (h.below hb (Nat.le_refl _)).more hb.size
theorem LR.on {w w' : World} {A : Option Addr} {n c : Nat} {ls : List (List UInt8)} (h : LR w w.heap.size A n c ls) (hb : Below w.heap.size w w') : LR w' w'.heap.size A n c ls := (h.below hb (Nat.le_refl _)).more hb.size

theorem Try.sizeS (w : World) : (sizeOf 22).run Try.prog w = .ok 1 w := by kernel_rfl
theorem lcut_from {w : World} {B : Nat} {A : Option Addr} {n c : Nat} {ls : List (List UInt8)} (h : LR w B A n c ls) (lo m : Nat) (x : Int) (hx : x = lo) (h2 : lo + m = n) :
    ∃ A1 c1, (∀ W, (Instr.slice 34 (.slice A n c) (some (.int .i64 x)) none none).run Try.prog W = .ok (.slice A1 m c1) W) ∧ LR w B A1 m c1 (ls.drop lo) := by
  subst hx
  have h3 := h.cut (k := lo) (by omega)
  have e : n - lo = m := by omega
  rw [e] at h3
  exact ⟨_, _, fun W => by rw [run_cut_from (P := Try.prog) 34 22 Try.underlying34 1 Try.sizeS A n c lo (by omega) W, e], h3⟩
theorem lcut_upto {w : World} {B : Nat} {A : Option Addr} {n c : Nat} {ls : List (List UInt8)} (h : LR w B A n c ls) (hi : Nat) (y : Int) (hy : y = hi) (h2 : hi ≤ n) :
    (∀ W, (Instr.slice 34 (.slice A n c) none (some (.int .i64 y)) none).run Try.prog W = .ok (.slice A hi c) W) ∧ LR w B A hi c (ls.take hi) := by
  have hnc := h.2.1
  subst hy
  exact ⟨fun W => run_cut_upto (P := Try.prog) 34 22 Try.underlying34 1 Try.sizeS A n c hi (by omega) W, h.upto h2⟩

theorem Seg.apart {w w' : World} {e e' : TypeId} {s s' : Nat} {A A' : Option Addr} {n n' c c' : Nat} {xs xs' : List Value} {G G' : Option Nat} (h : Seg w e s A n c xs G) (k : Seg w e' s' A' n' c' xs' G') (hne : e ≠ e') (hg : w.grownBy w' G') : Seg w' e s A n c xs G := by
  refine h.keep fun g hG => hg.block g (h.lt g hG) fun hg' => ?_
  rcases k.2.2.2 with ⟨_, _, hk⟩ | ⟨g', off, cur, _, hk, hb, _⟩
  · rw [hk] at hg'; cases hg'
  · rw [hk] at hg'
    cases hg'
    exact h.ne_ hb hne hG
end Go.Proofs.Ytdelllkgllfcdaa
