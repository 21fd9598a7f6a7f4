/-
  What the loop of the law CellsActs keeps between its rounds: cells, and the document's cells beside them. Conditions: as each theorem names them.
-/
import Derived.Test.YtopgnjnnijhpkaaCellY
namespace Go.Proofs.Ytopgnjnnijhpkaa
open Go.RowKit Go.Maps UI

/-- The cells hold L and S; the document's cells, in block mb, hold M and T. -/
structure AC (w : World) (B c mb : Nat) (room : Int) (L S M T : List (Int × Int)) (W : World) : Prop where
  cells : CE B W c room L S
  box : ∃ a1 c1 a2 c2, CB W mb 28 #[.slice a1 M.length c1, .slice a2 T.length c2, .int .i64 room] ∧ RS W a1 M.length c1 M ∧ RS W a2 T.length c2 T
  low : Below w.heap.size w W
  lw : w.heap.size ≤ B
  lm : w.heap.size ≤ mb

section
variable {w : World} {B c mb : Nat} {room : Int} {L S L' S' M T : List (Int × Int)} {W W' : World}
theorem AC.below (h : AC w B c mb room L S M T W) (hb : Below W.heap.size W W') : AC w B c mb room L S M T W' := by
  obtain ⟨a1, c1, a2, c2, h1, h2, h3⟩ := h.box
  exact ⟨h.cells.below hb (Nat.le_refl _), ⟨a1, c1, a2, c2, h1.same (hb.block _ h1.lt), h2.keep hb, h3.keep hb⟩, h.low.trans (hb.mono h.low.size), h.lw, h.lm⟩
theorem AC.alloc (h : AC w B c mb room L S M T W) (o : Obj) : AC w B c mb room L S M T (W.alloc o) := h.below ((Below.refl _ _).alloc (Nat.le_refl _) _)
theorem AC.drewN (h : AC w B c mb room L S M T W) (n : Nat) : AC w B c mb room L S M T (W.drewN n) := ⟨h.cells.drewN n, h.box, ⟨h.low.os, h.low.tape, h.low.output, h.low.size, h.low.block⟩, h.lw, h.lm⟩
theorem AC.onC (h : AC w B c mb room L S M T W) (hc : CE B W' c room L' S') (hf : CF B W W' c) : AC w B c mb room L' S' M T W' := by
  obtain ⟨a1, c1, a2, c2, h1, h2, h3⟩ := h.box
  obtain ⟨bn, bs, k1, _⟩ := h.cells.ex
  exact ⟨hc, ⟨a1, c1, a2, c2, hf.cb h1 (h.cells.ne h1 (by decide)), h2.cf hf k1, h3.cf hf k1⟩, h.low.trans (hf.low.mono h.lw), h.lw, h.lm⟩
theorem AC.isC (h : AC w B c mb room L S M T W) : ∃ t cs, CB W c t cs := by obtain ⟨bn, bs, h1, _⟩ := h.cells.ex; exact ⟨_, _, h1⟩
/-- The document's cells take other lists. -/
theorem AC.onM (h : AC w B c mb room L S M T W) {x y z : Value} (hb : CB W mb 28 #[x, y, z]) {a1 : Option Addr} {c1 : Nat} {M' : List (Int × Int)} (h1 : RS W a1 M'.length c1 M') {a2 : Option Addr} {c2 : Nat} {T' : List (Int × Int)} (h2 : RS W a2 T'.length c2 T') :
    AC w B c mb room L S M' T' (((W.setCell ⟨mb, 0, none⟩ (.slice a1 M'.length c1)).setCell ⟨mb, 1, none⟩ (.slice a2 T'.length c2)).setCell ⟨mb, 2, none⟩ (.int .i64 room)) := by
  refine ⟨?_, ⟨a1, c1, a2, c2, box_end hb _ _ _, h1.box hb _ _ _, h2.box hb _ _ _⟩, below_box h.low h.lm _ _ _, h.lw, h.lm⟩
  have k1 := h.cells.far hb (by decide) 0 (.slice a1 M'.length c1)
  have k2 := k1.far (hb.put 0 (.slice a1 M'.length c1)) (by decide) 1 (.slice a2 T'.length c2)
  exact k2.far ((hb.put 0 (.slice a1 M'.length c1)).put 1 (.slice a2 T'.length c2)) (by decide) 2 (.int .i64 room)
theorem AC.safe (h : AC w B c mb room L S M T W) {a1 : Option Addr} {c1 : Nat} {y : Value} (hb : CB W mb 28 #[.slice a1 M.length c1, y, .int .i64 room]) (h1 : RS W a1 M.length c1 M) :
    AC w B c mb room L S M M (W.setCell ⟨mb, 1, none⟩ (.slice a1 M.length c1)) := by
  refine ⟨h.cells.far hb (by decide) 1 _, ⟨a1, c1, a1, c1, ?_, h1.far hb (by decide) 1 _, h1.far hb (by decide) 1 _⟩, h.low.setCell (p := ⟨mb, 1, none⟩) h.lm _, h.lw, h.lm⟩
  have := hb.put 1 (.slice a1 M.length c1)
  simpa using this
theorem AC.back (h : AC w B c mb room L S M T W) {a2 : Option Addr} {c2 : Nat} {y : Value} (hb : CB W mb 28 #[y, .slice a2 T.length c2, .int .i64 room]) (h1 : RS W a2 T.length c2 T) :
    AC w B c mb room L S T T (W.setCell ⟨mb, 0, none⟩ (.slice a2 T.length c2)) := by
  refine ⟨h.cells.far hb (by decide) 0 _, ⟨a2, c2, a2, c2, ?_, h1.far hb (by decide) 0 _, h1.far hb (by decide) 0 _⟩, h.low.setCell (p := ⟨mb, 0, none⟩) h.lm _, h.lw, h.lm⟩
  have := hb.put 0 (.slice a2 T.length c2)
  simpa using this
end
end Go.Proofs.Ytopgnjnnijhpkaa
