/-
  A queue beside the document's list of it: what each call does to the one and leaves of the other. Conditions: both lie from block B on, and share no block.
-/
import Derived.Test.YtbdejcmlcjljkaaRefA
import Derived.Test.YtbdejcmlcjljkaaRingD
import Derived.Test.YtbdejcmlcjljkaaRingE
namespace Go.Proofs.Ytbdejcmlcjljkaa
open Go.RowKit

/-- The queue b holds ys; the slice mv holds zs. -/
def Pair (B : Nat) (w : World) (b : Nat) (room : Int) (ys : List Int) (mv : Value) (zs : List Int) : Prop :=
  ∃ G A c Gm, RG w b room G ys ∧ B ≤ b ∧ B ≤ w.heap.size ∧ (∀ g, G = some g → B ≤ g) ∧ mv = .slice A zs.length c ∧ Seg w 2 1 A zs.length c (zs.map (.int .i64)) Gm ∧ ∀ g, Gm = some g → B ≤ g ∧ G ≠ some g

/-- Blocks of cells that are neither the queue's own nor rows of numbers stay. -/
def Keeps (w w' : World) (b : Nat) : Prop := ∀ g t cs, CB w g t cs → t ≠ 2 → g ≠ b → CB w' g t cs

theorem Keeps.of_below {w w' : World} {b : Nat} (h : Below w.heap.size w w') : Keeps w w' b := fun g _ _ hc _ _ => hc.same (h.block g hc.lt)

section
variable {B : Nat} {w w' : World} {b : Nat} {room : Int} {ys : List Int} {mv : Value} {zs : List Int}
theorem Pair.later (h : Pair B w b room ys mv zs) (hb : Below w.heap.size w w') : Pair B w' b room ys mv zs := by
  obtain ⟨G, A, c, Gm, h1, h2, h3, h4, h5, h6, h7⟩ := h
  exact ⟨G, A, c, Gm, h1.below hb h1.lt.1 h1.lt.2, h2, Nat.le_trans h3 hb.size, h4, h5, h6.keep fun g hg => hb.block g (h6.lt g hg), h7⟩
theorem Pair.alloc (h : Pair B w b room ys mv zs) (o : Obj) : Pair B (w.alloc o) b room ys mv zs := h.later ((Below.refl _ _).alloc (Nat.le_refl _) _)
theorem Pair.le (h : Pair B w b room ys mv zs) : B ≤ w.heap.size := by
  obtain ⟨G, A, c, Gm, h1, h2, h3, _⟩ := h
  exact h3
/-- A step on the queue alone. -/
theorem Pair.ring {G : Option Nat} {A : Option Addr} {c : Nat} {Gm G' : Option Nat} {ys' : List Int} (h1 : RG w b room G ys) (h2 : B ≤ b) (h3 : B ≤ w.heap.size) (h4 : ∀ g, G = some g → B ≤ g)
    (h6 : Seg w 2 1 A zs.length c (zs.map (.int .i64)) Gm) (h7 : ∀ g, Gm = some g → B ≤ g ∧ G ≠ some g) (k1 : RG w' b room G' ys') (k2 : Only w w' b G) (k3 : Moved w G G') :
    Pair B w' b room ys' (.slice A zs.length c) zs ∧ Below B w w' ∧ Keeps w w' b := by
  obtain ⟨A0, n0, c0, q1, qs⟩ := h1
  refine ⟨⟨G', A, c, Gm, k1, h2, Nat.le_trans h3 k2.size, ?_, rfl, h6.keep fun g hg => k2.block g (h6.lt g hg) ?_ ?_, fun g hg => ⟨(h7 g hg).1, ?_⟩⟩, k2.below h3 h2 h4, fun g t cs hc ht hg => hc.same (k2.block g hc.lt hg ?_)⟩
  rotate_right
  · exact fun e => (qs.ne_ hc (Ne.symm ht)) e.symm
  · intro g hg
    rcases k3 with e | ⟨g', e, hg'⟩
    · exact h4 g (by rw [← e]; exact hg)
    · rw [e] at hg
      cases hg
      omega
  · rintro rfl
    exact h6.ne_ q1 (by decide) hg
  · exact fun e => (h7 g hg).2 e.symm
  · rcases k3 with e | ⟨g', e, hg'⟩
    · rw [e]
      exact (h7 g hg).2
    · rw [e]
      intro e2
      cases e2
      have := h6.lt _ hg
      omega
/-- A step on the slice alone, that makes a new one. -/
theorem Pair.list {v : Value} {zs' : List Int} (h : Pair B w b room ys mv zs) (k1 : SegNew w' w.heap.size v zs') (k2 : Below w.heap.size w w') : Pair B w' b room ys v zs' ∧ Below B w w' ∧ Keeps w w' b := by
  obtain ⟨G, A, c, Gm, h1, h2, h3, h4, h5, h6, h7⟩ := h
  obtain ⟨A', c', G', rfl, q1, q2⟩ := k1
  refine ⟨⟨G, A', c', G', h1.below k2 h1.lt.1 h1.lt.2, h2, Nat.le_trans h3 k2.size, h4, rfl, q1, fun g hg => ⟨?_, ?_⟩⟩, k2.mono h3, .of_below k2⟩
  · have := q2 g hg
    omega
  · intro e
    have h8 := h1.lt.2 g e
    have h9 := q2 g hg
    omega
end

section

theorem pushR (B : Nat) (b : Nat) (room : Int) (ys : List Int) (mv : Value) (zs : List Int) (w : World) (h : Pair B w b room ys mv zs) (hr : 0 < room) (x : Int) (hl : (ys.length : Int) < room) (hm : ys.length ≤ 10000) :
    Calls Try.prog 18 #[.pointer (some ⟨b, 0, none⟩), .int .i64 x] w fun e w' => e = .returned (.int .i64 0) ∧ Pair B w' b room (ys ++ [x]) mv zs ∧ Below B w w' ∧ Keeps w w' b := by
  obtain ⟨G, A, c, Gm, h1, h2, h3, h4, rfl, h6, h7⟩ := h
  refine (push_ok b room G ys x w h1 hr hl hm).mono ?_
  rintro e w' ⟨he, G', k1, k2, k3⟩
  exact ⟨he, Pair.ring h1 h2 h3 h4 h6 h7 k1 k2 k3⟩
theorem pushR_full (B : Nat) (b : Nat) (room : Int) (ys : List Int) (mv : Value) (zs : List Int) (w : World) (h : Pair B w b room ys mv zs) (hr : 0 < room) (x : Int) (hl : (ys.length : Int) = room) :
    Calls Try.prog 18 #[.pointer (some ⟨b, 0, none⟩), .int .i64 x] w fun e w' => e = .returned (.int .i64 6) ∧ Pair B w' b room ys mv zs ∧ Below B w w' ∧ Keeps w w' b := by
  have h0 := h
  obtain ⟨G, A, c, Gm, h1, h2, h3, h4, rfl, h6, h7⟩ := h
  refine (push_full b room G ys x w h1 hr hl).mono ?_
  rintro e w' ⟨he, k, rfl⟩
  exact ⟨he, h0.later (below_drewN (Below.refl _ _) k), below_drewN (Below.refl _ _) k, .of_below (below_drewN (Below.refl _ _) k)⟩
theorem popR_no (B : Nat) (b : Nat) (room : Int) (ys : List Int) (mv : Value) (zs : List Int) (w : World) (h : Pair B w b room ys mv zs) (hr : 0 < room) (hn : ys = []) :
    Calls Try.prog 12 #[.pointer (some ⟨b, 0, none⟩)] w fun e w' => e = .returned (.tuple #[.int .i64 0, .int .i64 7]) ∧ w = w' := by
  subst hn
  obtain ⟨G, A, c, Gm, h1, _⟩ := h
  exact pop_no b room G w h1 hr
theorem atR_no (B : Nat) (b : Nat) (room : Int) (ys : List Int) (mv : Value) (zs : List Int) (w : World) (h : Pair B w b room ys mv zs) (hr : 0 < room) (i : Int) (hi : i < 0 ∨ ys.length ≤ i) :
    Calls Try.prog 15 #[.pointer (some ⟨b, 0, none⟩), .int .i64 i] w fun e w' => e = .returned (.tuple #[.int .i64 0, .int .i64 7]) ∧ w = w' := by
  obtain ⟨G, A, c, Gm, h1, _⟩ := h
  exact at_no b room G ys i w h1 hr hi
theorem atR_ok (B : Nat) (b : Nat) (room : Int) (ys : List Int) (mv : Value) (zs : List Int) (w : World) (h : Pair B w b room ys mv zs) (hr : 0 < room) (i : Nat) (x : Int) (hx : ys[i]? = some x) :
    Calls Try.prog 15 #[.pointer (some ⟨b, 0, none⟩), .int .i64 i] w fun e w' => e = .returned (.tuple #[.int .i64 x, .int .i64 0]) ∧ w = w' := by
  obtain ⟨G, A, c, Gm, h1, _⟩ := h
  exact at_ok b room G ys i x w h1 hr hx
theorem dropR_no (B : Nat) (b : Nat) (room : Int) (ys : List Int) (mv : Value) (zs : List Int) (w : World) (h : Pair B w b room ys mv zs) (hr : 0 < room) (i : Int) (hi : i < 0 ∨ ys.length ≤ i) :
    Calls Try.prog 16 #[.pointer (some ⟨b, 0, none⟩), .int .i64 i] w fun e w' => e = .returned (.int .i64 7) ∧ w = w' := by
  obtain ⟨G, A, c, Gm, h1, _⟩ := h
  exact drop_no b room G ys i w h1 hr hi
theorem dropR (B : Nat) (b : Nat) (room : Int) (ys : List Int) (mv : Value) (zs : List Int) (w : World) (h : Pair B w b room ys mv zs) (hr : 0 < room) (k : Nat) (hk : k < ys.length) (hm : ys.length ≤ 10000) :
    Calls Try.prog 16 #[.pointer (some ⟨b, 0, none⟩), .int .i64 k] w fun e w' => e = .returned (.int .i64 0) ∧ Pair B w' b room (ys.take k ++ ys.drop (k + 1)) mv zs ∧ Below B w w' ∧ Keeps w w' b := by
  obtain ⟨G, A, c, Gm, h1, h2, h3, h4, rfl, h6, h7⟩ := h
  refine (drop_ok b room G ys k w h1 hr hk hm).mono ?_
  rintro e w' ⟨he, k1, k2⟩
  exact ⟨he, Pair.ring h1 h2 h3 h4 h6 h7 k1 k2 (Moved.refl _ _)⟩
theorem sameR (B : Nat) (b : Nat) (room : Int) (ys : List Int) (mv : Value) (zs : List Int) (w : World) (h : Pair B w b room ys mv zs) (hr : 0 < room) (heq : ys = zs) (hm : ys.length ≤ 10000) :
    Calls Try.prog 19 #[.pointer (some ⟨b, 0, none⟩), mv] w fun e w' => e = .returned (.bool true) ∧ Pair B w' b room ys mv zs ∧ Below B w w' ∧ Keeps w w' b := by
  have h0 := h
  subst heq
  obtain ⟨G, A, c, Gm, h1, h2, h3, h4, rfl, h6, h7⟩ := h
  have hc : Came1 .i64 w A ys := fun i hi => by
    obtain ⟨g, off, e1, e2, e3⟩ := h6.at_ (j := i) (u := .int .i64 (ys[i]?.getD 0)) (by rw [List.getElem?_map, List.getElem?_eq_getElem hi]; rfl)
    exact ⟨g, off, e1, h6.lt g e2, e3⟩
  refine (same_ok b room G ys A c w h1 hr hm hc).mono ?_
  rintro e w' ⟨he, hb⟩
  exact ⟨he, h0.later hb, hb.mono h3, .of_below hb⟩
end

theorem popR (B : Nat) (b : Nat) (room : Int) (x : Int) (ys : List Int) (mv : Value) (zs : List Int) (w : World) (h : Pair B w b room (x :: ys) mv zs) (hr : 0 < room) :
    Calls Try.prog 12 #[.pointer (some ⟨b, 0, none⟩)] w fun e w' => e = .returned (.tuple #[.int .i64 x, .int .i64 0]) ∧ Pair B w' b room ys mv zs ∧ Below B w w' ∧ Keeps w w' b := by
  obtain ⟨G, A, c, Gm, h1, h2, h3, h4, rfl, h6, h7⟩ := h
  refine (pop_ok b room G x ys w h1 hr).mono ?_
  rintro e w' ⟨he, k1, k2⟩
  exact ⟨he, Pair.ring h1 h2 h3 h4 h6 h7 k1 k2 (Moved.refl _ _)⟩

section
theorem atM_ok (B : Nat) (b : Nat) (room : Int) (ys : List Int) (mv : Value) (zs : List Int) (w : World) (h : Pair B w b room ys mv zs) (i : Nat) (y : Int) (hy : zs[i]? = some y) :
    Calls Try.prog 13 #[mv, .int .i64 i] w fun e w' => e = .returned (.tuple #[.int .i64 y, .int .i64 0]) ∧ w = w' := by
  obtain ⟨G, A, c, Gm, h1, h2, h3, h4, rfl, h6, h7⟩ := h
  exact refAt_ok A c zs Gm i y w h6 hy
theorem atM_no (B : Nat) (b : Nat) (room : Int) (ys : List Int) (mv : Value) (zs : List Int) (w : World) (h : Pair B w b room ys mv zs) (i : Int) (hi : i < 0 ∨ zs.length ≤ i) :
    Calls Try.prog 13 #[mv, .int .i64 i] w fun e w' => e = .returned (.tuple #[.int .i64 0, .int .i64 7]) ∧ w = w' := by
  obtain ⟨G, A, c, Gm, h1, h2, h3, h4, rfl, h6, h7⟩ := h
  exact refAt_no A c zs.length i w hi
theorem dropM_no (B : Nat) (b : Nat) (room : Int) (ys : List Int) (mv : Value) (zs : List Int) (w : World) (h : Pair B w b room ys mv zs) (i : Int) (hi : i < 0 ∨ zs.length ≤ i) :
    Calls Try.prog 14 #[mv, .int .i64 i] w fun e w' => e = .returned (.tuple #[mv, .int .i64 7]) ∧ w = w' := by
  obtain ⟨G, A, c, Gm, h1, h2, h3, h4, rfl, h6, h7⟩ := h
  exact refDrop_no A c zs.length i w hi
theorem dropM (B : Nat) (b : Nat) (room : Int) (ys : List Int) (mv : Value) (zs : List Int) (w : World) (h : Pair B w b room ys mv zs) (q : Nat) (hq : q < zs.length) (hm : zs.length ≤ 10000) :
    Calls Try.prog 14 #[mv, .int .i64 q] w fun e w' => ∃ v, e = .returned (.tuple #[v, .int .i64 0]) ∧ Pair B w' b room ys v (zs.take q ++ zs.drop (q + 1)) ∧ Below B w w' ∧ Keeps w w' b := by
  have h0 := h
  obtain ⟨G, A, c, Gm, h1, h2, h3, h4, rfl, h6, h7⟩ := h
  refine (refDrop_ok A c zs Gm q w h6 hq hm).mono ?_
  rintro e w' ⟨v, he, k1, k2⟩
  exact ⟨v, he, h0.list k1 k2⟩
theorem pushM_full (B : Nat) (b : Nat) (room : Int) (ys : List Int) (mv : Value) (zs : List Int) (w : World) (h : Pair B w b room ys mv zs) (r x : Int) (hl : r ≤ zs.length) :
    Calls Try.prog 17 #[mv, .int .i64 r, .int .i64 x] w fun e w' => e = .returned (.tuple #[mv, .int .i64 6]) ∧ w = w' := by
  obtain ⟨G, A, c, Gm, h1, h2, h3, h4, rfl, h6, h7⟩ := h
  exact refPush_full A c zs.length r x w hl
theorem pushM (B : Nat) (b : Nat) (room : Int) (ys : List Int) (mv : Value) (zs : List Int) (w : World) (h : Pair B w b room ys mv zs) (r x : Int) (hl : (zs.length : Int) < r) (hm : zs.length ≤ 10000) :
    Calls Try.prog 17 #[mv, .int .i64 r, .int .i64 x] w fun e w' => ∃ v, e = .returned (.tuple #[v, .int .i64 0]) ∧ Pair B w' b room ys v (zs ++ [x]) ∧ Below B w w' ∧ Keeps w w' b := by
  have h0 := h
  obtain ⟨G, A, c, Gm, h1, h2, h3, h4, rfl, h6, h7⟩ := h
  refine (refPush_ok A c zs Gm r x w h6 hl hm).mono ?_
  rintro e w' ⟨v, he, k1, k2⟩
  exact ⟨v, he, h0.list k1 k2⟩
end
end Go.Proofs.Ytbdejcmlcjljkaa
