/-
  What has stayed but for some blocks; a thing in memory with the blocks that it hangs on, carried from world to world. No condition.
-/
import Derived.Test.YtfdboahcaiolgaaMgS
set_option linter.unusedVariables false
set_option linter.unusedSimpArgs false
set_option linter.unusedSectionVars false
namespace Go.Proofs.Ytfdboahcaiolgaa
open Go.RowKit

/-- All that was there is as it was but the blocks that S names. -/
structure Out (w w' : World) (S : Nat → Prop) : Prop where
  os : w'.os = w.os
  tape : w'.tape = w.tape
  output : w'.output = w.output
  size : w.heap.size ≤ w'.heap.size
  block : ∀ i, i < w.heap.size → ¬ S i → w'.heap[i]? = w.heap[i]?
section
variable {w w' w'' : World} {S S' : Nat → Prop}
theorem Out.refl (w : World) (S : Nat → Prop) : Out w w S := ⟨rfl, rfl, rfl, Nat.le_refl _, fun _ _ _ => rfl⟩
theorem Out.of (S : Nat → Prop) (h : Below w.heap.size w w') : Out w w' S := ⟨h.os, h.tape, h.output, h.size, fun i hi _ => h.block i hi⟩
theorem Out.tr (h : Out w w' S) (k : Below w'.heap.size w' w'') : Out w w'' S := ⟨k.os.trans h.os, k.tape.trans h.tape, k.output.trans h.output, Nat.le_trans h.size k.size, fun i hi hs => (k.block i (Nat.lt_of_lt_of_le hi h.size)).trans (h.block i hi hs)⟩
theorem Out.trans (h : Out w w' S) (k : Out w' w'' S') (hs : ∀ i, i < w.heap.size → S' i → S i) : Out w w'' S := ⟨k.os.trans h.os, k.tape.trans h.tape, k.output.trans h.output, Nat.le_trans h.size k.size, fun i hi hn => (k.block i (Nat.lt_of_lt_of_le hi h.size) (fun e => hn (hs i hi e))).trans (h.block i hi hn)⟩
theorem Out.mono (h : Out w w' S) (hs : ∀ i, i < w.heap.size → S i → S' i) : Out w w' S' := ⟨h.os, h.tape, h.output, h.size, fun i hi hn => h.block i hi (fun e => hn (hs i hi e))⟩
theorem Out.wr (h : Out w w' S) {g : Nat} (k : Wr w' w'' g) (hg : w.heap.size ≤ g) : Out w w'' S := by
  have hB := k.bel _ _ (Below.refl g w') (Nat.le_refl _)
  exact ⟨hB.os.trans h.os, hB.tape.trans h.tape, hB.output.trans h.output, by rw [k.size]; exact h.size, fun i hi hs => (k.far i (by omega)).trans (h.block i hi hs)⟩
theorem Out.wrS (h : Out w w' S) {g : Nat} (k : Wr w' w'' g) (hg : S g) : Out w w'' S := by
  have hB := k.bel _ _ (Below.refl g w') (Nat.le_refl _)
  exact ⟨hB.os.trans h.os, hB.tape.trans h.tape, hB.output.trans h.output, by rw [k.size]; exact h.size, fun i hi hs => (k.far i (fun e => hs (e ▸ hg))).trans (h.block i hi hs)⟩
theorem Out.grown (h : Out w w' S) {G : Option Nat} (k : w'.grownBy w'' G) (hG : ∀ g, G = some g → g < w.heap.size → S g) : Out w w'' S :=
  ⟨k.os.trans h.os, k.tape.trans h.tape, k.output.trans h.output, Nat.le_trans h.size k.size, fun i hi hs => (k.block i (Nat.lt_of_lt_of_le hi h.size) (fun e => hs (hG i e.symm hi))).trans (h.block i hi hs)⟩
theorem Out.below (h : Out w w' S) {B : Nat} (hB : B ≤ w.heap.size) (hs : ∀ i, S i → B ≤ i) : Below B w w' := ⟨h.os, h.tape, h.output, h.size, fun i hi => h.block i (by omega) (fun e => by have := hs i e; omega)⟩
theorem Out.drew (h : Out w.drew w' S) : Out w w' S := ⟨h.os, h.tape, h.output, h.size, h.block⟩
theorem Out.drewR (h : Out w w' S) : Out w w'.drew S := ⟨h.os, h.tape, h.output, h.size, h.block⟩
theorem Out.box (h : Out w w' S) {g : Nat} {T : TypeId} {cs : Array Value} (hc : CB w g T cs) (hs : ¬ S g) : CB w' g T cs := CB.same hc (h.block g hc.lt hs)
end
theorem Fr.upO {w V : World} {g : Nat} (h : Fr w V g) {a : World} {S : Nat → Prop} (ha : Out a w S) : a.heap.size ≤ g := by have := ha.size; have := h.at_; omega
/-- A thing X in the world W that hangs on the blocks of F alone. -/
structure Ob (F : Nat → Prop) (X : World → Prop) (W : World) : Prop where
  ok : X W
  lt : ∀ i, F i → i < W.heap.size
  st : ∀ V V', (∀ i, F i → V'.heap[i]? = V.heap[i]?) → V.heap.size ≤ V'.heap.size → X V → X V'
section
variable {F S S' : Nat → Prop} {X : World → Prop} {W V : World}
theorem Ob.to (h : Ob F X W) (hk : ∀ i, F i → V.heap[i]? = W.heap[i]?) (hs : W.heap.size ≤ V.heap.size) : Ob F X V := ⟨h.st W V hk hs h.ok, fun i hi => Nat.lt_of_lt_of_le (h.lt i hi) hs, h.st⟩
theorem Ob.on (h : Ob F X W) (hb : Below W.heap.size W V) : Ob F X V := h.to (fun i hi => hb.block i (h.lt i hi)) hb.size
theorem Ob.drew (h : Ob F X W) : Ob F X W.drew := h.to (fun _ _ => rfl) (Nat.le_refl _)
theorem Ob.wr (h : Ob F X W) {g : Nat} (k : Wr W V g) (hg : ¬ F g) : Ob F X V := h.to (fun i hi => k.far i (fun e => hg (e ▸ hi))) (by rw [k.size]; exact Nat.le_refl _)
theorem Ob.fresh (h : Ob F X W) {g : Nat} (hg : W.heap.size ≤ g) : ¬ F g := fun e => by have := h.lt g e; omega
theorem Ob.out (h : Ob F X W) (o : Out W V S) (hd : ∀ i, F i → ¬ S i) : Ob F X V := h.to (fun i hi => o.block i (h.lt i hi) (hd i hi)) o.size
theorem Ob.grow (h : Ob F X W) {G : Option Nat} (hg : W.grownBy V G) (hd : ∀ g, G = some g → ¬ F g) : Ob F X V := h.to (fun i hi => hg.block i (h.lt i hi) (fun e => hd i e.symm hi)) hg.size
/-- What grew by new blocks alone is still apart. -/
theorem Ob.far (h : Ob F X W) (hd : ∀ i, F i → ¬ S i) (hn : ∀ i, S' i → S i ∨ W.heap.size ≤ i) : ∀ i, F i → ¬ S' i := fun i hi hs => by
  rcases hn i hs with e | e
  · exact hd i hi e
  · have := h.lt i hi; omega
end
/-- .. that lies below world w's blocks. -/
structure Ol (w : World) (F : Nat → Prop) (X : World → Prop) (W : World) : Prop where
  ob : Ob F X W
  lo : ∀ i, F i → i < w.heap.size
section
variable {F : Nat → Prop} {X : World → Prop} {w W V : World}
theorem Ol.start (h : Ob F X w) : Ol w F X w := ⟨h, h.lt⟩
theorem Ol.on (h : Ol w F X W) (hb : Below W.heap.size W V) : Ol w F X V := ⟨h.ob.on hb, h.lo⟩
theorem Ol.drew (h : Ol w F X W) : Ol w F X W.drew := ⟨h.ob.drew, h.lo⟩
theorem Ol.wr (h : Ol w F X W) {g : Nat} (k : Wr W V g) (hg : w.heap.size ≤ g) : Ol w F X V := ⟨h.ob.wr k (fun e => by have := h.lo g e; omega), h.lo⟩
theorem Ol.grow (h : Ol w F X W) {G : Option Nat} (hg : W.grownBy V G) (hG : ∀ g, G = some g → w.heap.size ≤ g) : Ol w F X V := ⟨h.ob.grow hg (fun g e e2 => by have := h.lo g e2; have := hG g e; omega), h.lo⟩
end
/-- A block that a slice's address names. -/
def InB (A : Option Addr) (g : Nat) : Prop := ∃ off, A = some ⟨g, off, none⟩
section
variable {α : Type} {c : α → List Value} {s : Nat} [Nonempty (EncOk c s)] {W V : World} {T U : TypeId} {A : Option Addr} {n q : Nat} {L : List α} {G : Option Nat}
theorem seg_in {e : TypeId} {size : Nat} {xs : List Value} (h : Seg W e size A n q xs G) {g : Nat} : G = some g ↔ InB A g := by
  rcases h.2.2.2 with ⟨rfl, _, rfl⟩ | ⟨g', off, cur, rfl, rfl, _⟩
  · exact ⟨fun e => (by cases e), fun ⟨_, e⟩ => (by cases e)⟩
  · exact ⟨fun e => (by cases e; exact ⟨off, rfl⟩), fun ⟨_, e⟩ => (by cases e; rfl)⟩
theorem RS.keepB (h : RS W T c s A n q L) (hk : ∀ g, InB A g → V.heap[g]? = W.heap[g]?) : RS V T c s A n q L := by
  obtain ⟨G, h2⟩ := h
  exact ⟨G, h2.keep fun g hg => hk g ((seg_in h2).1 hg)⟩
theorem RS.ltB (h : RS W T c s A n q L) {g : Nat} (hg : InB A g) : g < W.heap.size := by
  obtain ⟨G, h2⟩ := h
  exact h2.lt g ((seg_in h2).2 hg)
theorem RS.neB (h : RS W T c s A n q L) {g b : Nat} {cs : Array Value} (hg : InB A g) (hc : CB W b U cs) (hne : T ≠ U) : g ≠ b := by
  obtain ⟨G, h2⟩ := h
  have := h2.ne_ hc hne
  rw [(seg_in h2).2 hg] at this
  exact fun e => this (by rw [e])
theorem RS.apB {β : Type} {c' : β → List Value} {s' : Nat} [Nonempty (EncOk c' s')] {A' : Option Addr} {n' q' : Nat} {L' : List β} (h : RS W T c s A n q L) (h' : RS W U c' s' A' n' q' L') (hne : T ≠ U) {g : Nat} (hg : InB A g) : ¬ InB A' g := by
  obtain ⟨G, h2⟩ := h
  obtain ⟨G', h3⟩ := h'
  intro hg'
  exact h2.apart h3 hne g ((seg_in h2).2 hg) ((seg_in h3).2 hg').symm
theorem SO.rs {N : Nat} (h : SO N W T c s A n q L G) : RS W T c s A n q L := ⟨G, h.seg⟩
theorem SO.in_ {N : Nat} (h : SO N W T c s A n q L G) {g : Nat} (hg : InB A g) : N ≤ g := h.hi g ((seg_in h.seg).2 hg)
theorem RS.so {N : Nat} (h : RS W T c s A n q L) (hi : ∀ g, InB A g → N ≤ g) : ∃ G, SO N W T c s A n q L G := by
  obtain ⟨G, h2⟩ := h
  exact ⟨G, h2, fun g e => hi g ((seg_in h2).1 e)⟩
/-- A slice of the block's type, as a thing. -/
theorem RS.ob (h : RS W T c s A n q L) : Ob (InB A) (fun V => RS V T c s A n q L) W := ⟨h, fun _ hg => h.ltB hg, fun _ _ hk _ hx => hx.keepB hk⟩
theorem CB.ob {g : Nat} {cs : Array Value} (h : CB W g U cs) : Ob (fun i => i = g) (fun V => CB V g U cs) W := ⟨h, fun i e => e ▸ h.lt, fun _ _ hk _ hx => CB.same hx (hk g rfl)⟩
/-- A slice that can be read, as a thing: it hangs on its block if it is not empty. -/
def InR (A : Option Addr) (n : Nat) (g : Nat) : Prop := InB A g ∧ 0 < n
theorem RR.ob (h : RR W c s A n q L) : Ob (InR A n) (fun V => RR V c s A n q L) W :=
  ⟨h, fun i hi => by obtain ⟨⟨off, e⟩, hn⟩ := hi; exact h.lt e hn, fun _ _ hk _ hx => hx.keep fun g off e hn _ => hk g ⟨⟨off, e⟩, hn⟩⟩
end
end Go.Proofs.Ytfdboahcaiolgaa
