/-
  Layer 18 in memory: a letter, the document's air, a call, as cells; an air: its array, its rings, their letters, the letters' bytes. No condition.
-/
import Derived.Test.YtcfdfimkgehdfaaOuts
import Derived.Test.YtcfdfimkgehdfaaBcl
import Derived.Test.YtcfdfimkgehdfaaAiM
import Derived.Test.YtcfdfimkgehdfaaMemB
set_option linter.unusedVariables false
set_option linter.unusedSimpArgs false
set_option linter.unusedSectionVars false
namespace Go.Proofs.Ytcfdfimkgehdfaa
open Go.RowKit

/-- A letter in memory. -/
structure Lm where
  fr : Nat
  to : Nat
  b : List UInt8
  A : Option Addr
  n : Nat
  c : Nat
def Lm.lt (x : Lm) : Lt := ⟨x.fr, x.to, x.b⟩
def lA (x : Lm) : Array Value := #[.int .u8 (x.fr : Int), .int .u8 (x.to : Int), .slice x.A x.n x.c]
def lcl (x : Lm) : List Value := (lA x).toList
def zeroL : Lm := ⟨0, 0, [], none, 0, 0⟩
/-- The document's air. -/
structure Cm where
  a : Option Addr
  n : Nat
  c : Nat
  rm : Int
def cA (x : Cm) : Array Value := #[.slice x.a x.n x.c, .int .i64 x.rm]
def zeroC : Cm := ⟨none, 0, 0, 0⟩
/-- A ring's struct. -/
structure Gm where
  rm : Nat
  a : Option Addr
  n : Nat
  c : Nat
def gA (x : Gm) : Array Value := #[.int .i64 (x.rm : Int), .slice x.a x.n x.c]
/-- A call. -/
structure Xm where
  kd : Nat
  fr : Nat
  to : Nat
  b : List UInt8
  A : Option Addr
  n : Nat
  c : Nat
  at_ : Int
  pl : Nat
  by_ : UInt8
def xA (x : Xm) : Array Value := #[.int .u8 (x.kd : Int), .int .u8 (x.fr : Int), .int .u8 (x.to : Int), .slice x.A x.n x.c, .int .i64 x.at_, .int .u16 (x.pl : Int), .int .u8 (x.by_.toNat : Int)]
def xcl (x : Xm) : List Value := (xA x).toList
def Xm.ax (x : Xm) : Ax := ⟨x.kd, x.fr, x.to, x.b, x.at_, x.pl, x.by_⟩
theorem lA_one (x : Lm) : (lA x).all (·.oneCell') = true := by simp [lA, Value.oneCell']
theorem cA_one (x : Cm) : (cA x).all (·.oneCell') = true := by simp [cA, Value.oneCell']
theorem xA_one (x : Xm) : (xA x).all (·.oneCell') = true := by simp [xA, Value.oneCell']
theorem lA_size (x : Lm) : (lA x).size = 3 := rfl
theorem cA_size (x : Cm) : (cA x).size = 2 := rfl
theorem gA_one (x : Gm) : (gA x).all (·.oneCell') = true := by simp [gA, Value.oneCell']
theorem gA_size (x : Gm) : (gA x).size = 2 := rfl
theorem gA_l (x : Gm) (A : Option Addr) (n c : Nat) : (gA x).setIfInBounds 1 (.slice A n c) = gA { x with a := A, n := n, c := c } := rfl
theorem xA_size (x : Xm) : (xA x).size = 7 := rfl
instance : Nonempty (EncOk lcl 3) := ⟨⟨fun _ => rfl, fun x => all_list (lA_one x), by omega⟩⟩
instance : Nonempty (EncOk xcl 7) := ⟨⟨fun _ => rfl, fun x => all_list (xA_one x), by omega⟩⟩
theorem Try.zLc : (Try.prog.info? 40).map (·.size) = some 3 := by kernel_rfl
theorem Try.zLr : (Try.prog.info? 45).map (·.size) = some 3 := by kernel_rfl
theorem Try.zCr : (Try.prog.info? 28).map (·.size) = some 2 := by kernel_rfl
theorem Try.zAx : (Try.prog.info? 33).map (·.size) = some 7 := by kernel_rfl
theorem one_i : (Try.prog.info? 3).map (·.size) = some 1 := by kernel_rfl
theorem one_u : (Try.prog.info? 5).map (·.size) = some 1 := by kernel_rfl
theorem one_by : (Try.prog.info? 30).map (·.size) = some 1 := by kernel_rfl
theorem one_row : (Try.prog.info? 134).map (·.size) = some 1 := by kernel_rfl
theorem one_rs : (Try.prog.info? 26).map (·.size) = some 1 := by kernel_rfl
theorem one_pt : (Try.prog.info? 51).map (·.size) = some 1 := by kernel_rfl
theorem zero_lc (V : World) : (zeroValue 40).run Try.prog V = .ok (.agg (lA zeroL)) V := Try.zeroValue40 V
theorem zero_lr (V : World) : (zeroValue 45).run Try.prog V = .ok (.agg (lA zeroL)) V := Try.zeroValue45 V
theorem zero_cr (V : World) : (zeroValue 28).run Try.prog V = .ok (.agg (cA zeroC)) V := Try.zeroValue28 V
theorem Try.infoL : (Try.prog.info? 40).map (fun i => (i.zero, i.size, i.bytes)) = some (some (.agg (lA zeroL)), 3, 32) := by kernel_rfl
theorem Try.infoL2 : (Try.prog.info? 40).map (fun i => (i.zero, i.size)) = some (some (.agg (lA zeroL)), 3) := by kernel_rfl
theorem Try.infoR : (Try.prog.info? 45).map (fun i => (i.zero, i.size, i.bytes)) = some (some (.agg (lA zeroL)), 3, 32) := by kernel_rfl
theorem Try.infoR2 : (Try.prog.info? 45).map (fun i => (i.zero, i.size)) = some (some (.agg (lA zeroL)), 3) := by kernel_rfl
theorem Try.infoU : (Try.prog.info? 5).map (fun i => (i.zero, i.size, i.bytes)) = some (some (.int .u8 0), 1, 1) := by kernel_rfl
theorem Try.infoU2 : (Try.prog.info? 5).map (fun i => (i.zero, i.size)) = some (some (.int .u8 0), 1) := by kernel_rfl
theorem Try.sizeL (w : World) : (sizeOf 40).run Try.prog w = .ok 3 w := by kernel_rfl
/-- Structs that are built. -/
theorem built_l0 : Try.prog.built 40 [] = some (lA zeroL) := by kernel_rfl
theorem built_r0 : Try.prog.built 45 [] = some (lA zeroL) := by kernel_rfl
theorem built_l (f t : Nat) (A : Option Addr) (n c : Nat) (b : List UInt8) : Try.prog.built 40 [(0, .int .u8 (f : Int)), (1, .int .u8 (t : Int)), (2, .slice A n c)] = some (lA ⟨f, t, b, A, n, c⟩) := by kernel_rfl
theorem built_r (f t : Nat) (A : Option Addr) (n c : Nat) (b : List UInt8) : Try.prog.built 45 [(0, .int .u8 (f : Int)), (1, .int .u8 (t : Int)), (2, .slice A n c)] = some (lA ⟨f, t, b, A, n, c⟩) := by kernel_rfl
theorem built_l1 (t : Nat) : Try.prog.built 40 [(1, .int .u8 (t : Int))] = some (lA ⟨0, t, [], none, 0, 0⟩) := by kernel_rfl
theorem built_ring (r : Int) : Try.prog.built 136 [(0, .int .i64 r)] = some #[.int .i64 r, .slice none 0 0] := by kernel_rfl
/-- A cell that is written. -/
theorem lA_b (x : Lm) (b : List UInt8) (A : Option Addr) (n c : Nat) : (lA x).setIfInBounds 2 (.slice A n c) = lA { x with b := b, A := A, n := n, c := c } := rfl
theorem cA_l (x : Cm) (A : Option Addr) (n c : Nat) : (cA x).setIfInBounds 0 (.slice A n c) = cA { x with a := A, n := n, c := c } := rfl

/-! ### a ring of letters -/
/-- Block b is a ring with room for so many, of the letters L. -/
structure RG (w : World) (b room : Nat) (A : Option Addr) (n c : Nat) (L : List Lm) : Prop where
  box : CB w b 136 #[.int .i64 (room : Int), .slice A n c]
  row : RS w 40 lcl 3 A n c L
section
variable {w w' : World} {b room : Nat} {A : Option Addr} {n c : Nat} {L : List Lm}
theorem RG.keep (h : RG w b room A n c L) (hk : ∀ i, i = b ∨ InB A i → w'.heap[i]? = w.heap[i]?) : RG w' b room A n c L := ⟨CB.same h.box (hk b (.inl rfl)), h.row.keepB fun g hg => hk g (.inr hg)⟩
theorem RG.lt (h : RG w b room A n c L) {i : Nat} (hi : i = b ∨ InB A i) : i < w.heap.size := by
  rcases hi with rfl | hi
  · exact h.box.lt
  · exact h.row.ltB hi
theorem RG.on (h : RG w b room A n c L) (hb : Below w.heap.size w w') : RG w' b room A n c L := h.keep fun i hi => hb.block i (h.lt hi)
theorem RG.drew (h : RG w b room A n c L) : RG w.drew b room A n c L := ⟨h.box.drew, h.row.drew⟩
theorem RG.len (h : RG w b room A n c L) : L.length = n := h.row.len
end
/-! ### an air -/
/-- An air: the array in block ba, its rings, their slices, their letters. -/
structure AS (w : World) (ba room : Nat) (rb : Nat → Nat) (sl : Nat → Option Addr × Nat × Nat) (Ls : Nat → List Lm) : Prop where
  arr : AN w ba 54 17 (fun i => .pointer (some ⟨rb i, 0, none⟩))
  ring : ∀ t, t < 17 → RG w (rb t) room (sl t).1 (sl t).2.1 (sl t).2.2 (Ls t)
  byt : ∀ t, t < 17 → ∀ x ∈ Ls t, RS w 5 bcl 1 x.A x.n x.c x.b
  inj : ∀ s t, s < 17 → t < 17 → rb s = rb t → s = t
  apS : ∀ s t, s < 17 → t < 17 → ¬ s = t → ∀ g, InB (sl s).1 g → ¬ InB (sl t).1 g
  apB : ∀ (s t i j : Nat) (x y : Lm), s < 17 → t < 17 → (Ls s)[i]? = some x → (Ls t)[j]? = some y → ¬ (s = t ∧ i = j) → ∀ g, InB x.A g → ¬ InB y.A g
/-- An air's own blocks. -/
def OwnA (ba : Nat) (rb : Nat → Nat) (sl : Nat → Option Addr × Nat × Nat) (Ls : Nat → List Lm) (i : Nat) : Prop :=
  i = ba ∨ ∃ t, t < 17 ∧ (i = rb t ∨ InB (sl t).1 i ∨ ∃ x ∈ Ls t, InB x.A i)
/-- The pointer ba is to an air of the letters Q, that hangs on the blocks of S alone. -/
structure AM (S : Nat → Prop) (ba room : Nat) (Q : Qs) (w : World) : Prop where
  ex : ∃ rb sl Ls, AS w ba room rb sl Ls ∧ (∀ t, t < 17 → (Ls t).map Lm.lt = Q t) ∧ ∀ i, OwnA ba rb sl Ls i → S i
  rm : 1 ≤ room ∧ room ≤ 1000
  ok : Roomy room Q
theorem AN.keep {w w' : World} {g : Nat} {t : TypeId} {N : Nat} {f : Nat → Value} (h : AN w g t N f) (e : w'.heap[g]? = w.heap[g]?) : AN w' g t N f := h.same e
section
variable {w w' : World} {ba room : Nat} {rb : Nat → Nat} {sl : Nat → Option Addr × Nat × Nat} {Ls : Nat → List Lm}
theorem AS.keep (h : AS w ba room rb sl Ls) (hk : ∀ i, OwnA ba rb sl Ls i → w'.heap[i]? = w.heap[i]?) : AS w' ba room rb sl Ls :=
  ⟨h.arr.same (hk _ (.inl rfl)), fun t ht => (h.ring t ht).keep fun i hi => hk i (.inr ⟨t, ht, hi.elim .inl (fun e => .inr (.inl e))⟩), fun t ht x hx => (h.byt t ht x hx).keepB fun g hg => hk g (.inr ⟨t, ht, .inr (.inr ⟨x, hx, hg⟩)⟩), h.inj, h.apS, h.apB⟩
theorem AS.lt (h : AS w ba room rb sl Ls) {i : Nat} (hi : OwnA ba rb sl Ls i) : i < w.heap.size := by
  rcases hi with rfl | ⟨t, ht, rfl | hi | ⟨x, hx, hi⟩⟩
  · exact h.arr.lt
  · exact (h.ring t ht).box.lt
  · exact (h.ring t ht).row.ltB hi
  · exact (h.byt t ht x hx).ltB hi
end
theorem AM.keep {S : Nat → Prop} {ba room : Nat} {Q : Qs} {w w' : World} (h : AM S ba room Q w) (hk : ∀ i, S i → w'.heap[i]? = w.heap[i]?) : AM S ba room Q w' := by
  obtain ⟨⟨rb, sl, Ls, h1, h2, h3⟩, h4, h5⟩ := h
  exact ⟨⟨rb, sl, Ls, h1.keep fun i hi => hk i (h3 i hi), h2, h3⟩, h4, h5⟩
/-- .. as a thing. -/
def AO (S : Nat → Prop) (ba room : Nat) (Q : Qs) (w : World) : Prop := Ob S (AM S ba room Q) w
theorem AO.of {S : Nat → Prop} {ba room : Nat} {Q : Qs} {w : World} (h : AM S ba room Q w) (hl : ∀ i, S i → i < w.heap.size) : AO S ba room Q w := ⟨h, hl, fun _ _ hk _ hx => hx.keep hk⟩
/-- .. that hangs on just its own blocks. -/
theorem AO.own {ba room : Nat} {rb : Nat → Nat} {sl : Nat → Option Addr × Nat × Nat} {Ls : Nat → List Lm} {Q : Qs} {w : World} (h : AS w ba room rb sl Ls) (hq : ∀ t, t < 17 → (Ls t).map Lm.lt = Q t) (h4 : 1 ≤ room ∧ room ≤ 1000) (h5 : Roomy room Q) :
    AO (OwnA ba rb sl Ls) ba room Q w := AO.of ⟨⟨rb, sl, Ls, h, hq, fun _ hi => hi⟩, h4, h5⟩ fun _ hi => h.lt hi
/-- A function that is another one at t. -/
def up {α : Type} (F : Nat → α) (t : Nat) (v : α) : Nat → α := fun i => if i = t then v else F i
theorem up_same {α : Type} (F : Nat → α) (t : Nat) (v : α) : up F t v t = v := if_pos rfl
theorem up_other {α : Type} (F : Nat → α) {t s : Nat} (v : α) (h : ¬ s = t) : up F t v s = F s := if_neg h
/-- The blocks that letters to t have no part in. -/
def Rest (ba t : Nat) (rb : Nat → Nat) (sl : Nat → Option Addr × Nat × Nat) (Ls : Nat → List Lm) (i : Nat) : Prop :=
  i = ba ∨ ∃ s, s < 17 ∧ ¬ s = t ∧ (i = rb s ∨ InB (sl s).1 i ∨ ∃ x ∈ Ls s, InB x.A i)
section
variable {w w' : World} {ba room : Nat} {rb : Nat → Nat} {sl : Nat → Option Addr × Nat × Nat} {Ls : Nat → List Lm}
theorem AN.cb {w : World} {g : Nat} {t : TypeId} {N : Nat} {f : Nat → Value} (h : AN w g t N f) : ∃ cs, CB w g t cs := by obtain ⟨cs, h1, _⟩ := h; exact ⟨cs, h1⟩
theorem AS.rest (h : AS w ba room rb sl Ls) {t : Nat} (ht : t < 17) {i : Nat} (hi : Rest ba t rb sl Ls i) : i < w.heap.size ∧ ¬ i = rb t ∧ ¬ InB (sl t).1 i ∧ ∀ x ∈ Ls t, ¬ InB x.A i := by
  obtain ⟨cs, hcs⟩ := h.arr.cb
  have hr := h.ring t ht
  rcases hi with rfl | ⟨s, hs, hne, rfl | hi | ⟨x, hx, hi⟩⟩
  · exact ⟨h.arr.lt, hcs.ne_ hr.box (by decide), fun e => hr.row.neB e hcs (by decide) rfl, fun x hx e => (h.byt t ht x hx).neB e hcs (by decide) rfl⟩
  · exact ⟨(h.ring s hs).box.lt, fun e => hne (h.inj s t hs ht e), fun e => hr.row.neB e (h.ring s hs).box (by decide) rfl, fun x hx e => (h.byt t ht x hx).neB e (h.ring s hs).box (by decide) rfl⟩
  · exact ⟨(h.ring s hs).row.ltB hi, (h.ring s hs).row.neB hi hr.box (by decide), h.apS s t hs ht hne i hi, fun x hx e => (h.byt t ht x hx).apB (h.ring s hs).row (by decide) e hi⟩
  · refine ⟨(h.byt s hs x hx).ltB hi, (h.byt s hs x hx).neB hi hr.box (by decide), (h.byt s hs x hx).apB hr.row (by decide) hi, fun y hy e => ?_⟩
    obtain ⟨a, ha⟩ := List.mem_iff_getElem?.1 hx
    obtain ⟨b, hb⟩ := List.mem_iff_getElem?.1 hy
    exact h.apB s t a b x y hs ht ha hb (fun e => hne e.1) i hi e
theorem AS.upd (h : AS w ba room rb sl Ls) {t : Nat} (ht : t < 17) {A : Option Addr} {n c : Nat} {L : List Lm} (hs : w.heap.size ≤ w'.heap.size) (hr : RG w' (rb t) room A n c L) (hb : ∀ x ∈ L, RS w' 5 bcl 1 x.A x.n x.c x.b)
    (hk : ∀ i, Rest ba t rb sl Ls i → w'.heap[i]? = w.heap[i]?) (hS : ∀ g, InB A g → InB (sl t).1 g ∨ w.heap.size ≤ g) (hB : ∀ x ∈ L, ∀ g, InB x.A g → (∃ y ∈ Ls t, InB y.A g) ∨ w.heap.size ≤ g)
    (ha : ∀ (i j : Nat) (x y : Lm), L[i]? = some x → L[j]? = some y → ¬ i = j → ∀ g, InB x.A g → ¬ InB y.A g) :
    AS w' ba room rb (up sl t (A, n, c)) (up Ls t L) ∧ ∀ i, OwnA ba rb (up sl t (A, n, c)) (up Ls t L) i → OwnA ba rb sl Ls i ∨ w.heap.size ≤ i := by
  have hR := fun {i} => h.rest (t := t) ht (i := i)
  refine ⟨⟨h.arr.same (hk _ (.inl rfl)), fun s hs2 => ?_, fun s hs2 x hx => ?_, h.inj, fun s r hs2 hr2 hne g => ?_, fun s r i j x y hs2 hr2 hx hy hne g => ?_⟩, fun i hi => ?_⟩
  · by_cases e : s = t
    · subst e; rw [up_same, up_same]; exact hr
    · rw [up_other _ _ e, up_other _ _ e]
      exact (h.ring s hs2).keep fun i hi => hk i (.inr ⟨s, hs2, e, hi.elim .inl (fun e => .inr (.inl e))⟩)
  · by_cases e : s = t
    · subst e; rw [up_same] at hx; exact hb x hx
    · rw [up_other _ _ e] at hx
      exact (h.byt s hs2 x hx).keepB fun g hg => hk g (.inr ⟨s, hs2, e, .inr (.inr ⟨x, hx, hg⟩)⟩)
  · by_cases e : s = t
    · by_cases e2 : r = t
      · exact absurd (e.trans e2.symm) hne
      · subst e
        rw [up_same, up_other _ _ e2]
        intro hg hg2
        rcases hS g hg with h1 | h1
        · exact h.apS r s hr2 hs2 e2 g hg2 h1
        · have := (h.ring r hr2).row.ltB hg2; omega
    · by_cases e2 : r = t
      · subst e2
        rw [up_same, up_other _ _ e]
        intro hg hg2
        rcases hS g hg2 with h1 | h1
        · exact h.apS s r hs2 hr2 e g hg h1
        · have := (h.ring s hs2).row.ltB hg; omega
      · rw [up_other _ _ e, up_other _ _ e2]; exact h.apS s r hs2 hr2 hne g
  · by_cases e : s = t
    · by_cases e2 : r = t
      · subst e e2
        rw [up_same] at hx hy
        exact ha i j x y hx hy (fun e => hne ⟨rfl, e⟩) g
      · subst e
        rw [up_same] at hx
        rw [up_other _ _ e2] at hy
        intro hg hg2
        have hy2 := List.mem_of_getElem? hy
        rcases hB x (List.mem_of_getElem? hx) g hg with ⟨z, hz, h1⟩ | h1
        · exact (hR (.inr ⟨r, hr2, e2, .inr (.inr ⟨y, hy2, hg2⟩)⟩)).2.2.2 z hz h1
        · have := (h.byt r hr2 y hy2).ltB hg2; omega
    · rw [up_other _ _ e] at hx
      have hx2 := List.mem_of_getElem? hx
      by_cases e2 : r = t
      · subst e2
        rw [up_same] at hy
        intro hg hg2
        rcases hB y (List.mem_of_getElem? hy) g hg2 with ⟨z, hz, h1⟩ | h1
        · exact (hR (.inr ⟨s, hs2, e, .inr (.inr ⟨x, hx2, hg⟩)⟩)).2.2.2 z hz h1
        · have := (h.byt s hs2 x hx2).ltB hg; omega
      · rw [up_other _ _ e2] at hy
        exact h.apB s r i j x y hs2 hr2 hx hy hne g
  · rcases hi with rfl | ⟨s, hs2, hi⟩
    · exact .inl (.inl rfl)
    · by_cases e : s = t
      · subst e
        rw [up_same, up_same] at hi
        rcases hi with rfl | hi | ⟨x, hx, hi⟩
        · exact .inl (.inr ⟨s, hs2, .inl rfl⟩)
        · rcases hS i hi with h1 | h1
          · exact .inl (.inr ⟨s, hs2, .inr (.inl h1)⟩)
          · exact .inr h1
        · rcases hB x hx i hi with h1 | h1
          · exact .inl (.inr ⟨s, hs2, .inr (.inr h1)⟩)
          · exact .inr h1
      · rw [up_other _ _ e, up_other _ _ e] at hi
        exact .inl (.inr ⟨s, hs2, hi⟩)
end
theorem up_map {Ls : Nat → List Lm} {Q : Qs} {t : Nat} {L : List Lm} {l : List Lt} (hq : ∀ t, t < 17 → (Ls t).map Lm.lt = Q t) (hl : L.map Lm.lt = l) : ∀ s, s < 17 → (up Ls t L s).map Lm.lt = updQ Q t l s := by
  intro s hs
  by_cases e : s = t
  · subst e; rw [up_same, updQ_same, hl]
  · rw [up_other _ _ e, updQ_other _ _ e, hq s hs]
end Go.Proofs.Ytcfdfimkgehdfaa
