/-
  A range over a method value whose iterator goes through a map, in whatever order: one law for the statement, told by the list of what has come. Conditions: what each theorem names; a body that is left early, panics or defers is not spoken of.
-/
import Derived.Test.YtmghckddofefkaaRange
import Derived.Test.YtmghckddofefkaaCellM
namespace Go.Proofs.Ytmghckddofefkaa
open Go.RowKit

/-- W' is W but for iterators over maps, none of them below B, and new blocks. -/
structure Mur (B : Nat) (W W' : World) : Prop where
  os : W'.os = W.os
  tape : W'.tape = W.tape
  output : W'.output = W.output
  size : W.heap.size ≤ W'.heap.size
  block : ∀ g, g < W.heap.size → (g < B ∨ ∀ m s sn c, W.heap[g]? ≠ some (.mapIter m s sn c)) → W'.heap[g]? = W.heap[g]?

theorem Mur.mono {B B' : Nat} {W W' : World} (h : Mur B' W W') (hB : B ≤ B') : Mur B W W' := ⟨h.os, h.tape, h.output, h.size, fun g hg hh => h.block g hg (hh.imp (fun h => Nat.lt_of_lt_of_le h hB) id)⟩
theorem Mur.below {B B' : Nat} {w W W' : World} (h : Mur B' W W') (hb : Below B w W) (hB : B ≤ B') (hs : B ≤ W.heap.size) : Below B w W' :=
  ⟨h.os.trans hb.os, h.tape.trans hb.tape, h.output.trans hb.output, Nat.le_trans hb.size h.size, fun g hg => (h.block g (Nat.lt_of_lt_of_le hg hs) (.inl (by omega))).trans (hb.block g hg)⟩

/-- The iterators over maps are where they were. -/
def KI (W W' : World) : Prop := ∀ (g : Nat) (m : Option Nat) (s : Nat) (sn : Array Nat) (c : Nat), W.heap[g]? = some (Obj.mapIter m s sn c) → W'.heap[g]? = some (Obj.mapIter m s sn c)

theorem KI.refl (W : World) : KI W W := fun _ _ _ _ _ h => h
theorem KI.trans {X Y Z : World} (h : KI X Y) (k : KI Y Z) : KI X Z := fun g m s sn c hh => k g m s sn c (h g m s sn c hh)
theorem KI.putObj {X Y : World} (h : KI X Y) {L : Nat} (hL : Book Y L) (o : Obj) : KI X (Y.putObj L o) := fun g m s sn c hh => by
  have h1 := h g m s sn c hh
  refine (World.putObj_heap_other ?_).trans h1
  rintro rfl
  rcases hL with ⟨r, hl⟩ | ⟨d, hl⟩ <;> (rw [h1] at hl; cases hl)
theorem KI.put {X : World} {L : Nat} (hL : Book X L) (o : Obj) : KI X (X.putObj L o) := (KI.refl X).putObj hL o
theorem KI.alloc {X Y : World} (h : KI X Y) (o : Obj) : KI X (Y.alloc o) := fun g m s sn c hh => by
  have h1 := h g m s sn c hh
  exact (Below.heap_alloc Y o g (Array.getElem?_eq_some_iff.1 h1).1).trans h1
theorem KI.grown {X Y Z : World} {G : Option Nat} (h : KI X Y) (hg : Y.grownBy Z G) (hG : ∀ g, G = some g → ∀ m s sn c, Y.heap[g]? ≠ some (.mapIter m s sn c)) : KI X Z := fun g m s sn c hh => by
  have h1 := h g m s sn c hh
  exact (hg.block g (Array.getElem?_eq_some_iff.1 h1).1 (fun e => hG g e.symm m s sn c h1)).trans h1
theorem KI.setCell {X Y : World} (h : KI X Y) {p : Addr} (hp : ∀ m s sn c, Y.heap[p.block]? ≠ some (.mapIter m s sn c)) (u : Value) : KI X (Y.setCell p u) := fun g m s sn c hh => by
  have h1 := h g m s sn c hh
  exact (Below.heap_setCell Y p u g (fun e => hp m s sn c (e ▸ h1))).trans h1

/-- An iterator that goes through the entries of L, in whatever order, as long as Need holds between the rounds. -/
def IterM {V : Type} (P : Program) (gf : Nat) (mk : Value → Array Value) (L : List (Int × V)) (enc : Int × V → Array Value) (Need : World → Prop) : Prop :=
  ∀ (l : Nat) (J : List (Int × V) → World → Prop) (W : World), (∀ s W1, J s W1 → Need W1) → (∀ s W1 W2, J s W1 → Mur W.heap.size W1 W2 → J s W2) →
    (∀ s p W1, Apart (s ++ [p]) → (∀ x ∈ s ++ [p], x ∈ L) → J s W1 → YieldAt Fence.wide 0 P l (enc p) W1 fun e W' => e = .returned (.bool true) ∧ J (s ++ [p]) W' ∧ KI W1 W') →
    J [] W → CallsIn Fence.wide 0 P gf (mk (.func (.yield l) #[] #[])) W fun e W' => (∃ v, e = .returned v) ∧ ∃ s, Apart s ∧ s.Perm L ∧ J s W'

/-- How a round's body is left: by its end. -/
def RoundEndM {V : Type} (B : Nat) (I : List (Int × V) → World → Prop) (s : List (Int × V)) (W : World) : Exit → Act → World → Prop
  | .normal, _, W' => Keep2 B W W' ∧ I s W' ∧ KI W W'
  | _, _, _ => False

theorem range_law_m {V : Type} {P : Program} {g : Operand} {ps : Array Tmp} {assign body : Code} {Q : Exit → Act → World → Prop} {a : Act} {w : World}
    {gf : Nat} {fb : Array Value} (hg : a.eval g = .func (.func gf) fb #[]) (eg : ∀ args w, (callFunc gf args).run P w = .ok (.enter gf args) w)
    {L : List (Int × V)} {enc : Int × V → Array Value} {Need : World → Prop} (hit : IterM P gf (fun y => fb ++ #[y]) L enc Need) (hps : ∀ p, (enc p).size = ps.size)
    (I : List (Int × V) → World → Prop) (hN : ∀ s W, I s W → Need W)
    (hI : ∀ s W o, I s W → Book W (w.heap.size + 1) → I s (W.putObj (w.heap.size + 1) (.loop o)))
    (hM : ∀ s W W', I s W → Mur w.heap.size W W' → I s W')
    (h0 : ∀ r, I [] ((w.alloc (.deferred (some []))).alloc (.loop r)))
    (a₁ : Int × V → Act)
    (hassign : ∀ (l : Nat) (p : Int × V) (W : World) (K : Act → World → Prop), K (a₁ p) W →
      assign.wpIn (Fence.wide.inRound l) 0 P (Exit.then K (fun _ _ _ => False)) { tmps := (ps.zip (enc p)).foldl (fun t (p, v) => t.setIfInBounds p v) a.tmps, defers := [] } W)
    (hbody : ∀ (l : Nat) (s : List (Int × V)) (p : Int × V) (W : World), Apart (s ++ [p]) → (∀ x ∈ s ++ [p], x ∈ L) → I s W → Book W w.heap.size → Book W (w.heap.size + 1) → body.wpIn (Fence.wide.inRound l) 0 P (RoundEndM w.heap.size I (s ++ [p]) W) (a₁ p) W)
    (hdone : ∀ s W, Apart s → s.Perm L → I s W → W.heap[w.heap.size]? = some (.deferred (some [])) → Q .normal { a with defers := { target := .collected w.heap.size, args := #[] } :: a.defers } W) :
    (Code.rangeFunc g ps assign body).wpIn Fence.wide 0 P Q a w := by
  refine wpIn_rangeFunc fun fn hfn => ?_
  let R : LoopState → Option Code → Loop := fun st pe => { state := st, pending := pe, fn, tmps := a.tmps, params := ps, assign, body, defers := w.heap.size }
  obtain ⟨W1, hW1⟩ : ∃ W1, W1 = (w.alloc (.deferred (some []))).alloc (.loop (R .ready none)) := ⟨_, rfl⟩
  have hD1 : W1.heap[w.heap.size]? = some (.deferred (some [])) := by
    rw [hW1, Below.heap_alloc _ _ _ (by simp)]
    exact World.alloc_heap_new w _
  have hL1 : W1.heap[w.heap.size + 1]? = some (.loop (R .ready none)) := by
    rw [hW1]
    have := World.alloc_heap_new (w.alloc (.deferred (some []))) (.loop (R .ready none))
    rwa [World.size_alloc] at this
  have hI1 : I [] W1 := by rw [hW1]; exact h0 _
  refine ⟨w.heap.size + 1, [{ target := .collected w.heap.size, args := #[] }], W1, { target := .fn (.func gf) #[], args := fb ++ #[.func (.yield (w.heap.size + 1)) #[] #[]] }, W1, gf,
    fb ++ #[.func (.yield (w.heap.size + 1)) #[] #[]], W1, ?_, ?_, fun _ _ => trivial, ?_, fun h => by simp [Fence.wide] at h, ?_⟩
  · rw [hW1]
    exact run_enterLoop_outer _ _ _ _ _
  · simp only [resolve, hg]
    simp [go_sem]
  · simp [invoke, go_sem, eg]
  · refine (hit (w.heap.size + 1)
      (fun s W => I s W ∧ W.heap[w.heap.size + 1]? = some (.loop (R .ready none)) ∧ W.heap[w.heap.size]? = some (.deferred (some [])))
      W1 (fun s W h => hN s W h.1) ?_ ?_ ⟨hI1, hL1, hD1⟩).mono ?_
    · rintro s Wa Wb ⟨hi, hl, hd⟩ hm
      refine ⟨hM s Wa Wb hi (hm.mono (by rw [hW1]; simp; omega)), (hm.block _ (Array.getElem?_eq_some_iff.1 hl).1 (.inr fun m s sn c e => ?_)).trans hl, (hm.block _ (Array.getElem?_eq_some_iff.1 hd).1 (.inr fun m s sn c e => ?_)).trans hd⟩
      · rw [hl] at e; cases e
      · rw [hd] at e; cases e
    · rintro s p W hap hsub ⟨hi, hl, hd⟩
      have hlt : w.heap.size + 1 < W.heap.size := (Array.getElem?_eq_some_iff.1 hl).1
      refine ⟨fn, _, assign, body, run_yield (P := P) (args := enc p) hl (hps p), roundIn_of_wpIn hfn (hassign _ p W _ ⟨_, run_beginRound hl rfl, ?_⟩)⟩
      have hl2 : (W.putObj (w.heap.size + 1) (.loop (R .busy none))).heap[w.heap.size + 1]? = some (.loop (R .busy none)) := World.putObj_heap_same hlt
      have hd2 : (W.putObj (w.heap.size + 1) (.loop (R .busy none))).heap[w.heap.size]? = some (.deferred (some [])) := (World.putObj_heap_other (by omega)).trans hd
      refine wpIn_mono (hbody _ s p _ hap hsub (hI s W _ hi (.inl ⟨_, hl⟩)) (.inr ⟨_, hd2⟩) (.inl ⟨_, hl2⟩)) ?_
      rintro e a3 W3 hp
      cases e with
      | normal =>
        obtain ⟨k2, hi3, hki⟩ := hp
        have hl3 : W3.heap[w.heap.size + 1]? = some (.loop (R .busy none)) := k2.2.trans hl2
        have f1 := run_endRound (P := P) none hl3
        refine ⟨_, _, f1, rfl, ⟨hI _ _ _ hi3 (.inl ⟨_, hl3⟩), World.putObj_heap_same (Array.getElem?_eq_some_iff.1 hl3).1, (World.putObj_heap_other (by omega)).trans (k2.1.trans hd2)⟩, ?_⟩
        exact ((KI.put (.inl ⟨_, hl⟩) _).trans hki).putObj (.inl ⟨_, hl3⟩) _
      | ret => exact hp.elim
      | exit id => exact hp.elim
      | goto t => exact hp.elim
      | panic ch => exact hp.elim
      | outgrown => exact hp.elim
    · rintro e W2 ⟨⟨v, rfl⟩, s, hap, hpm, hi, hl, hd⟩
      exact ⟨none, _, run_endLoop (P := P) hl (by simp [R]), hdone s _ hap hpm (hI _ _ _ hi (.inl ⟨_, hl⟩)) ((World.putObj_heap_other (by omega)).trans hd)⟩
end Go.Proofs.Ytmghckddofefkaa
