/-
  A range over a closure (what it has captured rides along): one law for the statement, told by the number of rounds that are over; the round's variables may be boxed by the assignment's code; the iterator may draw. Conditions: what each theorem names; a body that panics or defers is not spoken of.
-/
import Derived.Test.YtfdboahcaiolgaaRange
namespace Go.Proofs.Ytfdboahcaiolgaa
open Go.RowKit

/-- An iterator that makes N rounds, the k-th with the values enc k, as long as Need holds between the rounds; or fewer, if a round has enough; it may draw. -/
def IterD (P : Program) (gf : Nat) (cb : Array Value) (N : Nat) (enc : Nat → Array Value) (Need : World → Prop) : Prop :=
  ∀ (l : Nat) (J : Nat → World → Prop) (Jx : World → Prop) (W : World), (∀ k W1, J k W1 → Need W1) → (∀ k W1, J k W1 → J k W1.drew) →
    (∀ k W1, k < N → J k W1 → YieldAt Fence.wide 0 P l (enc k) W1 fun e W' => (e = .returned (.bool true) ∧ J (k + 1) W') ∨ (e = .returned (.bool false) ∧ Jx W')) →
    J 0 W → CallsIn Fence.wide 0 P gf (#[.func (.yield l) #[] #[]] ++ cb) W fun e W' => (∃ v, e = .returned v) ∧ (J N W' ∨ Jx W')

theorem range_law_c {P : Program} {g : Operand} {ps : Array Tmp} {assign body : Code} {Q : Exit → Act → World → Prop} {a : Act} {w : World}
    {gf : Nat} {cb : Array Value} (hg : a.eval g = .func (.func gf) #[] cb) (eg : ∀ args w, (callFunc gf args).run P w = .ok (.enter gf args) w)
    {N : Nat} {enc : Nat → Array Value} {Need : World → Prop} (hit : IterD P gf cb N enc Need) (hps : ∀ k, (enc k).size = ps.size)
    (I : Nat → World → Prop) (Ix : Code → World → Prop) (hN : ∀ k W, I k W → Need W)
    (hI : ∀ k W o, I k W → Book W (w.heap.size + 1) → I k (W.putObj (w.heap.size + 1) (.loop o)))
    (hIx : ∀ c W o, Ix c W → Book W (w.heap.size + 1) → Ix c (W.putObj (w.heap.size + 1) (.loop o)))
    (hD : ∀ k W, I k W → I k W.drew)
    (h0 : ∀ r, I 0 ((w.alloc (.deferred (some []))).alloc (.loop r)))
    (Ax : Nat → Act → World → Prop) (hAx : ∀ k a' W o, Ax k a' W → Book W (w.heap.size + 1) → Ax k a' (W.putObj (w.heap.size + 1) (.loop o)))
    (hassign : ∀ (l k : Nat) (W : World) (K : Act → World → Prop), k < N → I k W → Book W w.heap.size → Book W (w.heap.size + 1) → (∀ a' W', Keep2 w.heap.size W W' → I k W' → Ax k a' W' → K a' W') →
      assign.wpIn (Fence.wide.inRound l) 0 P (Exit.then K (fun _ _ _ => False)) { tmps := (ps.zip (enc k)).foldl (fun t (p, v) => t.setIfInBounds p v) a.tmps, defers := [] } W)
    (hbody : ∀ (l k : Nat) (a' : Act) (W : World), k < N → I k W → Ax k a' W → Book W w.heap.size → Book W (w.heap.size + 1) → body.wpIn (Fence.wide.inRound l) 0 P (RoundEnd w.heap.size I Ix (k + 1) W) a' W)
    (hdone : ∀ W, I N W → W.heap[w.heap.size]? = some (.deferred (some [])) → Q .normal { a with defers := { target := .collected w.heap.size, args := #[] } :: a.defers } W)
    (hstop : ∀ c W, Ix c W → W.heap[w.heap.size]? = some (.deferred (some [])) → c.wpIn Fence.wide 0 P Q { a with defers := { target := .collected w.heap.size, args := #[] } :: a.defers } W) :
    (Code.rangeFunc g ps assign body).wpIn Fence.wide 0 P Q a w := by
  refine wpIn_rangeFunc fun fn hfn => ?_
  let R : LoopState → Option Code → Loop := fun st pe => { state := st, pending := pe, fn, tmps := a.tmps, params := ps, assign, body, defers := w.heap.size }
  have hbook : ∀ (W W' : World) (st : LoopState) (pe : Option Code), Keep2 w.heap.size W W' → W.heap[w.heap.size + 1]? = some (.loop (R st pe)) → W'.heap[w.heap.size + 1]? = some (.loop (R st pe)) := fun W W' st pe hk h => hk.2.trans h
  obtain ⟨W1, hW1⟩ : ∃ W1, W1 = (w.alloc (.deferred (some []))).alloc (.loop (R .ready none)) := ⟨_, rfl⟩
  have hD1 : W1.heap[w.heap.size]? = some (.deferred (some [])) := by
    rw [hW1, Below.heap_alloc _ _ _ (by simp)]
    exact World.alloc_heap_new w _
  have hL1 : W1.heap[w.heap.size + 1]? = some (.loop (R .ready none)) := by
    rw [hW1]
    have := World.alloc_heap_new (w.alloc (.deferred (some []))) (.loop (R .ready none))
    rwa [World.size_alloc] at this
  have hI1 : I 0 W1 := by rw [hW1]; exact h0 _
  refine ⟨w.heap.size + 1, [{ target := .collected w.heap.size, args := #[] }], W1, { target := .fn (.func gf) cb, args := #[.func (.yield (w.heap.size + 1)) #[] #[]] }, W1, gf,
    #[.func (.yield (w.heap.size + 1)) #[] #[]] ++ cb, W1, ?_, ?_, fun _ _ => trivial, ?_, fun h => by simp [Fence.wide] at h, ?_⟩
  · rw [hW1]
    exact run_enterLoop_outer _ _ _ _ _
  · simp only [resolve, hg]
    simp [go_sem]
  · simp [invoke, go_sem, eg]
  · refine (hit (w.heap.size + 1)
      (fun k W => I k W ∧ W.heap[w.heap.size + 1]? = some (.loop (R .ready none)) ∧ W.heap[w.heap.size]? = some (.deferred (some [])))
      (fun W => ∃ c, Ix c W ∧ W.heap[w.heap.size + 1]? = some (.loop (R .done (some c))) ∧ W.heap[w.heap.size]? = some (.deferred (some [])))
      W1 (fun k W h => hN k W h.1) (fun k W h => ⟨hD k W h.1, h.2.1, h.2.2⟩) ?_ ⟨hI1, hL1, hD1⟩).mono ?_
    · rintro k W hk ⟨hi0, hl0, hd0⟩
      refine ⟨fn, _, assign, body, run_yield (P := P) (args := enc k) hl0 (hps k), roundIn_of_wpIn hfn (hassign _ k W _ hk hi0 (.inr ⟨_, hd0⟩) (.inl ⟨_, hl0⟩) ?_)⟩
      intro a' W' hk2 hi hax
      have hl : W'.heap[w.heap.size + 1]? = some (.loop (R .ready none)) := hk2.2.trans hl0
      have hd : W'.heap[w.heap.size]? = some (.deferred (some [])) := hk2.1.trans hd0
      have hlt : w.heap.size + 1 < W'.heap.size := (Array.getElem?_eq_some_iff.1 hl).1
      clear hk2 hi0 hl0 hd0
      refine ⟨_, run_beginRound hl rfl, ?_⟩
      have hl2 : (W'.putObj (w.heap.size + 1) (.loop (R .busy none))).heap[w.heap.size + 1]? = some (.loop (R .busy none)) := World.putObj_heap_same hlt
      have hd2 : (W'.putObj (w.heap.size + 1) (.loop (R .busy none))).heap[w.heap.size]? = some (.deferred (some [])) := (World.putObj_heap_other (by omega)).trans hd
      refine wpIn_mono (hbody _ k a' _ hk (hI k W' _ hi (.inl ⟨_, hl⟩)) (hAx k a' W' _ hax (.inl ⟨_, hl⟩)) (.inr ⟨_, hd2⟩) (.inl ⟨_, hl2⟩)) ?_
      have fin : ∀ (jump : Option Code) (W3 : World), Keep2 w.heap.size (W'.putObj (w.heap.size + 1) (.loop (R .busy none))) W3 →
          (Instr.endRound (w.heap.size + 1) jump).run P W3 = .ok (.bool jump.isNone) (W3.putObj (w.heap.size + 1) (.loop (R (if jump.isNone then .ready else .done) jump))) ∧
          W3.heap[w.heap.size + 1]? = some (.loop (R .busy none)) ∧
          (W3.putObj (w.heap.size + 1) (.loop (R (if jump.isNone then .ready else .done) jump))).heap[w.heap.size + 1]? = some (.loop (R (if jump.isNone then .ready else .done) jump)) ∧
          (W3.putObj (w.heap.size + 1) (.loop (R (if jump.isNone then .ready else .done) jump))).heap[w.heap.size]? = some (.deferred (some [])) := by
        intro jump W3 hk3
        have hl3 := hbook _ _ _ _ hk3 hl2
        exact ⟨run_endRound (P := P) jump hl3, hl3, World.putObj_heap_same (Array.getElem?_eq_some_iff.1 hl3).1, (World.putObj_heap_other (by omega)).trans (hk3.1.trans hd2)⟩
      rintro e a3 W3 hp
      cases e with
      | normal =>
        obtain ⟨f1, f2, f3, f4⟩ := fin none W3 hp.1
        exact ⟨_, _, f1, .inl ⟨rfl, hI _ _ _ hp.2 (.inl ⟨_, f2⟩), f3, f4⟩⟩
      | ret =>
        obtain ⟨f1, f2, f3, f4⟩ := fin (some .ret) W3 hp.1
        exact ⟨_, _, f1, .inr ⟨rfl, .ret, hIx _ _ _ hp.2 (.inl ⟨_, f2⟩), f3, f4⟩⟩
      | exit id =>
        obtain ⟨f1, f2, f3, f4⟩ := fin (some (.exit id)) W3 hp.1
        exact ⟨_, _, f1, .inr ⟨rfl, .exit id, hIx _ _ _ hp.2 (.inl ⟨_, f2⟩), f3, f4⟩⟩
      | goto t =>
        obtain ⟨f1, f2, f3, f4⟩ := fin (some (.goto t)) W3 hp.1
        exact ⟨_, _, f1, .inr ⟨rfl, .goto t, hIx _ _ _ hp.2 (.inl ⟨_, f2⟩), f3, f4⟩⟩
      | panic ch => exact hp.elim
      | outgrown => exact hp.elim
    · rintro e W2 ⟨⟨v, rfl⟩, ⟨hi, hl, hd⟩ | ⟨c, hi, hl, hd⟩⟩
      · exact ⟨none, _, run_endLoop (P := P) hl (by simp [R]), hdone _ (hI _ _ _ hi (.inl ⟨_, hl⟩)) ((World.putObj_heap_other (by omega)).trans hd)⟩
      · exact ⟨some c, _, run_endLoop (P := P) hl (by simp [R]), hstop c _ (hIx _ _ _ hi (.inl ⟨_, hl⟩)) ((World.putObj_heap_other (by omega)).trans hd)⟩

end Go.Proofs.Ytfdboahcaiolgaa
