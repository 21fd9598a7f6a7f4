/-
  The two laws on a range over a method value (RangeM, RangeA), where the round's variable is boxed anew in each round. Conditions: what each theorem names.
-/
import Derived.Test.YtmghckddofefkaaRangeM
import Derived.Test.YtmghckddofefkaaRangeA
set_option linter.unusedVariables false
namespace Go.Proofs.Ytmghckddofefkaa
open Go.RowKit

theorem range_law_mb {V : Type} {P : Program} {g : Operand} {ps : Array Tmp} {assign body : Code} {Q : Exit → Act → World → Prop} {a : Act} {w : World}
    {gf : Nat} {fb : Array Value} (hg : a.eval g = .func (.func gf) fb #[]) (eg : ∀ args w, (callFunc gf args).run P w = .ok (.enter gf args) w)
    {L : List (Int × V)} {enc : Int × V → Array Value} {Need : World → Prop} (hit : IterM P gf (fun y => fb ++ #[y]) L enc Need) (hps : ∀ p, (enc p).size = ps.size)
    (I : List (Int × V) → World → Prop) (hN : ∀ s W, I s W → Need W)
    (hI : ∀ s W o, I s W → Book W (w.heap.size + 1) → I s (W.putObj (w.heap.size + 1) (.loop o)))
    (hM : ∀ s W W', I s W → Mur w.heap.size W W' → I s W')
    (h0 : ∀ r, I [] ((w.alloc (.deferred (some []))).alloc (.loop r)))
    (ob : Int × V → Obj) (hob : ∀ p, ∃ cs t fr, ob p = .cells cs t fr) (a₁ : Int × V → Nat → Act)
    (hassign : ∀ (l : Nat) (p : Int × V) (W : World) (K : Act → World → Prop), K (a₁ p W.heap.size) (W.alloc (ob p)) →
      assign.wpIn (Fence.wide.inRound l) 0 P (Exit.then K (fun _ _ _ => False)) { tmps := (ps.zip (enc p)).foldl (fun t (p, v) => t.setIfInBounds p v) a.tmps, defers := [] } W)
    (hbody : ∀ (l : Nat) (s : List (Int × V)) (p : Int × V) (W : World) (n : Nat), Apart (s ++ [p]) → (∀ x ∈ s ++ [p], x ∈ L) → I s W → Book W w.heap.size → Book W (w.heap.size + 1) → W.heap[n]? = some (ob p) → w.heap.size + 1 < n → body.wpIn (Fence.wide.inRound l) 0 P (RoundEndM w.heap.size I (s ++ [p]) W) (a₁ p n) W)
    (hdone : ∀ s W, Apart s → s.Perm L → I s W → W.heap[w.heap.size]? = some (.deferred (some [])) → Q .normal { a with defers := { target := .collected w.heap.size, args := #[] } :: a.defers } W) :
    (Code.rangeFunc g ps assign body).wpIn Fence.wide 0 P Q a w := by
  refine wpIn_rangeFunc fun fn hfn => ?_
  let R : LoopState → Option Code → Loop := fun st pe => { state := st, pending := pe, fn, tmps := a.tmps, params := ps, assign, body, defers := w.heap.size }
  obtain ⟨W1, hW1⟩ : ∃ W1, W1 = (w.alloc (.deferred (some []))).alloc (.loop (R .ready none)) := ⟨_, rfl⟩
  have hD1 : W1.heap[w.heap.size]? = some (.deferred (some [])) := by
    rw [hW1, Below.heap_alloc _ _ _ (by simp)]
    exact World.alloc_heap_new w _
  have hL1 : W1.heap[w.heap.size + 1]? = some (.loop (R .ready none)) := by
    rw [hW1]
    have := World.alloc_heap_new (w.alloc (.deferred (some []))) (.loop (R .ready none))
    rwa [World.size_alloc] at this
  have hI1 : I [] W1 := by rw [hW1]; exact h0 _
  refine ⟨w.heap.size + 1, [{ target := .collected w.heap.size, args := #[] }], W1, { target := .fn (.func gf) #[], args := fb ++ #[.func (.yield (w.heap.size + 1)) #[] #[]] }, W1, gf,
    fb ++ #[.func (.yield (w.heap.size + 1)) #[] #[]], W1, ?_, ?_, fun _ _ => trivial, ?_, fun h => by simp [Fence.wide] at h, ?_⟩
  · rw [hW1]
    exact run_enterLoop_outer _ _ _ _ _
  · simp only [resolve, hg]
    simp [go_sem]
  · simp [invoke, go_sem, eg]
  · refine (hit (w.heap.size + 1)
      (fun s W => I s W ∧ W.heap[w.heap.size + 1]? = some (.loop (R .ready none)) ∧ W.heap[w.heap.size]? = some (.deferred (some [])))
      W1 (fun s W h => hN s W h.1) ?_ ?_ ⟨hI1, hL1, hD1⟩).mono ?_
    · rintro s Wa Wb ⟨hi, hl, hd⟩ hm
      refine ⟨hM s Wa Wb hi (hm.mono (by rw [hW1]; simp; omega)), (hm.block _ (Array.getElem?_eq_some_iff.1 hl).1 (.inr fun m s sn c e => ?_)).trans hl, (hm.block _ (Array.getElem?_eq_some_iff.1 hd).1 (.inr fun m s sn c e => ?_)).trans hd⟩
      · rw [hl] at e; cases e
      · rw [hd] at e; cases e
    · rintro s p W hap hsub ⟨hi0, hl0, hd0⟩
      have hlt0 : w.heap.size + 1 < W.heap.size := (Array.getElem?_eq_some_iff.1 hl0).1
      obtain ⟨W', hW'⟩ : ∃ W', W.alloc (ob p) = W' := ⟨_, rfl⟩
      have hi : I s W' := by
        rw [← hW']
        refine hM s W _ hi0 ⟨rfl, rfl, rfl, by simp, fun g hg _ => Below.heap_alloc W _ g hg⟩
      have hl : W'.heap[w.heap.size + 1]? = some (.loop (R .ready none)) := by rw [← hW']; exact (Below.heap_alloc W _ _ hlt0).trans hl0
      have hd : W'.heap[w.heap.size]? = some (.deferred (some [])) := by rw [← hW']; exact (Below.heap_alloc W _ _ (by omega)).trans hd0
      have hb0 : W'.heap[W.heap.size]? = some (ob p) := by rw [← hW']; exact World.alloc_heap_new W _
      have hlt : w.heap.size + 1 < W'.heap.size := (Array.getElem?_eq_some_iff.1 hl).1
      refine ⟨fn, _, assign, body, run_yield (P := P) (args := enc p) hl0 (hps p), roundIn_of_wpIn hfn (hassign _ p W _ ?_)⟩
      rw [hW']
      refine ⟨_, run_beginRound hl rfl, ?_⟩
      have hl2 : (W'.putObj (w.heap.size + 1) (.loop (R .busy none))).heap[w.heap.size + 1]? = some (.loop (R .busy none)) := World.putObj_heap_same hlt
      have hd2 : (W'.putObj (w.heap.size + 1) (.loop (R .busy none))).heap[w.heap.size]? = some (.deferred (some [])) := (World.putObj_heap_other (by omega)).trans hd
      have hb2 : (W'.putObj (w.heap.size + 1) (.loop (R .busy none))).heap[W.heap.size]? = some (ob p) := (World.putObj_heap_other (by omega)).trans hb0
      refine wpIn_mono (hbody _ s p _ W.heap.size hap hsub (hI s W' _ hi (.inl ⟨_, hl⟩)) (.inr ⟨_, hd2⟩) (.inl ⟨_, hl2⟩) hb2 hlt0) ?_
      rintro e a3 W3 hp
      cases e with
      | normal =>
        obtain ⟨k2, hi3, hki⟩ := hp
        have hl3 : W3.heap[w.heap.size + 1]? = some (.loop (R .busy none)) := k2.2.trans hl2
        have f1 := run_endRound (P := P) none hl3
        refine ⟨_, _, f1, rfl, ⟨hI _ _ _ hi3 (.inl ⟨_, hl3⟩), World.putObj_heap_same (Array.getElem?_eq_some_iff.1 hl3).1, (World.putObj_heap_other (by omega)).trans (k2.1.trans hd2)⟩, ?_⟩
        have hka : KI W W' := by rw [← hW']; exact (KI.refl W).alloc _
        exact ((hka.trans (KI.put (.inl ⟨_, hl⟩) _)).trans hki).putObj (.inl ⟨_, hl3⟩) _
      | ret => exact hp.elim
      | exit id => exact hp.elim
      | goto t => exact hp.elim
      | panic ch => exact hp.elim
      | outgrown => exact hp.elim
    · rintro e W2 ⟨⟨v, rfl⟩, s, hap, hpm, hi, hl, hd⟩
      exact ⟨none, _, run_endLoop (P := P) hl (by simp [R]), hdone s _ hap hpm (hI _ _ _ hi (.inl ⟨_, hl⟩)) ((World.putObj_heap_other (by omega)).trans hd)⟩
theorem range_law_ab {P : Program} {g : Operand} {ps : Array Tmp} {assign body : Code} {Q : Exit → Act → World → Prop} {a : Act} {w : World}
    {gf : Nat} {fb : Array Value} (hg : a.eval g = .func (.func gf) fb #[]) (eg : ∀ args w, (callFunc gf args).run P w = .ok (.enter gf args) w)
    {N : Nat} {enc : Nat → Array Value} {Need : World → Prop} (hit : IterA P gf (fun y => fb ++ #[y]) N enc Need) (hps : ∀ k, (enc k).size = ps.size)
    (I : Nat → World → Prop) (Ix : Code → World → Prop) (hN : ∀ k W, I k W → Need W)
    (hI : ∀ k W o, I k W → Book W (w.heap.size + 1) → I k (W.putObj (w.heap.size + 1) (.loop o)))
    (hIx : ∀ c W o, Ix c W → Book W (w.heap.size + 1) → Ix c (W.putObj (w.heap.size + 1) (.loop o)))
    (hA : ∀ k W cs t, I k W → w.heap.size + 1 < W.heap.size → I k (W.alloc (.cells cs t)))
    (h0 : ∀ r, I 0 ((w.alloc (.deferred (some []))).alloc (.loop r)))
    (ob : Nat → Obj) (hob : ∀ k, ∃ cs t, ob k = .cells cs t) (a₁ : Nat → Nat → Act)
    (hassign : ∀ (l k : Nat) (W : World) (K : Act → World → Prop), K (a₁ k W.heap.size) (W.alloc (ob k)) →
      assign.wpIn (Fence.wide.inRound l) 0 P (Exit.then K (fun _ _ _ => False)) { tmps := (ps.zip (enc k)).foldl (fun t (p, v) => t.setIfInBounds p v) a.tmps, defers := [] } W)
    (hbody : ∀ (l k : Nat) (W : World) (n : Nat), k < N → I k W → Book W w.heap.size → Book W (w.heap.size + 1) → W.heap[n]? = some (ob k) → w.heap.size + 1 < n → body.wpIn (Fence.wide.inRound l) 0 P (RoundEnd w.heap.size I Ix (k + 1) W) (a₁ k n) W)
    (hdone : ∀ W, I N W → W.heap[w.heap.size]? = some (.deferred (some [])) → Q .normal { a with defers := { target := .collected w.heap.size, args := #[] } :: a.defers } W)
    (hstop : ∀ c W, Ix c W → W.heap[w.heap.size]? = some (.deferred (some [])) → c.wpIn Fence.wide 0 P Q { a with defers := { target := .collected w.heap.size, args := #[] } :: a.defers } W) :
    (Code.rangeFunc g ps assign body).wpIn Fence.wide 0 P Q a w := by
  refine wpIn_rangeFunc fun fn hfn => ?_
  let R : LoopState → Option Code → Loop := fun st pe => { state := st, pending := pe, fn, tmps := a.tmps, params := ps, assign, body, defers := w.heap.size }
  have hbook : ∀ (W W' : World) (st : LoopState) (pe : Option Code), Keep2 w.heap.size W W' → W.heap[w.heap.size + 1]? = some (.loop (R st pe)) → W'.heap[w.heap.size + 1]? = some (.loop (R st pe)) := fun W W' st pe hk h => hk.2.trans h
  obtain ⟨W1, hW1⟩ : ∃ W1, W1 = (w.alloc (.deferred (some []))).alloc (.loop (R .ready none)) := ⟨_, rfl⟩
  have hD1 : W1.heap[w.heap.size]? = some (.deferred (some [])) := by
    rw [hW1, Below.heap_alloc _ _ _ (by simp)]
    exact World.alloc_heap_new w _
  have hL1 : W1.heap[w.heap.size + 1]? = some (.loop (R .ready none)) := by
    rw [hW1]
    have := World.alloc_heap_new (w.alloc (.deferred (some []))) (.loop (R .ready none))
    rwa [World.size_alloc] at this
  have hI1 : I 0 W1 := by rw [hW1]; exact h0 _
  refine ⟨w.heap.size + 1, [{ target := .collected w.heap.size, args := #[] }], W1, { target := .fn (.func gf) #[], args := fb ++ #[.func (.yield (w.heap.size + 1)) #[] #[]] }, W1, gf,
    fb ++ #[.func (.yield (w.heap.size + 1)) #[] #[]], W1, ?_, ?_, fun _ _ => trivial, ?_, fun h => by simp [Fence.wide] at h, ?_⟩
  · rw [hW1]
    exact run_enterLoop_outer _ _ _ _ _
  · simp only [resolve, hg]
    simp [go_sem]
  · simp [invoke, go_sem, eg]
  · refine (hit (w.heap.size + 1)
      (fun k W => I k W ∧ W.heap[w.heap.size + 1]? = some (.loop (R .ready none)) ∧ W.heap[w.heap.size]? = some (.deferred (some [])))
      (fun W => ∃ c, Ix c W ∧ W.heap[w.heap.size + 1]? = some (.loop (R .done (some c))) ∧ W.heap[w.heap.size]? = some (.deferred (some [])))
      W1 (fun k W h => hN k W h.1) ?_ ?_ ⟨hI1, hL1, hD1⟩).mono ?_
    · rintro k W cs t ⟨hi, hl, hd⟩
      have hlt : w.heap.size + 1 < W.heap.size := (Array.getElem?_eq_some_iff.1 hl).1
      exact ⟨hA k W cs t hi hlt, (Below.heap_alloc W _ _ hlt).trans hl, (Below.heap_alloc W _ _ (by omega)).trans hd⟩
    · rintro k W hk ⟨hi0, hl0, hd0⟩
      have hlt0 : w.heap.size + 1 < W.heap.size := (Array.getElem?_eq_some_iff.1 hl0).1
      obtain ⟨W', hW'⟩ : ∃ W', W.alloc (ob k) = W' := ⟨_, rfl⟩
      have hi : I k W' := by
        rw [← hW']
        obtain ⟨cs, t, e⟩ := hob k
        rw [e]
        exact hA k W cs t hi0 hlt0
      have hl : W'.heap[w.heap.size + 1]? = some (.loop (R .ready none)) := by rw [← hW']; exact (Below.heap_alloc W _ _ hlt0).trans hl0
      have hd : W'.heap[w.heap.size]? = some (.deferred (some [])) := by rw [← hW']; exact (Below.heap_alloc W _ _ (by omega)).trans hd0
      have hb0 : W'.heap[W.heap.size]? = some (ob k) := by rw [← hW']; exact World.alloc_heap_new W _
      have hlt : w.heap.size + 1 < W'.heap.size := (Array.getElem?_eq_some_iff.1 hl).1
      refine ⟨fn, _, assign, body, run_yield (P := P) (args := enc k) hl0 (hps k), roundIn_of_wpIn hfn (hassign _ k W _ ?_)⟩
      rw [hW']
      refine ⟨_, run_beginRound hl rfl, ?_⟩
      have hl2 : (W'.putObj (w.heap.size + 1) (.loop (R .busy none))).heap[w.heap.size + 1]? = some (.loop (R .busy none)) := World.putObj_heap_same hlt
      have hd2 : (W'.putObj (w.heap.size + 1) (.loop (R .busy none))).heap[w.heap.size]? = some (.deferred (some [])) := (World.putObj_heap_other (by omega)).trans hd
      have hb2 : (W'.putObj (w.heap.size + 1) (.loop (R .busy none))).heap[W.heap.size]? = some (ob k) := (World.putObj_heap_other (by omega)).trans hb0
      refine wpIn_mono (hbody _ k _ W.heap.size hk (hI k W' _ hi (.inl ⟨_, hl⟩)) (.inr ⟨_, hd2⟩) (.inl ⟨_, hl2⟩) hb2 hlt0) ?_
      have fin : ∀ (jump : Option Code) (W3 : World), Keep2 w.heap.size (W'.putObj (w.heap.size + 1) (.loop (R .busy none))) W3 →
          (Instr.endRound (w.heap.size + 1) jump).run P W3 = .ok (.bool jump.isNone) (W3.putObj (w.heap.size + 1) (.loop (R (if jump.isNone then .ready else .done) jump))) ∧
          W3.heap[w.heap.size + 1]? = some (.loop (R .busy none)) ∧
          (W3.putObj (w.heap.size + 1) (.loop (R (if jump.isNone then .ready else .done) jump))).heap[w.heap.size + 1]? = some (.loop (R (if jump.isNone then .ready else .done) jump)) ∧
          (W3.putObj (w.heap.size + 1) (.loop (R (if jump.isNone then .ready else .done) jump))).heap[w.heap.size]? = some (.deferred (some [])) := by
        intro jump W3 hk3
        have hl3 := hbook _ _ _ _ hk3 hl2
        exact ⟨run_endRound (P := P) jump hl3, hl3, World.putObj_heap_same (Array.getElem?_eq_some_iff.1 hl3).1, (World.putObj_heap_other (by omega)).trans (hk3.1.trans hd2)⟩
      rintro e a3 W3 hp
      cases e with
      | normal =>
        obtain ⟨f1, f2, f3, f4⟩ := fin none W3 hp.1
        exact ⟨_, _, f1, .inl ⟨rfl, hI _ _ _ hp.2 (.inl ⟨_, f2⟩), f3, f4⟩⟩
      | ret =>
        obtain ⟨f1, f2, f3, f4⟩ := fin (some .ret) W3 hp.1
        exact ⟨_, _, f1, .inr ⟨rfl, .ret, hIx _ _ _ hp.2 (.inl ⟨_, f2⟩), f3, f4⟩⟩
      | exit id =>
        obtain ⟨f1, f2, f3, f4⟩ := fin (some (.exit id)) W3 hp.1
        exact ⟨_, _, f1, .inr ⟨rfl, .exit id, hIx _ _ _ hp.2 (.inl ⟨_, f2⟩), f3, f4⟩⟩
      | goto t =>
        obtain ⟨f1, f2, f3, f4⟩ := fin (some (.goto t)) W3 hp.1
        exact ⟨_, _, f1, .inr ⟨rfl, .goto t, hIx _ _ _ hp.2 (.inl ⟨_, f2⟩), f3, f4⟩⟩
      | panic ch => exact hp.elim
      | outgrown => exact hp.elim
    · rintro e W2 ⟨⟨v, rfl⟩, ⟨hi, hl, hd⟩ | ⟨c, hi, hl, hd⟩⟩
      · exact ⟨none, _, run_endLoop (P := P) hl (by simp [R]), hdone _ (hI _ _ _ hi (.inl ⟨_, hl⟩)) ((World.putObj_heap_other (by omega)).trans hd)⟩
      · exact ⟨some c, _, run_endLoop (P := P) hl (by simp [R]), hstop c _ (hIx _ _ _ hi (.inl ⟨_, hl⟩)) ((World.putObj_heap_other (by omega)).trans hd)⟩

end Go.Proofs.Ytmghckddofefkaa
