/-
  A range over a function whose value is a method value (its receiver is bound): one law for the statement, told by the number of rounds that are over. Conditions: what each theorem names; a body that panics or defers is not spoken of.
-/
import Derived.RangeFuncIn
import Derived.RangeFuncRecord
import Derived.RangeFuncSeq
import Derived.RangeFuncLeaves
import Derived.RangeFuncCalls
import Derived.OwnWalkIn
import Derived.Test.YtfdboahcaiolgaaMgR
namespace Go.Proofs.Ytfdboahcaiolgaa
open Go.RowKit

/-- An iterator that makes N rounds, the k-th with the values enc k, as long as Need holds between the rounds; or fewer, if a round has enough. -/
def Iter (P : Program) (gf : Nat) (mk : Value → Array Value) (N : Nat) (enc : Nat → Array Value) (Need : World → Prop) : Prop :=
  ∀ (l : Nat) (J : Nat → World → Prop) (Jx : World → Prop) (W : World), (∀ k W1, J k W1 → Need W1) →
    (∀ k W1, k < N → J k W1 → YieldAt Fence.wide 0 P l (enc k) W1 fun e W' => (e = .returned (.bool true) ∧ J (k + 1) W') ∨ (e = .returned (.bool false) ∧ Jx W')) →
    J 0 W → CallsIn Fence.wide 0 P gf (mk (.func (.yield l) #[] #[])) W fun e W' => (∃ v, e = .returned v) ∧ (J N W' ∨ Jx W')

/-- Block L holds no cells: it is a statement's own book. -/
def Book (w : World) (L : Nat) : Prop := (∃ r, w.heap[L]? = some (.loop r)) ∨ ∃ d, w.heap[L]? = some (.deferred d)

/-- The two blocks that the statement keeps its book in lie as they lay. -/
def Keep2 (B : Nat) (W W' : World) : Prop := W'.heap[B]? = W.heap[B]? ∧ W'.heap[B + 1]? = W.heap[B + 1]?

theorem Keep2.refl (B : Nat) (W : World) : Keep2 B W W := ⟨rfl, rfl⟩
theorem Keep2.trans {B : Nat} {X Y Z : World} (h : Keep2 B X Y) (k : Keep2 B Y Z) : Keep2 B X Z := ⟨k.1.trans h.1, k.2.trans h.2⟩

/-- How a round's body may be left, k rounds being over then. -/
def RoundEnd (B : Nat) (I : Nat → World → Prop) (Ix : Code → World → Prop) (k : Nat) (W : World) : Exit → Act → World → Prop
  | .normal, _, W' => Keep2 B W W' ∧ I k W'
  | .ret, _, W' => Keep2 B W W' ∧ Ix .ret W'
  | .exit id, _, W' => Keep2 B W W' ∧ Ix (.exit id) W'
  | .goto t, _, W' => Keep2 B W W' ∧ Ix (.goto t) W'
  | .panic _, _, _ => False
  | .outgrown, _, _ => False

theorem range_law {P : Program} {g : Operand} {ps : Array Tmp} {assign body : Code} {Q : Exit → Act → World → Prop} {a : Act} {w : World}
    {gf : Nat} {fb : Array Value} (hg : a.eval g = .func (.func gf) fb #[]) (eg : ∀ args w, (callFunc gf args).run P w = .ok (.enter gf args) w)
    {N : Nat} {enc : Nat → Array Value} {Need : World → Prop} (hit : Iter P gf (fun y => fb ++ #[y]) N enc Need) (hps : ∀ k, (enc k).size = ps.size)
    (I : Nat → World → Prop) (Ix : Code → World → Prop) (hN : ∀ k W, I k W → Need W)
    (hI : ∀ k W o, I k W → Book W (w.heap.size + 1) → I k (W.putObj (w.heap.size + 1) (.loop o)))
    (hIx : ∀ c W o, Ix c W → Book W (w.heap.size + 1) → Ix c (W.putObj (w.heap.size + 1) (.loop o)))
    (h0 : ∀ r, I 0 ((w.alloc (.deferred (some []))).alloc (.loop r)))
    (a₁ : Nat → Act)
    (hassign : ∀ (l k : Nat) (W : World) (K : Act → World → Prop), K (a₁ k) W →
      assign.wpIn (Fence.wide.inRound l) 0 P (Exit.then K (fun _ _ _ => False)) { tmps := (ps.zip (enc k)).foldl (fun t (p, v) => t.setIfInBounds p v) a.tmps, defers := [] } W)
    (hbody : ∀ (l k : Nat) (W : World), k < N → I k W → Book W w.heap.size → Book W (w.heap.size + 1) → body.wpIn (Fence.wide.inRound l) 0 P (RoundEnd w.heap.size I Ix (k + 1) W) (a₁ k) W)
    (hdone : ∀ W, I N W → W.heap[w.heap.size]? = some (.deferred (some [])) → Q .normal { a with defers := { target := .collected w.heap.size, args := #[] } :: a.defers } W)
    (hstop : ∀ c W, Ix c W → W.heap[w.heap.size]? = some (.deferred (some [])) → c.wpIn Fence.wide 0 P Q { a with defers := { target := .collected w.heap.size, args := #[] } :: a.defers } W) :
    (Code.rangeFunc g ps assign body).wpIn Fence.wide 0 P Q a w := by
  refine wpIn_rangeFunc fun fn hfn => ?_
  let R : LoopState → Option Code → Loop := fun st pe => { state := st, pending := pe, fn, tmps := a.tmps, params := ps, assign, body, defers := w.heap.size }
  have hbook : ∀ (W W' : World) (st : LoopState) (pe : Option Code), Keep2 w.heap.size W W' → W.heap[w.heap.size + 1]? = some (.loop (R st pe)) → W'.heap[w.heap.size + 1]? = some (.loop (R st pe)) := fun W W' st pe hk h => hk.2.trans h
  obtain ⟨W1, hW1⟩ : ∃ W1, W1 = (w.alloc (.deferred (some []))).alloc (.loop (R .ready none)) := ⟨_, rfl⟩
  have hD1 : W1.heap[w.heap.size]? = some (.deferred (some [])) := by
    rw [hW1, Below.heap_alloc _ _ _ (by simp)]
    exact World.alloc_heap_new w _
  have hL1 : W1.heap[w.heap.size + 1]? = some (.loop (R .ready none)) := by
    rw [hW1]
    have := World.alloc_heap_new (w.alloc (.deferred (some []))) (.loop (R .ready none))
    rwa [World.size_alloc] at this
  have hI1 : I 0 W1 := by rw [hW1]; exact h0 _
  refine ⟨w.heap.size + 1, [{ target := .collected w.heap.size, args := #[] }], W1, { target := .fn (.func gf) #[], args := fb ++ #[.func (.yield (w.heap.size + 1)) #[] #[]] }, W1, gf,
    fb ++ #[.func (.yield (w.heap.size + 1)) #[] #[]], W1, ?_, ?_, fun _ _ => trivial, ?_, fun h => by simp [Fence.wide] at h, ?_⟩
  · rw [hW1]
    exact run_enterLoop_outer _ _ _ _ _
  · simp only [resolve, hg]
    simp [go_sem]
  · simp [invoke, go_sem, eg]
  · refine (hit (w.heap.size + 1)
      (fun k W => I k W ∧ W.heap[w.heap.size + 1]? = some (.loop (R .ready none)) ∧ W.heap[w.heap.size]? = some (.deferred (some [])))
      (fun W => ∃ c, Ix c W ∧ W.heap[w.heap.size + 1]? = some (.loop (R .done (some c))) ∧ W.heap[w.heap.size]? = some (.deferred (some [])))
      W1 (fun k W h => hN k W h.1) ?_ ⟨hI1, hL1, hD1⟩).mono ?_
    · rintro k W hk ⟨hi, hl, hd⟩
      have hlt : w.heap.size + 1 < W.heap.size := (Array.getElem?_eq_some_iff.1 hl).1
      refine ⟨fn, _, assign, body, run_yield (P := P) (args := enc k) hl (hps k), roundIn_of_wpIn hfn (hassign _ k W _ ⟨_, run_beginRound hl rfl, ?_⟩)⟩
      have hl2 : (W.putObj (w.heap.size + 1) (.loop (R .busy none))).heap[w.heap.size + 1]? = some (.loop (R .busy none)) := World.putObj_heap_same hlt
      have hd2 : (W.putObj (w.heap.size + 1) (.loop (R .busy none))).heap[w.heap.size]? = some (.deferred (some [])) := (World.putObj_heap_other (by omega)).trans hd
      refine wpIn_mono (hbody _ k _ hk (hI k W _ hi (.inl ⟨_, hl⟩)) (.inr ⟨_, hd2⟩) (.inl ⟨_, hl2⟩)) ?_
      have fin : ∀ (jump : Option Code) (W3 : World), Keep2 w.heap.size (W.putObj (w.heap.size + 1) (.loop (R .busy none))) W3 →
          (Instr.endRound (w.heap.size + 1) jump).run P W3 = .ok (.bool jump.isNone) (W3.putObj (w.heap.size + 1) (.loop (R (if jump.isNone then .ready else .done) jump))) ∧
          W3.heap[w.heap.size + 1]? = some (.loop (R .busy none)) ∧
          (W3.putObj (w.heap.size + 1) (.loop (R (if jump.isNone then .ready else .done) jump))).heap[w.heap.size + 1]? = some (.loop (R (if jump.isNone then .ready else .done) jump)) ∧
          (W3.putObj (w.heap.size + 1) (.loop (R (if jump.isNone then .ready else .done) jump))).heap[w.heap.size]? = some (.deferred (some [])) := by
        intro jump W3 hk3
        have hl3 := hbook _ _ _ _ hk3 hl2
        exact ⟨run_endRound (P := P) jump hl3, hl3, World.putObj_heap_same (Array.getElem?_eq_some_iff.1 hl3).1, (World.putObj_heap_other (by omega)).trans (hk3.1.trans hd2)⟩
      rintro e a3 W3 hp
      cases e with
      | normal =>
        obtain ⟨f1, f2, f3, f4⟩ := fin none W3 hp.1
        exact ⟨_, _, f1, .inl ⟨rfl, hI _ _ _ hp.2 (.inl ⟨_, f2⟩), f3, f4⟩⟩
      | ret =>
        obtain ⟨f1, f2, f3, f4⟩ := fin (some .ret) W3 hp.1
        exact ⟨_, _, f1, .inr ⟨rfl, .ret, hIx _ _ _ hp.2 (.inl ⟨_, f2⟩), f3, f4⟩⟩
      | exit id =>
        obtain ⟨f1, f2, f3, f4⟩ := fin (some (.exit id)) W3 hp.1
        exact ⟨_, _, f1, .inr ⟨rfl, .exit id, hIx _ _ _ hp.2 (.inl ⟨_, f2⟩), f3, f4⟩⟩
      | goto t =>
        obtain ⟨f1, f2, f3, f4⟩ := fin (some (.goto t)) W3 hp.1
        exact ⟨_, _, f1, .inr ⟨rfl, .goto t, hIx _ _ _ hp.2 (.inl ⟨_, f2⟩), f3, f4⟩⟩
      | panic ch => exact hp.elim
      | outgrown => exact hp.elim
    · rintro e W2 ⟨⟨v, rfl⟩, ⟨hi, hl, hd⟩ | ⟨c, hi, hl, hd⟩⟩
      · exact ⟨none, _, run_endLoop (P := P) hl (by simp [R]), hdone _ (hI _ _ _ hi (.inl ⟨_, hl⟩)) ((World.putObj_heap_other (by omega)).trans hd)⟩
      · exact ⟨some c, _, run_endLoop (P := P) hl (by simp [R]), hstop c _ (hIx _ _ _ hi (.inl ⟨_, hl⟩)) ((World.putObj_heap_other (by omega)).trans hd)⟩

section
variable {w : World} {L : Nat}
theorem CB.noBook {g : Nat} {t : TypeId} {cs : Array Value} (h : CB w g t cs) (hl : Book w L) : g ≠ L := by
  rintro rfl
  have h' : w.heap[g]? = some (.cells cs t (0, 0)) := h
  rcases hl with ⟨r, hl⟩ | ⟨d, hl⟩ <;> (rw [h'] at hl; cases hl)
theorem Book.lt (h : Book w L) : L < w.heap.size := by
  rcases h with ⟨_, h⟩ | ⟨_, h⟩ <;> exact (Array.getElem?_eq_some_iff.1 h).1
theorem CB.putBook {g : Nat} {t : TypeId} {cs : Array Value} (h : CB w g t cs) (hl : Book w L) (o : Obj) : CB (w.putObj L o) g t cs := h.same (World.putObj_heap_other (h.noBook hl))
theorem Seg.noBook {e : TypeId} {size : Nat} {A : Option Addr} {n c : Nat} {xs : List Value} {G : Option Nat} (h : Seg w e size A n c xs G) (hl : Book w L) : G ≠ some L := by
  rintro rfl
  rcases h.2.2.2 with ⟨_, _, h0⟩ | ⟨g', off, cur, _, h2, h3, _⟩
  · cases h0
  · cases h2
    exact h3.noBook hl rfl
theorem Seg.putBook {e : TypeId} {size : Nat} {A : Option Addr} {n c : Nat} {xs : List Value} {G : Option Nat} (h : Seg w e size A n c xs G) (hl : Book w L) (o : Obj) : Seg (w.putObj L o) e size A n c xs G :=
  h.keep fun g hg => World.putObj_heap_other (fun e => h.noBook hl (by rw [hg, e]))
theorem below_putObj {B : Nat} {w0 : World} (h : Below B w0 w) (hB : B ≤ L) (o : Obj) : Below B w0 (w.putObj L o) :=
  h.trans ⟨rfl, rfl, rfl, by simp, fun k hk => World.putObj_heap_other (by omega)⟩
theorem Keep2.put {B : Nat} {W W' : World} (h : Keep2 B W W') {p : Addr} (h1 : p.block ≠ B) (h2 : p.block ≠ B + 1) (u : Value) : Keep2 B W (W'.setCell p u) :=
  ⟨(Below.heap_setCell W' p u B h1.symm).trans h.1, (Below.heap_setCell W' p u (B + 1) h2.symm).trans h.2⟩
theorem Keep2.alloc {B : Nat} {W W' : World} (h : Keep2 B W W') (h2 : B + 1 < W'.heap.size) (o : Obj) : Keep2 B W (W'.alloc o) :=
  ⟨(Below.heap_alloc W' o B (by omega)).trans h.1, (Below.heap_alloc W' o (B + 1) h2).trans h.2⟩
theorem Keep2.grown {B : Nat} {W W' W'' : World} {G : Option Nat} (h : Keep2 B W W') (hg : W'.grownBy W'' G) (hlt : B + 1 < W'.heap.size) (h1 : G ≠ some B) (h2 : G ≠ some (B + 1)) : Keep2 B W W'' :=
  ⟨(hg.block B (by omega) (fun e => h1 e.symm)).trans h.1, (hg.block (B + 1) hlt (fun e => h2 e.symm)).trans h.2⟩
theorem Keep2.only {B b : Nat} {W W' W'' : World} {G : Option Nat} (h : Keep2 B W W') (hg : Only W' W'' b G) (hlt : B + 1 < W'.heap.size) (h1 : G ≠ some B) (h2 : G ≠ some (B + 1)) (h3 : b ≠ B) (h4 : b ≠ B + 1) : Keep2 B W W'' :=
  ⟨(hg.block B (by omega) (fun e => h3 e.symm) (fun e => h1 e.symm)).trans h.1, (hg.block (B + 1) hlt (fun e => h4 e.symm) (fun e => h2 e.symm)).trans h.2⟩
end

/-- The append as one step of a walk inside a fence. -/
theorem wpListIn_append_seg {F : Fence} {nn : Nat} {P : Program} (w : World) {ops : Array Oper} {rest : List Oper} {o : Oper} {a : Act} {Q : Exit → Act → World → Prop} (hgd : o.guard = none) (s x : Operand) (t : TypeId)
    (ho : o.op = .call { callee := .builtin .append, args := #[s, x], argTypes := #[t, t] })
    (e : TypeId) (i : TypeInfo) (z : Value) (size bytes : Nat) (ht : P.underlying t = some (.slice e)) (hi : P.info? e = some i) (hz : i.zero = some z)
    (hsize : i.size = size) (hby : i.bytes = bytes) (hzs : z.cells.size = size) (hsz : 0 < size)
    {A : Option Addr} {n c : Nat} {xs : List Value} {G : Option Nat} (hs : a.eval s = .slice A n c) (hseg : Seg w e size A n c xs G)
    (ad : Addr) (m k : Nat) (news : List Value) (hx : a.eval x = .slice (some ad) m k) (hl : news.length = m * size) (hnews : ∀ j u, news[j]? = some u → w.cell? (ad.add j) = some u) (h1 : ∀ u ∈ news, u.oneCell' = true) (hm : 0 < m)
    (h63 : n + m ≤ maxLen) (hbytes : (n + m) * bytes ≤ 140737488355328)
    (h : ∀ A' c' G' w', Seg w' e size A' (n + m) c' (xs ++ news) G' → w.grownBy w' G → Moved w G G' → wpListIn F nn P ops Q rest (a.put o.dst (.slice A' (n + m) c')) w') : wpListIn F nn P ops Q (o :: rest) a w := by
  obtain ⟨A', c', G', w', hrun, h2, h3, h4⟩ := run_append_seg (P := P) w t o.type e i z size bytes ht hi hz hsize hby hzs hsz hseg ad m k news hl hnews h1 hm h63 hbytes
  refine wpListIn_plain hgd fun K hK' => ?_
  unfold Oper.wpIn
  refine ⟨by simp [Oper.about, ho, resolve, Target.leads, Sem.run_pure], ?_⟩
  rw [Oper.semAt_plain F _ _ (by rw [ho]; intro c hc'; cases hc')]
  simp [execOp, ho, resolve, invoke, builtin, hs, hx, hrun, Result.andThen]
  exact hK' _ _ (h A' c' G' w' h2 h3 h4)

end Go.Proofs.Ytfdboahcaiolgaa
