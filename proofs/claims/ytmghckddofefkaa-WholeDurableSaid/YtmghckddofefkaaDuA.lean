/-
  Sides in cells: the list that the cells hold, what the walk of WholeDurable carries, and the marks that its ranges leave behind. Plain facts. No condition but what each theorem names.
-/
import Derived.Test.YtmghckddofefkaaCellP3
import Derived.Test.YtmghckddofefkaaHaE
import Derived.Test.YtmghckddofefkaaHaN
set_option linter.unusedVariables false
set_option linter.unusedSimpArgs false
namespace Go.Proofs.Ytmghckddofefkaa
open Go.RowKit

/-- What the cells hold: three sides by their stations. -/
def LS (S : Nat → Sd) : List (Int × Sd) := [(0, S 0), (1, S 1), (2, S 2)]
theorem LS.get (S : Nat → Sd) {k : Nat} (hk : k < 3) : getL (LS S) (k : Int) = some (S k) := by
  rcases (by omega : k = 0 ∨ k = 1 ∨ k = 2) with rfl | rfl | rfl <;> rfl
theorem LS.has (S : Nat → Sd) {k : Nat} (hk : k < 3) : hasL (LS S) (k : Int) = true := by
  rcases (by omega : k = 0 ∨ k = 1 ∨ k = 2) with rfl | rfl | rfl <;> rfl
theorem LS.put (S : Nat → Sd) {k : Nat} (hk : k < 3) (s : Sd) : putL (LS S) (k : Int) s = LS (updS S k s) := by
  rcases (by omega : k = 0 ∨ k = 1 ∨ k = 2) with rfl | rfl | rfl <;> rfl
theorem LS.kth (S : Nat → Sd) {k : Nat} (hk : k < 3) : US.kth (LS S) k = ((k : Int), S k) := by
  rcases (by omega : k = 0 ∨ k = 1 ∨ k = 2) with rfl | rfl | rfl <;> rfl
theorem LS.grow (S : Nat → Sd) {k : Nat} (hk : k < 3) : putL ((LS S).take k) (k : Int) (S k) = (LS S).take (k + 1) := by
  rcases (by omega : k = 0 ∨ k = 1 ∨ k = 2) with rfl | rfl | rfl <;> rfl
theorem u8_lt {k : Nat} (hk : k < 3) : (Lit.int .u8 (k : Int)).wf = true := by
  rcases (by omega : k = 0 ∨ k = 1 ∨ k = 2) with rfl | rfl | rfl <;> rfl
/-- How many of the first k hold the agency. -/
def heldN (S : Nat → Sd) : Nat → Int
  | 0 => 0
  | k + 1 => heldN S k + if (S k).l.st = 1 then 1 else 0
theorem heldN_le {n : Nat} {S : Nat → Sd} {said : List Mg} {c : ByteArray} {E : Int} {o : Nat} {t : Bool} (h : PI n S said c E o t) : ∀ k, k ≤ n → 0 ≤ heldN S k ∧ heldN S k ≤ if o < k then 1 else 0
  | 0, _ => by simp [heldN]
  | k + 1, hk => by
    obtain ⟨h0, h1⟩ := heldN_le h k (by omega)
    unfold heldN
    by_cases hs : (S k).l.st = 1
    · have hko : k = o := Classical.byContradiction fun hne => (h.oth k (by omega) hne).1 hs
      subst hko
      rw [if_neg (by omega)] at h1
      rw [if_pos hs, if_pos (by omega)]
      omega
    · rw [if_neg hs]
      split <;> split at h1 <;> omega
theorem PI.cgo {n : Nat} {S : Nat → Sd} {said : List Mg} {c : ByteArray} {E : Int} {o : Nat} {t : Bool} (h : PI n S said c E o t) {k : Nat} (hk : k < n) (hs : (S k).l.st = 1) : (S k).cg = c := by
  have hko : k = o := Classical.byContradiction fun hne => (h.oth k hk hne).1 hs
  subst hko
  exact h.ocg

theorem hear_to (s : Sd) (m : Mg) (hs : 0 ≤ s.l.to) (hm : 0 ≤ m.fr) : 0 ≤ (hearM s m).s.l.to := by
  rcases hear_kinds s m with e | ⟨_, _, _, ⟨_, e⟩ | ⟨_, e⟩ | ⟨_, e⟩ | ⟨_, e⟩⟩ <;> rw [e]
  · exact hs
  · unfold offerM; split <;> exact hs
  · unfold wantM; split
    · split
      · exact hs
      · exact hm
    · split <;> exact hs
  · unfold giveM; simp only; split
    · exact Int.le_refl _
    · exact hs
  · unfold gotM; split <;> exact hs
theorem to_upd {S : Nat → Sd} (h : ∀ j, j < 3 → 0 ≤ (S j).l.to) (k : Nat) {s : Sd} (hs : 0 ≤ s.l.to) : ∀ j, j < 3 → 0 ≤ (updS S k s j).l.to := by
  intro j hj
  unfold updS
  split
  · exact hs
  · exact h j hj
theorem inL_of {l : Ls} (h : rightL l = true) (ht : 0 ≤ l.to) : inL l := by
  rcases right_cases h with h | h | h <;> exact ⟨by omega, by omega, by omega⟩
theorem dur_len (s : Sd) (m : Mg) : (hearM s m).r.length ≤ 1 := by
  rcases hear_kinds s m with e | ⟨_, _, _, ⟨_, e⟩ | ⟨_, e⟩ | ⟨_, e⟩ | ⟨_, e⟩⟩ <;> rw [e]
  · simp
  · unfold offerM; split <;> simp
  · unfold wantM; split
    · split <;> simp
    · split <;> simp
  · unfold giveM; simp
  · unfold gotM; split <;> simp
/-- What was said, in a block of the walk's own. -/
def SD (w0 w : World) (A : Option Addr) (n q : Nat) (said : List Mg) : Prop := ∃ G, Seg w 37 5 A n q (rc mc said) G ∧ ∀ g, G = some g → w0.heap.size ≤ g
/-- What the walk carries: the cells, what was said, the result's box, the marks of the ranges that are over. -/
structure DI (w0 w : World) (B c : Nat) (A : Option Addr) (n q : Nat) (said : List Mg) (S S2 : Nat → Sd) (rb : Nat) (D : List Nat) : Prop where
  ce : US.CE B w c 8 (LS S) (LS S2)
  sd : SD w0 w A n q said
  rs : CB w rb 4 #[.bool false]
  mks : ∀ b ∈ D, w.heap[b]? = some (.deferred (some []))
  low : Below w0.heap.size w0 w
  leB : w0.heap.size ≤ B
  leR : w0.heap.size ≤ rb
  leD : ∀ b ∈ D, w0.heap.size ≤ b
  nd : D.Nodup
section
variable {w0 w w' : World} {B c : Nat} {A : Option Addr} {n q : Nat} {said : List Mg} {S S2 S' S2' : Nat → Sd} {rb : Nat} {D : List Nat}
theorem DI.on (h : DI w0 w B c A n q said S S2 rb D) (b : Below w.heap.size w w') : DI w0 w' B c A n q said S S2 rb D :=
  ⟨h.ce.on b, (by obtain ⟨G, hg, hG⟩ := h.sd; exact ⟨G, hg.on b, hG⟩), le_on h.rs b, fun g hg => (b.block g (Array.getElem?_eq_some_iff.1 (h.mks g hg)).1).trans (h.mks g hg), h.low.trans (b.mono h.low.size), h.leB, h.leR, h.leD, h.nd⟩
theorem SD.cf {L S3 : List (Int × Sd)} (h : SD w0 w A n q said) (hc : US.CE B w c 8 L S3) (hf : CF B w w' c) : SD w0 w' A n q said := by
  obtain ⟨G, hg, hG⟩ := h
  obtain ⟨⟨bn, bs, h1, _⟩, _⟩ := hc
  exact ⟨G, hf.seg hg (hg.ne_ h1 (by decide)), hG⟩
theorem RS.cf {L S3 : List (Int × Sd)} (h : RS w 37 mc 5 A n q said) (hc : US.CE B w c 8 L S3) (hf : CF B w w' c) : RS w' 37 mc 5 A n q said := by
  obtain ⟨G, hg⟩ := h
  obtain ⟨⟨bn, bs, h1, _⟩, _⟩ := hc
  exact ⟨G, hf.seg hg (hg.ne_ h1 (by decide))⟩
theorem SD.rs (h : SD w0 w A n q said) : RS w 37 mc 5 A n q said := by
  obtain ⟨G, hg, _⟩ := h
  exact ⟨G, hg⟩
theorem DI.cf (h : DI w0 w B c A n q said S S2 rb D) (hf : CF B w w' c) (hc : US.CE B w' c 8 (LS S') (LS S2')) : DI w0 w' B c A n q said S' S2' rb D := by
  have hne := h.ce.ne h.rs (by decide)
  refine ⟨hc, h.sd.cf h.ce hf, hf.cb h.rs hne, fun g hg => (hf.keep g (Array.getElem?_eq_some_iff.1 (h.mks g hg)).1 ?_ (fun es cl e => ?_)).trans (h.mks g hg), h.low.trans (hf.low.mono h.leB), h.leB, h.leR, h.leD, h.nd⟩
  · rintro rfl
    obtain ⟨⟨bn, bs, h1, _⟩, _⟩ := h.ce
    have h' : w.heap[g]? = some (.cells _ _ (0, 0)) := h1
    rw [h.mks g hg] at h'
    cases h'
  · rw [h.mks g hg] at e
    cases e
theorem DI.book (h : DI w0 w B c A n q said S S2 rb D) {l : Nat} (hl : Book w l) (hD : ∀ b ∈ D, b < l) (h0 : w0.heap.size ≤ l) (o : Obj) : DI w0 (w.putObj l o) B c A n q said S S2 rb D := by
  refine ⟨h.ce.putBook hl o, ?_, h.rs.same (World.putObj_heap_other (h.rs.noBook hl)), fun g hg => (World.putObj_heap_other (by have := hD g hg; omega)).trans (h.mks g hg), below_putObj h.low h0 o, h.leB, h.leR, h.leD, h.nd⟩
  obtain ⟨G, hg, hG⟩ := h.sd
  exact ⟨G, hg.putBook hl o, hG⟩
theorem DI.far (h : DI w0 w B c A n q said S S2 rb D) {g : Nat} {t : TypeId} {cs : Array Value} (hc : CB w g t cs) (h1 : t ≠ 111) (h2 : 37 ≠ t) (h3 : rb ≠ g) (h4 : w0.heap.size ≤ g) (i : Nat) (u : Value) : DI w0 (w.setCell ⟨g, i, none⟩ u) B c A n q said S S2 rb D :=
  ⟨h.ce.far hc h1 i u, (by obtain ⟨G, hg, hG⟩ := h.sd; exact ⟨G, hg.far (p := ⟨g, i, none⟩) (hg.ne_ hc h2) u, hG⟩), h.rs.far (p := ⟨g, i, none⟩) h3 u, fun b hb => (Below.heap_setCell w ⟨g, i, none⟩ u b (by
    rintro rfl
    have h' : w.heap[b]? = some (.cells cs t (0, 0)) := hc
    rw [h.mks b hb] at h'
    cases h')).trans (h.mks b hb), h.low.setCell (p := ⟨g, i, none⟩) h4 u, h.leB, h.leR, h.leD, h.nd⟩
/-- Behind an append to what was said. -/
theorem DI.app (h : DI w0 w B c A n q said S S2 rb D) {G G1 : Option Nat} {A1 : Option Addr} {N q1 : Nat} {R : List Mg} (hs : Seg w 37 5 A n q (rc mc said) G) (hG : ∀ g, G = some g → w0.heap.size ≤ g)
    (h1 : Seg w' 37 5 A1 N q1 (rc mc said ++ rc mc R) G1) (h2 : w.grownBy w' G) (h3 : Moved w G G1) : DI w0 w' B c A1 N q1 (said ++ R) S S2 rb D := by
  have cells : ∀ g, G = some g → ∃ cs, w.heap[g]? = some (.cells cs 37 (0, 0)) := by
    rintro g rfl
    rcases hs.2.2.2 with ⟨_, _, h0⟩ | ⟨g', off, cur, _, e2, e3, _⟩
    · cases h0
    · cases e2
      exact ⟨cur, e3⟩
  refine ⟨h.ce.grown h2 (fun g e => ?_), ⟨G1, by rw [rc_append]; exact h1, fun g e => h3.ge h.low.size hG g e⟩, h.rs.same (h2.block _ h.rs.lt (fun e => hs.ne_ h.rs (by decide) e.symm)), fun b hb => ?_, h.low.grown h2 h.low.size hG, h.leB, h.leR, h.leD, h.nd⟩
  · obtain ⟨cs, hc⟩ := cells g e
    obtain ⟨⟨bn, bs, k1, _⟩, _⟩ := h.ce
    refine ⟨fun e2 => hs.ne_ k1 (by decide) (by rw [e, e2]), fun es cl e3 => ?_⟩
    rw [hc] at e3
    cases e3
  · refine (h2.block _ (Array.getElem?_eq_some_iff.1 (h.mks b hb)).1 (fun e => ?_)).trans (h.mks b hb)
    obtain ⟨cs, hc⟩ := cells b e.symm
    rw [h.mks b hb] at hc
    cases hc
theorem DI.addMark (h : DI w0 w B c A n q said S S2 rb D) {b : Nat} (hb : w.heap[b]? = some (.deferred (some []))) (h0 : w0.heap.size ≤ b) (hn : ∀ x ∈ D, x < b) : DI w0 w B c A n q said S S2 rb (b :: D) :=
  ⟨h.ce, h.sd, h.rs, (fun g hg => by rcases List.mem_cons.1 hg with rfl | hg; exact hb; exact h.mks g hg), h.low, h.leB, h.leR, (fun g hg => by rcases List.mem_cons.1 hg with rfl | hg; exact h0; exact h.leD g hg), List.nodup_cons.2 ⟨fun hm => by have := hn _ hm; omega, h.nd⟩⟩
theorem _root_.Go.RowKit.Below.on {w w1 w2 : World} (h : Below w.heap.size w w1) (b : Below w1.heap.size w1 w2) : Below w.heap.size w w2 := le_tr h b
end

/-- The mark that a range over a function leaves. -/
def mark (b : Nat) : Deferred := { target := .collected b, args := #[] }
theorem Try.infoMsgD : (Try.prog.info? 37).map (fun i => (i.zero, i.size, i.bytes)) = some (some (.agg #[.int .i64 0, .int .u8 0, .int .u8 0, .int .i64 0, .string ⟨#[]⟩]), 5, 40) := by kernel_rfl
theorem leaves_marks {P : Program} {fn : Func} {tmps : Array Value} {R : Ending → World → Prop} {w0 : World} : ∀ (D : List Nat) (w : World), (∀ b ∈ D, w.heap[b]? = some (.deferred (some []))) → D.Nodup → (∀ b ∈ D, w0.heap.size ≤ b) → Below w0.heap.size w0 w →
    (∀ w', (∀ g, g ∉ D → w'.heap[g]? = w.heap[g]?) → Below w0.heap.size w0 w' → LeavesIn Fence.wide 0 P fn tmps R [] .returning w') → LeavesInM Fence.wide 0 P fn tmps R (D.map mark) .returning w
  | [], w, _, _, _, hl, h => by
    rw [LeavesInM.eq_def]
    exact h w (fun _ _ => rfl) hl
  | b :: D, w, hm, hd, hD, hl, h => by
    rw [LeavesInM.eq_def]
    refine ⟨by simp, .inl ⟨b, _, rfl, run_takeDeferred (hm b (by simp)), ?_⟩⟩
    have hd' := List.nodup_cons.1 hd
    refine leaves_marks D _ (fun g hg => ?_) hd'.2 (fun g hg => hD g (by simp [hg])) (below_putObj hl (hD b (by simp)) _) (fun w' hw' hl' => h w' (fun g hg => ?_) hl')
    · rw [World.putObj_heap_other (by rintro rfl; exact hd'.1 hg)]
      exact hm g (by simp [hg])
    · simp only [List.mem_cons, not_or] at hg
      rw [hw' g hg.2, World.putObj_heap_other hg.1]
/-- The walk's end: the result's box holds true. -/
theorem DI.ends {w0 w : World} {B c : Nat} {A : Option Addr} {n q : Nat} {said : List Mg} {S S2 : Nat → Sd} {rb : Nat} {D : List Nat} (h : DI w0 w B c A n q said S S2 rb D) {P : Program} {fn : Func} {tmps : Array Value} {R : Ending → World → Prop}
    (hR : ∀ w', CB w' rb 4 #[.bool true] → Below w0.heap.size w0 w' → LeavesIn Fence.wide 0 P fn tmps R [] .returning w') : LeavesInM Fence.wide 0 P fn tmps R (D.map mark) .returning (w.setCell ⟨rb, 0, none⟩ (.bool true)) := by
  have hne : ∀ b ∈ D, b ≠ rb := by
    rintro b hb rfl
    have h' : w.heap[b]? = some (.cells _ _ (0, 0)) := h.rs
    rw [h.mks b hb] at h'
    cases h'
  have hb : CB (w.setCell ⟨rb, 0, none⟩ (.bool true)) rb 4 #[.bool true] := by
    have := h.rs.put 0 (.bool true)
    simpa using this
  refine leaves_marks (w0 := w0) D _ (fun b hb => (Below.heap_setCell w ⟨rb, 0, none⟩ _ b (hne b hb)).trans (h.mks b hb)) h.nd h.leD (h.low.setCell (p := ⟨rb, 0, none⟩) h.leR _) (fun w' hw' hl' => hR w' (hb.same (hw' rb (fun hm => hne rb hm rfl))) hl')
end Go.Proofs.Ytmghckddofefkaa
