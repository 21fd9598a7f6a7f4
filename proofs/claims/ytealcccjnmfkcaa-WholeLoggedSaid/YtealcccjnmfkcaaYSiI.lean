/-
  A site in a statement's walk: what is known of it between the calls; played and Replay. Conditions: the calls can be read, their numbers such as their types hold, not many of them.
-/
import Derived.Test.YtealcccjnmfkcaaYSiH
import Derived.Test.YtealcccjnmfkcaaSiW
set_option linter.unusedVariables false
set_option linter.unusedSimpArgs false
namespace Go.Proofs.Ytealcccjnmfkcaa
open Go.RowKit

/-- A site in the world W of a walk that began at w: none of its own blocks lies below B, none is one of those that Rs names. -/
structure ST (B : Nat) (w W : World) (Rs : Nat → Prop) (b m : Nat) (G : Option Nat) (s : Si) (log : List Rc) : Prop where
  sr : SR W b m G s log
  hi : Hi B b m G
  low : Below B w W
  out : ∀ R, Rs R → R < W.heap.size ∧ R ≠ b ∧ R ≠ m ∧ ∀ g, G = some g → g ≠ R
section
variable {B : Nat} {w W W' : World} {Rs : Nat → Prop} {b m : Nat} {G : Option Nat} {s : Si} {log : List Rc}
theorem ST.on (h : ST B w W Rs b m G s log) (hB : B ≤ W.heap.size) (hb : Below W.heap.size W W') : ST B w W' Rs b m G s log :=
  ⟨h.sr.on hb, h.hi, bel2B h.low hB hb, fun R hR => ⟨Nat.lt_of_lt_of_le (h.out R hR).1 hb.size, (h.out R hR).2⟩⟩
theorem ST.le (h : ST B w W Rs b m G s log) : B ≤ W.heap.size := by have := h.sr.lt.1; have := h.hi.b; omega
theorem ST.onw (h : ST B w W Rs b m G s log) (hb : Below W.heap.size W W') : ST B w W' Rs b m G s log := h.on h.le hb
/-- A block that is new is apart from the site. -/
theorem ST.add (h : ST B w W Rs b m G s log) (hb : Below W.heap.size W W') {R : Nat} (hR : W.heap.size ≤ R) (hR' : R < W'.heap.size) : ST B w W' (fun x => Rs x ∨ x = R) b m G s log := by
  have h' := h.onw hb
  refine ⟨h'.sr, h'.hi, h'.low, ?_⟩
  rintro x (hx | rfl)
  · exact h'.out x hx
  · obtain ⟨l1, l2, l3⟩ := h.sr.lt
    exact ⟨hR', by omega, by omega, fun g e => by have := l3 g e; omega⟩
theorem ST.less (h : ST B w W Rs b m G s log) {Rs' : Nat → Prop} (hs : ∀ x, Rs' x → Rs x) : ST B w W Rs' b m G s log := ⟨h.sr, h.hi, h.low, fun R hR => h.out R (hs R hR)⟩
theorem ST.drew (h : ST B w W Rs b m G s log) : ST B w W.drew Rs b m G s log := ⟨h.sr.drew, h.hi, belowD h.low, h.out⟩
/-- Behind a call. -/
theorem ST.done (h : ST B w W Rs b m G s log) {r : Rc} {e : Ending} (hd : DoPost W b m G s log r e W') (hB : B ≤ w.heap.size) :
    e = .returned (.tuple #[.int .i64 (nDo s r), .int .i64 (eDo s r)]) ∧ ∃ G', ST B w W' Rs b m G' (sDo s r) (if eDo s r = 0 then log ++ [r] else log) ∧ (∀ R, Rs R → W'.heap[R]? = W.heap[R]?) ∧ (∀ i, i < B → W'.heap[i]? = W.heap[i]?) ∧ W.heap.size ≤ W'.heap.size := by
  obtain ⟨he, G', h1, h2, h3⟩ := hd
  refine ⟨he, G', ⟨h1, ⟨h.hi.b, h.hi.m, fun g e => ?_⟩, ?_, fun R hR => ?_⟩, fun R hR => ?_, fun i hi => ?_, h2.size⟩
  · rcases h3 g e with e' | e'
    · exact h.hi.G g e'
    · have := h.le; omega
  · exact h.low.trans (h2.below h.le h.hi.b h.hi.m h.hi.G)
  · obtain ⟨o1, o2, o3, o4⟩ := h.out R hR
    refine ⟨Nat.lt_of_lt_of_le o1 h2.size, o2, o3, fun g e => ?_⟩
    rcases h3 g e with e' | e'
    · exact o4 g e'
    · omega
  · obtain ⟨o1, o2, o3, o4⟩ := h.out R hR
    exact h2.block R o1 o2 o3 (fun e => o4 R e.symm rfl)
  · have := h.le
    have := h.hi.b
    have := h.hi.m
    exact h2.block i (by omega) (by omega) (by omega) (fun e => by have := h.hi.G i e.symm; omega)
end
/-- A slice of calls that is no site's grows. -/
theorem SR.grown {w w' : World} {b m : Nat} {G G2 : Option Nat} {s : Si} {log : List Rc} (h : SR w b m G s log) (hg : w.grownBy w' G2) (hT : ∀ g, G2 = some g → (∃ cs, CB w g 35 cs) ∧ g ≠ b ∧ g ≠ m ∧ ∀ g', G = some g' → g' ≠ g) : SR w' b m G s log := by
  obtain ⟨⟨A1, n1, c1, A2, n2, c2, A3, n3, c3, f, h1, h2, h3, h4, h5, h6⟩, hg'⟩ := h
  have keep : ∀ (T : TypeId), T ≠ 35 → ∀ (g : Nat) (cs : Array Value), CB w g T cs → w'.heap[g]? = w.heap[g]? := fun T t1 g cs hc => hg.block g hc.lt (fun e => by
    obtain ⟨⟨cs', hc'⟩, _⟩ := hT g e.symm
    exact hc.ne_ hc' t1 rfl)
  exact ⟨⟨A1, n1, c1, A2, n2, c2, A3, n3, c3, f, h1.same (hg.block _ h1.lt (fun e => (hT b e.symm).2.1 rfl)), h2.keep2 (keep _ Try.neDR), h3.keep2 (keep _ Try.neHR), h4.same (hg.block _ h4.lt (fun e => (hT m e.symm).2.2.1 rfl)),
    h5.keep fun g e => hg.block g (h5.lt g e) (fun e' => (hT g e'.symm).2.2.2 g e rfl), h6.keep (keep _ Try.neDR)⟩, hg'⟩
theorem ST.grown {B : Nat} {w W W' : World} {Rs : Nat → Prop} {b m : Nat} {G G2 G8 : Option Nat} {s : Si} {log : List Rc} (h : ST B w W Rs b m G s log) (hg : W.grownBy W' G2) (hm : Moved W G2 G8) (hT : ∀ g, G2 = some g → ∃ cs, CB W g 35 cs) (hs : ∀ x, G2 = some x → Rs x) (hB : ∀ g, G2 = some g → B ≤ g) (hl : ∀ g, G8 = some g → g < W'.heap.size) :
    ST B w W' (fun x => G8 = some x) b m G s log := by
  refine ⟨h.sr.grown hg fun g e => ⟨hT g e, (h.out g (hs g e)).2⟩, h.hi, h.low.grown hg h.le hB, fun R hR => ?_⟩
  rcases hm with e | ⟨g, e, hlt⟩
  · exact ⟨hl R hR, (h.out R (hs R (e ▸ hR))).2⟩
  · rw [e] at hR
    cases hR
    obtain ⟨l1, l2, l3⟩ := h.sr.lt
    exact ⟨hl _ e, by omega, by omega, fun g' e' => by have := l3 g' e'; omega⟩
theorem logs_len (s : Si) (l : List Rc) : (logs s l).length ≤ l.length := by
  induction l generalizing s with
  | nil => simp [logs]
  | cons x r ih =>
    unfold logs
    have := ih (sDo s x)
    split
    · simp; exact this
    · simp; omega
theorem take_allR {L : List Rc} {n : Nat} (h : L.length = n) : L.take n = L := List.take_of_length_le (by omega)
theorem plays_take {L : List Rc} {j : Nat} (hj : j < L.length) : plays si0 (L.take (j + 1)) = sDo (plays si0 (L.take j)) (tkR L j) := by rw [tkR_take hj, plays_snoc]
theorem logs_take {L : List Rc} {j : Nat} (hj : j < L.length) : logs si0 (L.take (j + 1)) = if eDo (plays si0 (L.take j)) (tkR L j) = 0 then logs si0 (L.take j) ++ [tkR L j] else logs si0 (L.take j) := by
  rw [tkR_take hj, logs_snoc]
  split <;> simp

/-- A call gave a site upon which the calls were done. -/
def PlPost (w : World) (L : List Rc) (e : Ending) (w' : World) : Prop := ∃ b m G, e = .returned (.pointer (some ⟨b, 0, none⟩)) ∧ ST w.heap.size w w' (fun _ => False) b m G (plays si0 (L.take 120)) (logs si0 (L.take 120))

set_option maxRecDepth 100000 in
set_option maxHeartbeats 2000000 in
theorem played_c (A : Option Addr) (n c : Nat) (L : List Rc) (w : World) (h : KR w A n c L) (hr : ∀ r ∈ L, RcOk r) :
    Calls Try.prog 20 #[.slice A n c] w (PlPost w L) := by
  have hlen := Lib.hid h.len
  have hmx : n ≤ maxLen := Nat.le_trans h.cap h.max
  simp only [maxLen] at hmx
  go_enter Try.func20, Try.ntmps20
  go_wp2_with fail
  (with_reducible refine (new_c w).mono ?_)
  rintro e w1 ⟨b, m, rfl, h1, h2, h3⟩
  have hst : ST w.heap.size w w1 (fun _ => False) b m none si0 [] := ⟨h1, h3, h2, fun R hR => hR.elim⟩
  clear h1 h2 h3
  go_wp2_with fail
  go_loopw [4] (fun i wr => ∃ (j : Nat) (G : Option Nat), j ≤ n ∧ j ≤ 120 ∧ i = .int .i64 j ∧ ST w.heap.size w wr (fun _ => False) b m G (plays si0 (L.take j)) (logs si0 (L.take j))) (fun i _ => n - (intOf i).toNat)
  case atStart => exact ⟨0, none, by omega, by omega, rfl, by rw [List.take_zero]; exact hst⟩
  case round =>
    clear hst
    obtain ⟨j, G, hj, hj2, rfl, hst⟩ := hrel
    by_cases hlt : j < n
    · by_cases hl2 : j < 120
      · have hlt1 : (j : Int) < (n : Int) := by omega
        have hl3 : (j : Int) < 120 := by omega
        have hjl : j < L.length := by rw [hlen.out]; exact hlt
        obtain ⟨g, off, rfl, d0, d1, d2, d3⟩ := (h.on hst.low).at4 hlt
        have hpl := Lib.hid (plays_take hjl)
        have hlg := Lib.hid (logs_take hjl)
        have hdo := do_c b m G _ _ (tkR L j) wr hst.sr (hr _ (tkR_mem hjl)) (by have := logs_len si0 (L.take j); simp at this; omega)
        generalize tkR L j = x at *
        generalize plays si0 (L.take j) = S at *
        generalize logs si0 (L.take j) = K at *
        have Hst := Lib.hid hst
        clear hst
        go_wp2_with fail
        (with_reducible refine hdo.mono ?_)
        intro e w2 hp
        obtain ⟨rfl, G', ht, _⟩ := Hst.out.done hp (Nat.le_refl _)
        rw [← hpl.out, ← hlg.out] at ht
        have Ht := Lib.hid ht
        clear hp ht hdo d0 d1 d2 d3
        go_wp2_with fail
        go_roundw
        case rel => exact ⟨j + 1, G', by omega, by omega, by go_num, Ht.out⟩
        case measure => simp [intOf]; omega
      · obtain rfl : j = 120 := by omega
        have hl3 : ¬ ((120 : Nat) : Int) < 120 := by omega
        have hlt1 : ((120 : Nat) : Int) < (n : Int) := by omega
        go_wp2_with fail
        go_ret
        exact ⟨b, m, G, rfl, hst⟩
    · obtain rfl : j = n := by omega
      have Hr := Lib.hid (show L.take j = L.take 120 by rw [take_allR hlen.out]; exact (List.take_of_length_le (by rw [hlen.out]; exact hj2)).symm)
      rw [Hr.out] at hst
      go_wp2_with fail
      go_ret
      exact ⟨b, m, G, rfl, hst⟩
end Go.Proofs.Ytealcccjnmfkcaa
