/-
  Layer 18: what a call that changes one ring makes of an air. No condition.
-/
import Derived.Test.YtcfdfimkgehdfaaAiB
set_option linter.unusedVariables false
set_option linter.unusedSimpArgs false
set_option linter.unusedSectionVars false
namespace Go.Proofs.Ytcfdfimkgehdfaa
open Go.RowKit

/-- Behind a call of an air. -/
def APost (w : World) (S : Nat → Prop) (ba room : Nat) (Q : Qs) (v : Value) (e : Ending) (w' : World) : Prop :=
  e = .returned v ∧ ∃ S', AO S' ba room Q w' ∧ Out w w' S ∧ ∀ i, S' i → S i ∨ w.heap.size ≤ i
/-- Behind Take. -/
def TPost (w : World) (S : Nat → Prop) (ba room : Nat) (Q : Qs) (t : Nat) (k : Int) (e : Ending) (w' : World) : Prop :=
  ∃ x : Lm, e = .returned (.tuple #[.agg (lA x), .int .i64 ((eAt Q t k : Nat) : Int)]) ∧ x.lt = xTk Q t k ∧ RS w' 5 bcl 1 x.A x.n x.c x.b ∧ ∃ S', AO S' ba room (sTk Q t k) w' ∧ Out w w' S ∧ (∀ i, S' i → S i ∨ w.heap.size ≤ i) ∧ ∀ g, InB x.A g → S g ∧ ¬ S' g
section
variable {w w1 w' : World} {S : Nat → Prop} {ba room : Nat} {Q : Qs} {rb : Nat → Nat} {sl : Nat → Option Addr × Nat × Nat} {Ls : Nat → List Lm}
theorem APost.no (h : AO S ba room Q w) (hb : Below w.heap.size w w') {Q' : Qs} (hq : Q' = Q) {v v' : Value} (hv : v' = v) : APost w S ba room Q' v (.returned v') w' := by
  subst hq hv
  exact ⟨rfl, S, h.on hb, Out.of S hb, fun i hi => .inl hi⟩
theorem TPost.no (h : AO S ba room Q w) (hb : Below w.heap.size w w') {t : Nat} {k : Int} {q : Nat} (hq : eAt Q t k = q) (h0 : ¬ q = 0) : TPost w S ba room Q t k (.returned (.tuple #[.agg (lA zeroL), .int .i64 (q : Int)])) w' := by
  subst hq
  refine ⟨zeroL, rfl, by unfold xTk; rw [if_neg h0]; rfl, RS.nil _ _ _ _, S, ?_, Out.of S hb, fun _ h => .inl h, fun g hg => by obtain ⟨_, e⟩ := hg; cases e⟩
  unfold sTk
  rw [if_neg h0]
  exact h.on hb
theorem map_erase {α β : Type} (f : α → β) (l : List α) (k : Nat) : (l.eraseIdx k).map f = (l.map f).eraseIdx k := by
  apply List.ext_getElem?
  intro i
  rw [List.getElem?_map, List.getElem?_eraseIdx, List.getElem?_eraseIdx, List.getElem?_map, List.getElem?_map]
  split <;> rfl
theorem rs_ng {b n c : Nat} {A A' : Option Addr} {n' c' : Nat} {L : List Lm} {bs : List UInt8} (hr : RG w b room A n c L) (hx : RS w 5 bcl 1 A' n' c' bs) {g : Nat} (hg : InB A' g) : ¬ InG b A g := fun e => by
  rcases e with e | e
  · exact hx.neB hg hr.box (by decide) e
  · exact hx.apB hr.row (by decide) hg e
theorem AS.ng (h : AS w ba room rb sl Ls) {t : Nat} (ht : t < 17) {i : Nat} (hi : Rest ba t rb sl Ls i) : i < w.heap.size ∧ ¬ InG (rb t) (sl t).1 i := by
  obtain ⟨h1, h2, h3, _⟩ := h.rest ht hi
  exact ⟨h1, fun e => e.elim h2 h3⟩
/-- One more letter. -/
theorem AS.pushed (h : AS w ba room rb sl Ls) {t : Nat} (ht : t < 17) {x : Lm} {G : Option Nat} (b1 : Below w.heap.size w w1) (hx : SO w.heap.size w1 5 bcl 1 x.A x.n x.c x.b G) {e : Ending} (gp : GPost w1 (rb t) room (sl t).1 (Ls t ++ [x]) e w') :
    e = .returned (.int .i64 0) ∧ ∃ p, AS w' ba room rb (up sl t p) (up Ls t (Ls t ++ [x])) ∧ (∀ i, OwnA ba rb (up sl t p) (up Ls t (Ls t ++ [x])) i → OwnA ba rb sl Ls i ∨ w.heap.size ≤ i) ∧ Out w w' (OwnA ba rb sl Ls) := by
  obtain ⟨he, A', c', g1, g2, g3⟩ := gp
  have h1 := (h.ring t ht).on b1
  have hsz := b1.size
  have ho : Out w w' (InG (rb t) (sl t).1) := (Out.of _ b1).trans g2 (fun i _ hi => hi)
  have hold : ∀ y ∈ Ls t, RS w' 5 bcl 1 y.A y.n y.c y.b := fun y hy => (h.byt t ht y hy).keepB fun g hg => ho.block g ((h.byt t ht y hy).ltB hg) (rs_ng (h.ring t ht) (h.byt t ht y hy) hg)
  have hnew : RS w' 5 bcl 1 x.A x.n x.c x.b := hx.rs.keepB fun g hg => g2.block g (hx.rs.ltB hg) (rs_ng h1 hx.rs hg)
  obtain ⟨u1, u2⟩ := h.upd (w' := w') ht (L := Ls t ++ [x]) ho.size g1 (fun y hy => by
      rw [List.mem_append, List.mem_singleton] at hy
      rcases hy with hy | rfl
      · exact hold y hy
      · exact hnew) (fun i hi => ho.block i (h.ng ht hi).1 (h.ng ht hi).2) (fun g hg => (g3 g hg).elim .inl (fun e => .inr (Nat.le_trans hsz e))) (fun y hy g hg => by
      rw [List.mem_append, List.mem_singleton] at hy
      rcases hy with hy | rfl
      · exact .inl ⟨y, hy, hg⟩
      · exact .inr (hx.in_ hg)) (fun i j y z hy hz hne g hg hg2 => by
      rw [List.getElem?_append] at hy hz
      split at hy
      · split at hz
        · exact h.apB t t i j y z ht ht hy hz (fun e => hne e.2) g hg hg2
        · have hz2 : z = x := by rename_i h1 h2; rw [show j - (Ls t).length = 0 by have := (List.getElem?_eq_some_iff.1 hz).1; simp at this; omega] at hz; simp at hz; exact hz.symm
          subst hz2
          have := (h.byt t ht y (List.mem_of_getElem? hy)).ltB hg
          have := hx.in_ hg2
          omega
      · have hy2 : y = x := by rw [show i - (Ls t).length = 0 by have := (List.getElem?_eq_some_iff.1 hy).1; simp at this; omega] at hy; simp at hy; exact hy.symm
        subst hy2
        split at hz
        · have := (h.byt t ht z (List.mem_of_getElem? hz)).ltB hg2
          have := hx.in_ hg
          omega
        · have h1 := (List.getElem?_eq_some_iff.1 hy).1
          have h2 := (List.getElem?_eq_some_iff.1 hz).1
          simp at h1 h2
          omega)
  exact ⟨he, _, u1, u2, ho.mono (fun i _ hi => .inr ⟨t, ht, hi.elim .inl (fun e => .inr (.inl e))⟩)⟩
theorem APost.pushed (h : AO S ba room Q w) (hA : AS w ba room rb sl Ls) (hq : ∀ t, t < 17 → (Ls t).map Lm.lt = Q t) (hS : ∀ i, OwnA ba rb sl Ls i → S i) {t : Nat} (ht : t < 17) {x : Lm} {G : Option Nat} (b1 : Below w.heap.size w w1) (hx : SO w.heap.size w1 5 bcl 1 x.A x.n x.c x.b G) {e : Ending}
    (gp : GPost w1 (rb t) room (sl t).1 (Ls t ++ [x]) e w') {Q' : Qs} (hQ : Q' = updQ Q t (Q t ++ [x.lt])) (hok : Roomy room Q') : e = .returned (.int .i64 0) ∧ APost w S ba room Q' (.int .i64 0) (.returned (.int .i64 0)) w' := by
  obtain ⟨he, p, u1, u2, u3⟩ := hA.pushed ht b1 hx gp
  subst hQ
  refine ⟨he, rfl, _, AO.own u1 (up_map hq (by rw [List.map_append, hq t ht]; rfl)) h.ok.rm hok, u3.mono (fun i _ hi => hS i hi), fun i hi => (u2 i hi).imp (hS i) id⟩
/-- One letter less. -/
theorem TPost.dropped (h : AO S ba room Q w) (hA : AS w ba room rb sl Ls) (hq : ∀ t, t < 17 → (Ls t).map Lm.lt = Q t) (hS : ∀ i, OwnA ba rb sl Ls i → S i) {t : Nat} (ht : t < 17) {k : Nat} {x : Lm} (hk : (Ls t)[k]? = some x) (b1 : Below w.heap.size w w1)
    {e : Ending} (gp : GPost w1 (rb t) room (sl t).1 ((Ls t).eraseIdx k) e w') : e = .returned (.int .i64 0) ∧ TPost w S ba room Q t k (.returned (.tuple #[.agg (lA x), .int .i64 0])) w' ∧ Out w1 w' (InG (rb t) (sl t).1) := by
  obtain ⟨he, A', c', g1, g2, g3⟩ := gp
  have hlk : (Ls t).length = (Q t).length := by rw [← hq t ht, List.length_map]
  have hkl := (List.getElem?_eq_some_iff.1 hk).1
  have he0 : eAt Q t k = 0 := by unfold eAt; rw [if_neg (by omega), if_pos (by omega)]
  have hxq : xTk Q t k = x.lt := by
    have := xTk_at he0
    rw [← hq t ht, List.getElem?_map, show ((k : Int)).toNat = k by simp, hk] at this
    simpa using this.symm
  have h1 := (h.ok.rm)
  have hsz := b1.size
  have ho : Out w w' (InG (rb t) (sl t).1) := (Out.of _ b1).trans g2 (fun i _ hi => hi)
  have hold : ∀ y ∈ Ls t, RS w' 5 bcl 1 y.A y.n y.c y.b := fun y hy => (hA.byt t ht y hy).keepB fun g hg => ho.block g ((hA.byt t ht y hy).ltB hg) (rs_ng (hA.ring t ht) (hA.byt t ht y hy) hg)
  have hsub : ∀ y ∈ (Ls t).eraseIdx k, y ∈ Ls t := fun y hy => List.mem_of_mem_eraseIdx hy
  -- where the letters of the shorter list stood
  have hpos : ∀ (i : Nat) (y : Lm), ((Ls t).eraseIdx k)[i]? = some y → ∃ i', (Ls t)[i']? = some y ∧ ¬ i' = k ∧ (if i < k then i' = i else i' = i + 1) := fun i y hy => by
    rw [List.getElem?_eraseIdx] at hy
    split at hy
    · rename_i h1; exact ⟨i, hy, by omega, by rw [if_pos h1]⟩
    · rename_i h1; exact ⟨i + 1, hy, by omega, by rw [if_neg h1]⟩
  obtain ⟨u1, u2⟩ := hA.upd (w' := w') ht (L := (Ls t).eraseIdx k) ho.size g1 (fun y hy => hold y (hsub y hy)) (fun i hi => ho.block i (hA.ng ht hi).1 (hA.ng ht hi).2) (fun g hg => (g3 g hg).elim .inl (fun e => .inr (Nat.le_trans hsz e)))
    (fun y hy g hg => .inl ⟨y, hsub y hy, hg⟩) (fun i j y z hy hz hne g hg hg2 => by
      obtain ⟨i', e1, _, e2⟩ := hpos i y hy
      obtain ⟨j', f1, _, f2⟩ := hpos j z hz
      refine hA.apB t t i' j' y z ht ht e1 f1 (fun e => hne ?_) g hg hg2
      have := e.2
      split at e2 <;> split at f2 <;> omega)
  have hQ : sTk Q t k = updQ Q t ((Q t).eraseIdx k) := by unfold sTk; rw [if_pos he0, show ((k : Int)).toNat = k by simp]
  have hxm := List.mem_of_getElem? hk
  refine ⟨he, ⟨x, by rw [he0]; rfl, hxq.symm, hold x hxm, OwnA ba rb (up sl t (A', ((Ls t).eraseIdx k).length, c')) (up Ls t ((Ls t).eraseIdx k)), ?_, ho.mono (fun i _ hi => hS i (.inr ⟨t, ht, hi.elim .inl (fun e => .inr (.inl e))⟩)), fun i hi => (u2 i hi).imp (hS i) id, fun g hg => ⟨hS g (.inr ⟨t, ht, .inr (.inr ⟨x, hxm, hg⟩)⟩), ?_⟩⟩, g2⟩
  · rw [hQ]
    exact AO.own u1 (up_map hq (by rw [← hq t ht, map_erase])) h.ok.rm (by rw [← hQ]; exact roomy_tk h.ok.ok t k)
  · have hr := hold x hxm
    rintro (rfl | ⟨s, hs, rfl | hi | ⟨y, hy, hi⟩⟩)
    · obtain ⟨cs, hcs⟩ := u1.arr.cb
      exact hr.neB hg hcs (by decide) rfl
    · exact hr.neB hg (u1.ring s hs).box (by decide) rfl
    · exact hr.apB (u1.ring s hs).row (by decide) hg hi
    · by_cases e : s = t
      · subst e
        rw [up_same] at hy
        obtain ⟨j, hj⟩ := List.mem_iff_getElem?.1 hy
        obtain ⟨j', f1, f2, _⟩ := hpos j y hj
        exact hA.apB s s k j' x y hs hs hk f1 (fun e => f2 e.2.symm) g hg hi
      · rw [up_other _ _ e] at hy
        obtain ⟨j, hj⟩ := List.mem_iff_getElem?.1 hy
        exact hA.apB t s k j x y ht hs hk hj (fun e' => e e'.1.symm) g hg hi
/-- One letter's byte is turned. -/
theorem APost.turned (h : AO S ba room Q w) (hA : AS w ba room rb sl Ls) (hq : ∀ t, t < 17 → (Ls t).map Lm.lt = Q t) (hS : ∀ i, OwnA ba rb sl Ls i → S i) {t : Nat} (ht : t < 17) {k : Nat} {x : Lm} (hk : (Ls t)[k]? = some x) {g : Nat} (hg : InB x.A g) (ho : Out w w' (fun i => i = g))
    {p : Nat} {y : UInt8} (hx : RS w' 5 bcl 1 x.A x.n x.c (tnB x.b p y)) (hn : ¬ x.b.length = 0) : APost w S ba room (sTn Q t k p y) (.int .i64 ((eTn Q t k : Nat) : Int)) (.returned (.int .i64 0)) w' := by
  have hlk : (Ls t).length = (Q t).length := by rw [← hq t ht, List.length_map]
  have hkl := (List.getElem?_eq_some_iff.1 hk).1
  have he0 : eAt Q t k = 0 := by unfold eAt; rw [if_neg (by omega), if_pos (by omega)]
  have hxq : xTk Q t k = x.lt := by
    have := xTk_at he0
    rw [← hq t ht, List.getElem?_map, show ((k : Int)).toNat = k by simp, hk] at this
    simpa using this.symm
  have he : eTn Q t k = 0 := by unfold eTn; rw [if_pos he0, hxq]; exact if_neg hn
  have hxm := List.mem_of_getElem? hk
  have hxr := hA.byt t ht x hxm
  have hQ : sTn Q t k p y = updQ Q t ((Q t).set k (tnL x.lt p y)) := by unfold sTn; rw [if_pos he, hxq, show ((k : Int)).toNat = k by simp]
  have hrc : rc lcl ((Ls t).set k { x with b := tnB x.b p y }) = rc lcl (Ls t) := by
    have : ((Ls t).set k { x with b := tnB x.b p y }).map lcl = (Ls t).map lcl := by
      rw [List.map_set]
      apply List.ext_getElem?
      intro i
      by_cases e : k = i
      · subst e
        rw [List.getElem?_set_self (by simpa using hkl), List.getElem?_map, hk]; rfl
      · rw [List.getElem?_set_ne e]
    unfold rc
    rw [List.flatMap_def, List.flatMap_def, this]
  have hring : RG w' (rb t) room (sl t).1 (sl t).2.1 (sl t).2.2 ((Ls t).set k { x with b := tnB x.b p y }) := by
    have h1 := (hA.ring t ht).keep (w' := w') fun i hi => ho.block i ((hA.ring t ht).lt hi) (fun e => rs_ng (hA.ring t ht) hxr hg (e ▸ hi))
    refine ⟨h1.box, ?_⟩
    obtain ⟨G, h2⟩ := h1.row
    exact ⟨G, by rw [hrc]; exact h2⟩
  obtain ⟨u1, u2⟩ := hA.upd (w' := w') ht (L := (Ls t).set k { x with b := tnB x.b p y }) ho.size hring (fun z hz => by
      obtain ⟨j, hj⟩ := List.mem_iff_getElem?.1 hz
      by_cases e : k = j
      · subst e
        rw [List.getElem?_set_self hkl] at hj
        cases hj
        exact hx
      · rw [List.getElem?_set_ne e] at hj
        have hz2 := List.mem_of_getElem? hj
        exact (hA.byt t ht z hz2).keepB fun g' hg' => ho.block g' ((hA.byt t ht z hz2).ltB hg') (fun e' => hA.apB t t j k z x ht ht hj hk (fun e2 => e e2.2.symm) g' hg' (e' ▸ hg))) (fun i hi => ho.block i (hA.rest ht hi).1 (fun e => (hA.rest ht hi).2.2.2 x hxm (e ▸ hg))) (fun g hg => .inl hg) (fun z hz g' hg' => by
      rcases List.mem_or_eq_of_mem_set hz with hz | rfl
      · exact .inl ⟨z, hz, hg'⟩
      · exact .inl ⟨x, hxm, hg'⟩) (fun i j z z' hz hz' hne g' h1 h2 => by
      have f : ∀ (i : Nat) (z : Lm), ((Ls t).set k { x with b := tnB x.b p y })[i]? = some z → ∃ z0, (Ls t)[i]? = some z0 ∧ z.A = z0.A := fun i z hz => by
        by_cases e : k = i
        · subst e
          rw [List.getElem?_set_self hkl] at hz
          cases hz
          exact ⟨x, hk, rfl⟩
        · rw [List.getElem?_set_ne e] at hz
          exact ⟨z, hz, rfl⟩
      obtain ⟨y1, e1, e2⟩ := f i z hz
      obtain ⟨y2, e3, e4⟩ := f j z' hz'
      rw [e2] at h1
      rw [e4] at h2
      exact hA.apB t t i j y1 y2 ht ht e1 e3 (fun e => hne e.2) g' h1 h2)
  refine ⟨by rw [he]; rfl, _, ?_, ho.mono (fun i _ hi => hS i (.inr ⟨t, ht, .inr (.inr ⟨x, hxm, hi ▸ hg⟩)⟩)), fun i hi => (u2 i hi).imp (hS i) id⟩
  rw [hQ]
  exact AO.own u1 (up_map hq (by rw [← hq t ht, List.map_set]; rfl)) h.ok.rm (by rw [← hQ]; exact roomy_tn h.ok.ok t k p y)
theorem TPost.fin {w0 V : World} {t : Nat} {k : Int} {e : Ending} (b : Below w0.heap.size w0 w) (h : TPost w S ba room Q t k e w') {g : Nat} (hk : Wr w' V g) (hg : w0.heap.size ≤ g) (hg1 : g < w.heap.size) (hS : ∀ i, S i → i < w0.heap.size) : TPost w0 S ba room Q t k e V := by
  obtain ⟨x, h1, h2, h3, S', h4, h5, h6, h7⟩ := h
  refine ⟨x, h1, h2, h3.keepB fun i hi => hk.far i (fun e => by have := hS i (h7 i hi).1; omega), S', h4.wr hk (fun e => ?_), ((Out.of S b).trans h5 (fun _ _ h => h)).wr hk hg, fun i hi => (h6 i hi).imp id (fun e => Nat.le_trans b.size e), h7⟩
  rcases h6 g e with e | e
  · have := hS g e; omega
  · omega
end
/-- An air that lies below world w's blocks. -/
structure AL (w W : World) (ba room : Nat) (rb : Nat → Nat) (sl : Nat → Option Addr × Nat × Nat) (Ls : Nat → List Lm) : Prop where
  as_ : AS W ba room rb sl Ls
  lo : ∀ i, OwnA ba rb sl Ls i → i < w.heap.size
section
variable {w W V : World} {ba room : Nat} {rb : Nat → Nat} {sl : Nat → Option Addr × Nat × Nat} {Ls : Nat → List Lm}
theorem AL.start (h : AS w ba room rb sl Ls) : AL w w ba room rb sl Ls := ⟨h, fun _ hi => h.lt hi⟩
theorem AS.on (h : AS w ba room rb sl Ls) (hb : Below w.heap.size w V) : AS V ba room rb sl Ls := h.keep fun i hi => hb.block i (h.lt hi)
theorem AL.on (h : AL w W ba room rb sl Ls) (hb : Below W.heap.size W V) : AL w V ba room rb sl Ls := ⟨h.as_.on hb, h.lo⟩
theorem AL.drew (h : AL w W ba room rb sl Ls) : AL w W.drew ba room rb sl Ls := ⟨h.as_.keep fun _ _ => rfl, h.lo⟩
theorem AL.wr (h : AL w W ba room rb sl Ls) {g : Nat} (k : Wr W V g) (hg : w.heap.size ≤ g) : AL w V ba room rb sl Ls := ⟨h.as_.keep fun i hi => k.far i (fun e => by have := h.lo i hi; omega), h.lo⟩
theorem AL.ng (h : AL w W ba room rb sl Ls) {t : Nat} (ht : t < 17) {g : Nat} (hg : w.heap.size ≤ g) : ¬ InG (rb t) (sl t).1 g := fun e => by
  have := h.lo g (.inr ⟨t, ht, e.elim .inl (fun e => .inr (.inl e))⟩)
  omega
end
theorem res_tct {fn : Func} {p q r : Tmp} {T : TypeId} (h : fn.results = #[.tmp p, .cell q T, .tmp r]) {P : Program} {tmps : Array Value} {w : World} {g : Nat} {U : TypeId} {cs : Array Value} {d : TypeDesc} {x y : Value}
    (hp : tmps.getD p undef = x) (hq : tmps.getD q undef = .pointer (some ⟨g, 0, none⟩)) (hr : tmps.getD r undef = y) (hg : CB w g U cs) (hu : P.underlying T = some d) (hd : d.isRow = true) (hi : (P.info? T).map (·.size) = some cs.size) :
    (results fn tmps).run P w = .ok (.tuple #[x, .agg cs, y]) w := by
  subst hp hr
  have hq' : tmps[q]?.getD undef = .pointer (some ⟨g, 0, none⟩) := by simpa using hq
  simp [results, h, hq', asAddr, run_loadVar_row w g U T cs (0, 0) d hg hu (by cases d <;> simp_all [TypeDesc.isRow]) hi]
/-- A byte of a letter is written. -/
theorem slot_u {W : World} {A : Option Addr} {n q : Nat} {L : List UInt8} (h : RS W 5 bcl 1 A n q L) (i : Nat) (hi : i < n) :
    ∃ g off x, A = some ⟨g, off, none⟩ ∧ L[i]? = some x ∧ W.frozen? ⟨g, off + i, none⟩ = false ∧ W.cell? ⟨g, off + i, none⟩ = some (.int .u8 (x.toNat : Int)) ∧
      ∀ y : UInt8, RS (W.setCell ⟨g, off + i, none⟩ (.int .u8 (y.toNat : Int))) 5 bcl 1 A n q (L.set i y) ∧ Wr W (W.setCell ⟨g, off + i, none⟩ (.int .u8 (y.toNat : Int))) g := by
  have hl := h.len
  obtain ⟨G, hseg⟩ := h
  obtain ⟨g, off, hA, hG, fz, hc, hs⟩ := hseg.slot i (by omega)
  have hx : L[i]? = some L[i] := List.getElem?_eq_getElem (by omega)
  have hr : (rc bcl L)[i]? = some (.int .u8 (L[i].toNat : Int)) := by rw [rc_bcl]; unfold Dk.bc; rw [List.getElem?_map, hx]; rfl
  obtain ⟨cs, hcs⟩ := seg_typeS (e := 5) (by rw [hG] at hseg; exact hseg)
  refine ⟨g, off, L[i], hA, hx, fz, hc _ hr, fun y => ⟨⟨G, ?_⟩, Wr.cell hcs _ _⟩⟩
  have := hs (.int .u8 (y.toNat : Int))
  have e : (rc bcl L).set i (.int .u8 (y.toNat : Int)) = rc bcl (L.set i y) := by rw [rc_bcl, rc_bcl]; unfold Dk.bc; rw [List.map_set]
  rw [e] at this
  exact this
end Go.Proofs.Ytcfdfimkgehdfaa
