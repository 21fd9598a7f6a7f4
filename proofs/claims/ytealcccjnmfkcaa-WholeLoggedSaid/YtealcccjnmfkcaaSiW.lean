/-
  Plain mathematics for the statements of layer 10: rows that are done whole, what one reads behind what it has added, what is its own. No program, no condition but those that each theorem names.
-/
import Derived.Test.YtealcccjnmfkcaaSiP
set_option linter.unusedVariables false
set_option linter.unusedSimpArgs false
namespace Go.Proofs.Ytealcccjnmfkcaa
open Go.RowKit Go.IntWalk

/-! ### for the statements -/
theorem allOk_snoc (s : Si) (l : List Rc) (x : Rc) : allOk s (l ++ [x]) ↔ allOk s l ∧ eDo (plays s l) x = 0 := by
  induction l generalizing s with
  | nil => simp [allOk, plays]
  | cons y r ih =>
    rw [List.cons_append]
    unfold allOk plays
    rw [ih, and_assoc]
theorem allOk_logs (s : Si) (l : List Rc) (h : allOk s l) : logs s l = l := by
  induction l generalizing s with
  | nil => rfl
  | cons y r ih =>
    unfold allOk at h
    unfold logs
    rw [if_pos h.1, ih _ h.2]
theorem allOk_pre (s : Si) (l k : List Rc) (h : allOk s (l ++ k)) : allOk s l := by
  induction l generalizing s with
  | nil => unfold allOk; trivial
  | cons y r ih =>
    rw [List.cons_append] at h
    unfold allOk at h ⊢
    exact ⟨h.1, ih _ h.2⟩
theorem logIf_len (c : Prop) [Decidable c] (l : List Rc) (r : Rc) : (if c then l ++ [r] else l).length ≤ l.length + 1 := by
  split
  · simp
  · omega
/-- What one reads behind what it has added itself. -/
theorem own_law {s : Si} (h : Inv s) (tx ky b : Int) (he : eDo s ⟨2, tx, ky, 0⟩ = 0) :
    eDo (sDo (sDo s ⟨2, tx, ky, 0⟩) ⟨3, tx, ky, b⟩) ⟨2, tx, ky, 0⟩ = 0 ∧ nDo (sDo (sDo s ⟨2, tx, ky, 0⟩) ⟨3, tx, ky, b⟩) ⟨2, tx, ky, 0⟩ = (if eDo (sDo s ⟨2, tx, ky, 0⟩) ⟨3, tx, ky, b⟩ = 0 then wrap64 (nDo s ⟨2, tx, ky, 0⟩ + b) else nDo s ⟨2, tx, ky, 0⟩) := by
  obtain ⟨p, hf, hn, hr, hled⟩ := runs_of he
  have h1 := inv_do h ⟨2, tx, ky, 0⟩
  have hs : sees (sDo s ⟨2, tx, ky, 0⟩) p ky = nDo s ⟨2, tx, ky, 0⟩ := by rw [hn]; unfold sees; rw [hled]
  by_cases h3 : eDo (sDo s ⟨2, tx, ky, 0⟩) ⟨3, tx, ky, b⟩ = 0
  · rw [if_pos h3]
    obtain ⟨q, hq, hsq⟩ := own_add h1 hr b h3
    obtain ⟨e1, e2, _⟩ := hq.read (inv_do h1 ⟨3, tx, ky, b⟩) 0
    exact ⟨e1, by rw [e2, hsq, hs]⟩
  · rw [if_neg h3, sDo_err h3]
    obtain ⟨e1, e2, _⟩ := hr.read h1 0
    exact ⟨e1, by rw [e2, hs]⟩
/-- What one has added is its own. -/
theorem alone_law {s : Si} (h : Inv s) {a b k : Int} {p q : Pt} (ha : fnd s.pts a = some p) (hb : fnd s.pts b = some q) (hab : a ≠ b) (hp : p.st = 0) (hq : q.st = 0) (he : eDo s ⟨3, a, k, 1⟩ = 0) :
    eDo (sDo s ⟨3, a, k, 1⟩) ⟨2, b, k, 0⟩ = 9 ∧ eDo (sDo s ⟨3, a, k, 1⟩) ⟨3, b, k, 1⟩ = 9 ∧ eDo (sDo s ⟨3, a, k, 1⟩) ⟨6, a, 0, 2⟩ = 0 ∧ eDo (sDo (sDo s ⟨3, a, k, 1⟩) ⟨6, a, 0, 2⟩) ⟨2, b, k, 0⟩ = 0 := by
  obtain ⟨_, a1, a2⟩ := h.ok _ (fnd_mem ha)
  obtain ⟨_, b1, b2⟩ := h.ok _ (fnd_mem hb)
  have a1' : 0 ≤ a := a1
  have a2' : a < 1000 := a2
  have b1' : 0 ≤ b := b1
  have b2' : b < 1000 := b2
  have in3 : ∀ (kd t x y : Int), 1 ≤ kd → kd ≤ 6 → 0 ≤ t → t < 1000 → ¬ ((Rc.mk kd t x y).kd < 1 ∨ 6 < (Rc.mk kd t x y).kd ∨ (Rc.mk kd t x y).tx < 0 ∨ 1000 ≤ (Rc.mk kd t x y).tx) := fun kd t x y c1 c2 c3 c4 => by
    show ¬ (kd < 1 ∨ 6 < kd ∨ t < 0 ∨ 1000 ≤ t)
    omega
  have he1 := he
  rw [eDo_some (p := p) (in3 3 a k 1 (by omega) (by omega) a1' a2') ha] at he1
  rw [if_neg (by show ¬ (3 : Int) = 1; omega), if_neg (by show ¬ (3 : Int) = 2; omega), if_pos rfl, if_neg (by simp [hp])] at he1
  have ht : eTake s.lk a k true = 0 := by
    by_cases h9 : eTake s.lk a k true = 0
    · exact h9
    · have : (if eTake s.lk a k true ≠ 0 then eTake s.lk a k true else eAdd p ⟨k, 1⟩) = 0 := he1
      rw [if_pos h9] at this
      exact this
  have h64 : k < 64 := (eTake_ok.1 ht).2.1.1
  have hi := inv_do h ⟨3, a, k, 1⟩
  have e1 : sDo s ⟨3, a, k, 1⟩ = ⟨s.led, sTake s.lk a k true, upd s.pts a (sAdd p ⟨k, 1⟩)⟩ := by
    rw [sDo_some (p := p) he ha]
    unfold sDone
    rw [if_neg (by show ¬ (3 : Int) = 2; omega), if_pos rfl]
  rw [e1] at hi ⊢
  have h2 : hold (sTake s.lk a k true) a k = 2 := by rw [hold_take ht, if_pos rfl]
  have fb : fnd (upd s.pts a (sAdd p ⟨k, 1⟩)) b = some q := by rw [fnd_upd _ ha, if_neg (fun e => hab e.symm)]; exact hb
  have fa : fnd (upd s.pts a (sAdd p ⟨k, 1⟩)) a = some (sAdd p ⟨k, 1⟩) := by rw [fnd_upd _ ha, if_pos rfl]
  have o9 : ∀ w, eTake (sTake s.lk a k true) b k w = 9 := fun w => other_lock hi h2 hab fb hq h64 w
  have hst : (sAdd p ⟨k, 1⟩).st = 0 := by unfold sAdd; split <;> exact hp
  have hok : okP (sAdd p ⟨k, 1⟩) = true := (hi.ok _ (fnd_mem fa)).1
  have hd : eDec (sAdd p ⟨k, 1⟩) (outc 2) = 0 := by
    unfold eDec outc
    rw [if_pos (Or.inr rfl), if_neg (by rw [hok]; simp [deB]), if_neg (by omega), if_neg (by omega)]
  have e6 : eDo ⟨s.led, sTake s.lk a k true, upd s.pts a (sAdd p ⟨k, 1⟩)⟩ ⟨6, a, 0, 2⟩ = 0 := by
    rw [eDo_some (in3 6 a 0 2 (by omega) (by omega) a1' a2') fa]
    rw [if_neg (by show ¬ (6 : Int) = 1; omega), if_neg (by show ¬ (6 : Int) = 2; omega), if_neg (by show ¬ (6 : Int) = 3; omega), if_neg (by show ¬ (6 : Int) = 4; omega), if_neg (by show ¬ (6 : Int) = 5; omega)]
    exact hd
  refine ⟨?_, ?_, e6, ?_⟩
  · rw [eDo_some (in3 2 b k 0 (by omega) (by omega) b1' b2') fb]
    rw [if_neg (by show ¬ (2 : Int) = 1; omega), if_pos rfl, if_neg (by simp [hq])]
    exact o9 false
  · rw [eDo_some (in3 3 b k 1 (by omega) (by omega) b1' b2') fb]
    rw [if_neg (by show ¬ (3 : Int) = 1; omega), if_neg (by show ¬ (3 : Int) = 2; omega), if_pos rfl, if_neg (by simp [hq]), if_pos (by show eTake (sTake s.lk a k true) b k true ≠ 0; rw [o9]; omega)]
    exact o9 true
  · rw [sDo_some (p := sAdd p ⟨k, 1⟩) e6 fa]
    unfold sDone
    rw [if_neg (by show ¬ (6 : Int) = 2; omega), if_neg (by show ¬ (6 : Int) = 3; omega), if_neg (by show ¬ (6 : Int) = 4; omega), if_neg (by show ¬ (6 : Int) = 5; omega)]
    have fb2 : ∀ x, fnd (upd (upd s.pts a (sAdd p ⟨k, 1⟩)) a x) b = some q := fun x => by rw [fnd_upd _ fa, if_neg (fun e => hab e.symm)]; exact fb
    rw [eDo_some (in3 2 b k 0 (by omega) (by omega) b1' b2') (fb2 _)]
    rw [if_neg (by show ¬ (2 : Int) = 1; omega), if_pos rfl, if_neg (by simp [hq])]
    exact free_take hi h2 fb h64
end Go.Proofs.Ytealcccjnmfkcaa
