/-
  Plain mathematics of layer 18 (air): letters on their way, as a list for each end, and as the document's one list; what each call makes of them. It speaks of no program. No condition.
-/
set_option linter.unusedVariables false
set_option linter.unusedSimpArgs false
namespace Go.Proofs.Ytcfdfimkgehdfaa

/-- A letter. -/
structure Lt where
  fr : Nat
  to : Nat
  b : List UInt8
/-- Letters to each end. -/
abbrev Qs := Nat → List Lt
def updQ (Q : Qs) (t : Nat) (l : List Lt) : Qs := fun i => if i = t then l else Q i
theorem updQ_same (Q : Qs) (t : Nat) (l : List Lt) : updQ Q t l t = l := if_pos rfl
theorem updQ_other (Q : Qs) {t i : Nat} (l : List Lt) (h : ¬ i = t) : updQ Q t l i = Q i := if_neg h
def noL : Lt := ⟨0, 0, []⟩
/-- Send. -/
def eSn (room : Nat) (Q : Qs) (l : Lt) : Nat := if 17 ≤ l.fr ∨ 17 ≤ l.to then 2 else if 4000 < l.b.length then 3 else if room ≤ (Q l.to).length then 6 else 0
def sSn (room : Nat) (Q : Qs) (l : Lt) : Qs := if eSn room Q l = 0 then updQ Q l.to (Q l.to ++ [l]) else Q
/-- Is there a letter of that place? -/
def eAt (Q : Qs) (t : Nat) (k : Int) : Nat := if 17 ≤ t then 2 else if 0 ≤ k ∧ k < (Q t).length then 0 else 7
/-- Take. -/
def xTk (Q : Qs) (t : Nat) (k : Int) : Lt := if eAt Q t k = 0 then ((Q t)[k.toNat]?).getD noL else noL
def sTk (Q : Qs) (t : Nat) (k : Int) : Qs := if eAt Q t k = 0 then updQ Q t ((Q t).eraseIdx k.toNat) else Q
/-- Again. -/
def eAg (room : Nat) (Q : Qs) (t : Nat) (k : Int) : Nat := if eAt Q t k = 0 then (if room ≤ (Q t).length then 6 else 0) else eAt Q t k
def sAg (room : Nat) (Q : Qs) (t : Nat) (k : Int) : Qs := if eAg room Q t k = 0 then updQ Q t (Q t ++ [xTk Q t k]) else Q
/-- Turn. -/
def tnB (b : List UInt8) (p : Nat) (y : UInt8) : List UInt8 := b.set (p % b.length) ((b[p % b.length]?).getD 0 ^^^ y)
def tnL (l : Lt) (p : Nat) (y : UInt8) : Lt := { l with b := tnB l.b p y }
def eTn (Q : Qs) (t : Nat) (k : Int) : Nat := if eAt Q t k = 0 then (if (xTk Q t k).b.length = 0 then 7 else 0) else eAt Q t k
def sTn (Q : Qs) (t : Nat) (k : Int) (p : Nat) (y : UInt8) : Qs := if eTn Q t k = 0 then updQ Q t ((Q t).set k.toNat (tnL (xTk Q t k) p y)) else Q

theorem tnB_length (b : List UInt8) (p : Nat) (y : UInt8) : (tnB b p y).length = b.length := by simp [tnB]
/-- Turned twice it is as it was. -/
theorem tnB_twice (b : List UInt8) (p : Nat) (y : UInt8) : tnB (tnB b p y) p y = b := by
  by_cases h : b.length = 0
  · have : b = [] := List.eq_nil_of_length_eq_zero h
    subst this; rfl
  have hj : p % b.length < b.length := Nat.mod_lt _ (by omega)
  unfold tnB
  rw [List.length_set]
  generalize p % b.length = j at *
  rw [List.getElem?_set_self hj, List.set_set]
  apply List.ext_getElem?
  intro i
  by_cases hi : j = i
  · subst hi
    rw [List.getElem?_set_self hj]
    simp [List.getElem?_eq_getElem hj, UInt8.xor_assoc]
  · rw [List.getElem?_set_ne hi]
/-- It is another one at that place alone. -/
theorem tnB_at (b : List UInt8) (p : Nat) (y : UInt8) {j : Nat} (hj : p % b.length = j) : tnB b p y = b.set j ((b[j]?).getD 0 ^^^ y) := by subst hj; rfl
theorem eAt_ok {Q : Qs} {t : Nat} {k : Int} (h : eAt Q t k = 0) : t < 17 ∧ 0 ≤ k ∧ k.toNat < (Q t).length := by
  unfold eAt at h
  split at h
  · cases h
  · split at h
    · omega
    · cases h
theorem xTk_at {Q : Qs} {t : Nat} {k : Int} (h : eAt Q t k = 0) : (Q t)[k.toNat]? = some (xTk Q t k) := by
  obtain ⟨_, _, h3⟩ := eAt_ok h
  unfold xTk
  rw [if_pos h, List.getElem?_eq_getElem h3]
  rfl

/-! ### the document's one list -/
def toR (L : List Lt) (t : Nat) : List Lt := L.filter (fun l => l.to == t)
/-- Where the k-th letter to t stands. -/
def fnd : List Lt → Nat → Nat → Option Nat
  | [], _, _ => none
  | x :: L, t, k => if x.to = t then (match k with | 0 => some 0 | k + 1 => (fnd L t k).map (· + 1)) else (fnd L t k).map (· + 1)
theorem toR_cons_yes {x : Lt} {L : List Lt} {t : Nat} (h : x.to = t) : toR (x :: L) t = x :: toR L t := by simp [toR, h]
theorem toR_cons_no {x : Lt} {L : List Lt} {t : Nat} (h : ¬ x.to = t) : toR (x :: L) t = toR L t := by simp [toR, h]
theorem fnd_none : ∀ {L : List Lt} {t k : Nat}, fnd L t k = none ↔ (toR L t).length ≤ k
  | [], t, k => by simp [fnd, toR]
  | x :: L, t, k => by
    unfold fnd
    by_cases h : x.to = t
    · rw [if_pos h, toR_cons_yes h]
      cases k with
      | zero => simp
      | succ k => simp only [Option.map_eq_none_iff, List.length_cons]; rw [fnd_none]; omega
    · rw [if_neg h, toR_cons_no h, Option.map_eq_none_iff, fnd_none]
theorem fnd_some : ∀ {L : List Lt} {t k i : Nat}, fnd L t k = some i →
    i < L.length ∧ L[i]? = (toR L t)[k]? ∧ k < (toR L t).length ∧ toR (L.eraseIdx i) t = (toR L t).eraseIdx k ∧ (∀ s, ¬ s = t → toR (L.eraseIdx i) s = toR L s) ∧
    (∀ y : Lt, y.to = t → toR (L.set i y) t = (toR L t).set k y ∧ ∀ s, ¬ s = t → toR (L.set i y) s = toR L s)
  | [], t, k, i, h => by cases h
  | x :: L, t, k, i, h => by
    unfold fnd at h
    by_cases hx : x.to = t
    · rw [if_pos hx] at h
      cases k with
      | zero =>
        cases h
        rw [toR_cons_yes hx]
        refine ⟨by simp, rfl, by simp, rfl, fun s hs => ?_, fun y hy => ⟨?_, fun s hs => ?_⟩⟩
        · rw [List.eraseIdx_cons_zero, toR_cons_no (by rw [hx]; exact fun e => hs e.symm)]
        · rw [List.set_cons_zero, toR_cons_yes hy]; rfl
        · rw [List.set_cons_zero, toR_cons_no (by rw [hy]; exact fun e => hs e.symm), toR_cons_no (by rw [hx]; exact fun e => hs e.symm)]
      | succ k =>
        simp only [Option.map_eq_some_iff] at h
        obtain ⟨j, hj, rfl⟩ := h
        obtain ⟨h1, h2, h3, h4, h5, h6⟩ := fnd_some hj
        rw [toR_cons_yes hx]
        refine ⟨by simp; omega, by simpa using h2, by simp; omega, ?_, fun s hs => ?_, fun y hy => ⟨?_, fun s hs => ?_⟩⟩
        · rw [List.eraseIdx_cons_succ, toR_cons_yes hx, h4, List.eraseIdx_cons_succ]
        · rw [List.eraseIdx_cons_succ, toR_cons_no (by rw [hx]; exact fun e => hs e.symm), toR_cons_no (by rw [hx]; exact fun e => hs e.symm), h5 s hs]
        · rw [List.set_cons_succ, toR_cons_yes hx, (h6 y hy).1, List.set_cons_succ]
        · rw [List.set_cons_succ, toR_cons_no (by rw [hx]; exact fun e => hs e.symm), toR_cons_no (by rw [hx]; exact fun e => hs e.symm), (h6 y hy).2 s hs]
    · rw [if_neg hx] at h
      simp only [Option.map_eq_some_iff] at h
      obtain ⟨j, hj, rfl⟩ := h
      obtain ⟨h1, h2, h3, h4, h5, h6⟩ := fnd_some hj
      rw [toR_cons_no hx]
      refine ⟨by simp; omega, by simpa using h2, h3, ?_, fun s hs => ?_, fun y hy => ⟨?_, fun s hs => ?_⟩⟩
      · rw [List.eraseIdx_cons_succ, toR_cons_no hx, h4]
      · rw [List.eraseIdx_cons_succ]
        by_cases hs2 : x.to = s
        · rw [toR_cons_yes hs2, toR_cons_yes hs2, h5 s hs]
        · rw [toR_cons_no hs2, toR_cons_no hs2, h5 s hs]
      · rw [List.set_cons_succ, toR_cons_no hx, (h6 y hy).1]
      · rw [List.set_cons_succ]
        by_cases hs2 : x.to = s
        · rw [toR_cons_yes hs2, toR_cons_yes hs2, (h6 y hy).2 s hs]
        · rw [toR_cons_no hs2, toR_cons_no hs2, (h6 y hy).2 s hs]
/-- Where the letter of any place stands, or -1. -/
def fndI (L : List Lt) (t : Nat) (k : Int) : Int := if 0 ≤ k then (match fnd L t k.toNat with | some i => i | none => -1) else -1
/-- The calls of the document, told by letters to each end. -/
def sSnR (room : Nat) (L : List Lt) (l : Lt) : List Lt := if eSn room (toR L) l = 0 then L ++ [l] else L
def sTkR (L : List Lt) (t : Nat) (k : Int) : List Lt := if eAt (toR L) t k = 0 then L.eraseIdx (fndI L t k).toNat else L
def sAgR (room : Nat) (L : List Lt) (t : Nat) (k : Int) : List Lt := if eAg room (toR L) t k = 0 then L ++ [xTk (toR L) t k] else L
def sTnR (L : List Lt) (t : Nat) (k : Int) (p : Nat) (y : UInt8) : List Lt := if eTn (toR L) t k = 0 then L.set (fndI L t k).toNat (tnL (xTk (toR L) t k) p y) else L
theorem toR_append (L : List Lt) (l : Lt) : toR (L ++ [l]) = updQ (toR L) l.to (toR L l.to ++ [l]) := by
  funext t
  unfold updQ
  by_cases h : t = l.to
  · subst h; rw [if_pos rfl]; simp [toR]
  · rw [if_neg h]; simp [toR]; exact fun e => h e.symm
theorem toR_to {L : List Lt} {t : Nat} {l : Lt} (h : l ∈ toR L t) : l.to = t := by
  unfold toR at h
  rw [List.mem_filter] at h
  simpa using h.2
theorem fndI_at {L : List Lt} {t : Nat} {k : Int} (h : eAt (toR L) t k = 0) : fnd L t k.toNat = some (fndI L t k).toNat ∧ 0 ≤ fndI L t k := by
  obtain ⟨_, h2, h3⟩ := eAt_ok h
  unfold fndI
  rw [if_pos h2]
  cases hf : fnd L t k.toNat with
  | none => rw [fnd_none] at hf; omega
  | some i => exact ⟨by simp, by simp⟩
theorem fndI_no {L : List Lt} {t : Nat} {k : Int} (h : ¬ (0 ≤ k ∧ k < (toR L t).length)) : fndI L t k = -1 := by
  unfold fndI
  by_cases h2 : 0 ≤ k
  · rw [if_pos h2]
    cases hf : fnd L t k.toNat with
    | none => rfl
    | some i => obtain ⟨_, _, h3, _⟩ := fnd_some hf; omega
  · rw [if_neg h2]
theorem xTk_to {L : List Lt} {t : Nat} {k : Int} (h : eAt (toR L) t k = 0) : (xTk (toR L) t k).to = t := toR_to (List.mem_of_getElem? (xTk_at h))
theorem toR_snd (room : Nat) (L : List Lt) (l : Lt) : toR (sSnR room L l) = sSn room (toR L) l := by
  unfold sSnR sSn
  split
  · exact toR_append L l
  · rfl
theorem toR_tk (L : List Lt) (t : Nat) (k : Int) : toR (sTkR L t k) = sTk (toR L) t k := by
  unfold sTkR sTk
  split
  · rename_i h
    obtain ⟨h1, _⟩ := fndI_at h
    obtain ⟨_, _, _, h4, h5, _⟩ := fnd_some h1
    funext s
    unfold updQ
    by_cases hs : s = t
    · subst hs; rw [if_pos rfl, h4]
    · rw [if_neg hs, h5 s hs]
  · rfl
theorem toR_ag (room : Nat) (L : List Lt) (t : Nat) (k : Int) : toR (sAgR room L t k) = sAg room (toR L) t k := by
  unfold sAgR sAg
  split
  · rename_i h
    have h0 : eAt (toR L) t k = 0 := by
      unfold eAg at h
      split at h
      · assumption
      · assumption
    have ht := xTk_to h0
    rw [toR_append, ht]
  · rfl
theorem toR_tn (L : List Lt) (t : Nat) (k : Int) (p : Nat) (y : UInt8) : toR (sTnR L t k p y) = sTn (toR L) t k p y := by
  unfold sTnR sTn
  split
  · rename_i h
    have h0 : eAt (toR L) t k = 0 := by
      unfold eTn at h
      split at h
      · assumption
      · assumption
    obtain ⟨h1, _⟩ := fndI_at h0
    obtain ⟨_, _, _, _, _, h6⟩ := fnd_some h1
    obtain ⟨h7, h8⟩ := h6 (tnL (xTk (toR L) t k) p y) (xTk_to h0)
    funext s
    unfold updQ
    by_cases hs : s = t
    · subst hs; rw [if_pos rfl, h7]
    · rw [if_neg hs, h8 s hs]
  · rfl
/-- The document's letter of a place. -/
theorem at_R {L : List Lt} {t : Nat} {k : Int} (h : eAt (toR L) t k = 0) : L[(fndI L t k).toNat]? = some (xTk (toR L) t k) := by
  obtain ⟨h1, _⟩ := fndI_at h
  obtain ⟨_, h2, _⟩ := fnd_some h1
  rw [h2, xTk_at h]

/-! ### rows of calls -/
structure Ax where
  kd : Nat
  fr : Nat
  to : Nat
  b : List UInt8
  at_ : Int
  pl : Nat
  by_ : UInt8
/-- What a call makes of the letters, and answers. -/
def sAc (room : Nat) (Q : Qs) (x : Ax) : Qs :=
  if x.kd % 6 = 3 then sTk Q x.to x.at_ else if x.kd % 6 = 4 then sAg room Q x.to x.at_ else if x.kd % 6 = 5 then sTn Q x.to x.at_ x.pl x.by_ else sSn room Q ⟨x.fr, x.to, x.b⟩
theorem sTk_other {Q : Qs} {t i : Nat} {k : Int} (h : ¬ i = t) : sTk Q t k i = Q i := by unfold sTk; split; exact updQ_other _ _ h; rfl
theorem sAg_other {room : Nat} {Q : Qs} {t i : Nat} {k : Int} (h : ¬ i = t) : sAg room Q t k i = Q i := by unfold sAg; split; exact updQ_other _ _ h; rfl
theorem sTn_other {Q : Qs} {t i : Nat} {k : Int} {p : Nat} {y : UInt8} (h : ¬ i = t) : sTn Q t k p y i = Q i := by unfold sTn; split; exact updQ_other _ _ h; rfl
theorem sSn_other {room : Nat} {Q : Qs} {l : Lt} {i : Nat} (h : ¬ i = l.to) : sSn room Q l i = Q i := by unfold sSn; split; exact updQ_other _ _ h; rfl
/-- What happens to letters to one end changes none to another one. -/
theorem sAc_other {room : Nat} {Q : Qs} {x : Ax} {i : Nat} (h : ¬ i = x.to) : sAc room Q x i = Q i := by
  unfold sAc
  split
  · exact sTk_other h
  · split
    · exact sAg_other h
    · split
      · exact sTn_other h
      · exact sSn_other h
/-- .. and hangs on these alone. -/
theorem eAt_same {Q R : Qs} {t : Nat} {k : Int} (h : Q t = R t) : eAt Q t k = eAt R t k := by unfold eAt; rw [h]
theorem xTk_same {Q R : Qs} {t : Nat} {k : Int} (h : Q t = R t) : xTk Q t k = xTk R t k := by unfold xTk; rw [eAt_same h, h]
theorem upd_same {Q R : Qs} {t : Nat} {l : List Lt} : updQ Q t l t = updQ R t l t := by rw [updQ_same, updQ_same]
theorem sTk_same {Q R : Qs} {t : Nat} {k : Int} (h : Q t = R t) : sTk Q t k t = sTk R t k t := by
  unfold sTk; rw [eAt_same h, h]; split; exact upd_same; exact h
theorem sAg_same {room : Nat} {Q R : Qs} {t : Nat} {k : Int} (h : Q t = R t) : sAg room Q t k t = sAg room R t k t := by
  have e : eAg room Q t k = eAg room R t k := by unfold eAg; rw [eAt_same h, h]
  unfold sAg; rw [e, h, xTk_same h]; split; exact upd_same; exact h
theorem sTn_same {Q R : Qs} {t : Nat} {k : Int} {p : Nat} {y : UInt8} (h : Q t = R t) : sTn Q t k p y t = sTn R t k p y t := by
  have e : eTn Q t k = eTn R t k := by unfold eTn; rw [eAt_same h, xTk_same h]
  unfold sTn; rw [e, h, xTk_same h]; split; exact upd_same; exact h
theorem sSn_same {room : Nat} {Q R : Qs} {l : Lt} (h : Q l.to = R l.to) : sSn room Q l l.to = sSn room R l l.to := by
  have e : eSn room Q l = eSn room R l := by unfold eSn; rw [h]
  unfold sSn; rw [e, h]; split; exact upd_same; exact h
theorem sAc_same {room : Nat} {Q R : Qs} {x : Ax} (h : Q x.to = R x.to) : sAc room Q x x.to = sAc room R x x.to := by
  unfold sAc
  split
  · exact sTk_same h
  · split
    · exact sAg_same h
    · split
      · exact sTn_same h
      · exact sSn_same (l := ⟨x.fr, x.to, x.b⟩) h
/-- No more wait than there is room for. -/
def Roomy (room : Nat) (Q : Qs) : Prop := ∀ t, (Q t).length ≤ room ∧ (17 ≤ t → Q t = []) ∧ ∀ l ∈ Q t, l.to = t ∧ l.b.length ≤ 4000 ∧ l.fr < 17
theorem roomy_nil (room : Nat) : Roomy room (fun _ => []) := fun t => ⟨by simp, fun _ => rfl, fun l h => by cases h⟩
theorem roomy_upd {room : Nat} {Q : Qs} (h : Roomy room Q) {t : Nat} {l : List Lt} (h1 : l.length ≤ room) (h2 : 17 ≤ t → l = []) (h3 : ∀ x ∈ l, x.to = t ∧ x.b.length ≤ 4000 ∧ x.fr < 17) : Roomy room (updQ Q t l) := by
  intro s
  by_cases hs : s = t
  · subst hs; rw [updQ_same]; exact ⟨h1, h2, h3⟩
  · rw [updQ_other _ _ hs]; exact h s
theorem roomy_sn {room : Nat} {Q : Qs} (h : Roomy room Q) (l : Lt) : Roomy room (sSn room Q l) := by
  unfold sSn
  split
  · rename_i he
    unfold eSn at he
    split at he
    · cases he
    · split at he
      · cases he
      · split at he
        · cases he
        · refine roomy_upd h (by simp; omega) (by omega) (fun x hx => ?_)
          rw [List.mem_append, List.mem_singleton] at hx
          rcases hx with hx | rfl
          · exact (h l.to).2.2 x hx
          · exact ⟨rfl, by omega, by omega⟩
  · exact h
theorem roomy_tk {room : Nat} {Q : Qs} (h : Roomy room Q) (t : Nat) (k : Int) : Roomy room (sTk Q t k) := by
  unfold sTk
  split
  · rename_i he
    obtain ⟨h1, h2, h3⟩ := eAt_ok he
    refine roomy_upd h (by rw [List.length_eraseIdx]; have := (h t).1; split <;> omega) (by omega) (fun x hx => (h t).2.2 x (List.mem_of_mem_eraseIdx hx))
  · exact h
theorem roomy_ag {room : Nat} {Q : Qs} (h : Roomy room Q) (t : Nat) (k : Int) : Roomy room (sAg room Q t k) := by
  unfold sAg
  split
  · rename_i he
    unfold eAg at he
    split at he
    · rename_i he0
      split at he
      · cases he
      · obtain ⟨h1, h2, h3⟩ := eAt_ok he0
        refine roomy_upd h (by simp; omega) (by omega) (fun x hx => ?_)
        rw [List.mem_append, List.mem_singleton] at hx
        rcases hx with hx | rfl
        · exact (h t).2.2 x hx
        · exact (h t).2.2 _ (List.mem_of_getElem? (xTk_at he0))
    · contradiction
  · exact h
theorem roomy_tn {room : Nat} {Q : Qs} (h : Roomy room Q) (t : Nat) (k : Int) (p : Nat) (y : UInt8) : Roomy room (sTn Q t k p y) := by
  unfold sTn
  split
  · rename_i he
    unfold eTn at he
    split at he
    · rename_i he0
      obtain ⟨h1, h2, h3⟩ := eAt_ok he0
      refine roomy_upd h (by rw [List.length_set]; exact (h t).1) (by omega) (fun x hx => ?_)
      rcases List.mem_or_eq_of_mem_set hx with hx | rfl
      · exact (h t).2.2 x hx
      · have := (h t).2.2 _ (List.mem_of_getElem? (xTk_at he0))
        exact ⟨this.1, by simp only [tnL, tnB_length]; exact this.2.1, this.2.2⟩
    · contradiction
  · exact h
theorem roomy_ac {room : Nat} {Q : Qs} (h : Roomy room Q) (x : Ax) : Roomy room (sAc room Q x) := by
  unfold sAc
  split
  · exact roomy_tk h _ _
  · split
    · exact roomy_ag h _ _
    · split
      · exact roomy_tn h _ _ _ _
      · exact roomy_sn h _
end Go.Proofs.Ytcfdfimkgehdfaa
