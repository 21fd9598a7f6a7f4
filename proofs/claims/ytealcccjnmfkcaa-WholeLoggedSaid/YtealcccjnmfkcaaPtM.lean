/-
  Plain mathematics: the part of a transaction at one site; what may be, what each call makes of it and changes, and what it has changed in all. No program, no condition but those that each theorem names.
-/
import Derived.Test.YtealcccjnmfkcaaLgM
set_option linter.unusedVariables false
set_option linter.unusedSimpArgs false
namespace Go.Proofs.Ytealcccjnmfkcaa
open Go.RowKit Go.IntWalk

/-- A part: state, deltas, committed here, outcome. -/
structure Pt where
  st : Int
  ad : List Dl
  lo : Bool
  ou : Int
instance : DecidableEq Dl := fun a b => by
  cases a with
  | mk k b' => cases b with
    | mk k2 b2 => exact decidable_of_iff (k = k2 ∧ b' = b2) (by simp)

def stB (s : Int) : Bool := s == 0 || s == 1 || s == 2 || s == 3
def adB (L : List Dl) : Bool := decide (L.length ≤ 50) && keysB L
def loB (s : Int) (l : Bool) : Bool := !l || s == 1 || s == 3
def deB (o : Int) : Bool := o == 1 || o == 2
def ouB (s o : Int) : Bool := if s = 3 then deB o else o == 0
/-- A part that may be. -/
def okP (p : Pt) : Bool := stB p.st && adB p.ad && loB p.st p.lo && ouB p.st p.ou
def opp (L : List Dl) : List Dl := (L.map negD).reverse
def eAdd (p : Pt) (x : Dl) : Int := if okP p = false ∨ 64 ≤ x.k then 2 else if p.st ≠ 0 then 13 else if p.ad.length = 50 then 6 else 0
def sAdd (p : Pt) (x : Dl) : Pt := if eAdd p x = 0 then ⟨p.st, p.ad ++ [x], p.lo, p.ou⟩ else p
def eVote (p : Pt) : Int := if okP p = false then 2 else if p.st ≠ 0 then 13 else 0
def sVote (p : Pt) (y : Bool) : Pt := if eVote p = 0 then ⟨if y then 1 else 2, p.ad, p.lo, p.ou⟩ else p
def eLoc (p : Pt) : Int := if okP p = false then 2 else if p.st ≠ 1 then 13 else if p.lo = true then 8 else 0
def sLoc (p : Pt) : Pt := if eLoc p = 0 then ⟨p.st, p.ad, true, p.ou⟩ else p
def dLoc (p : Pt) : List Dl := if eLoc p = 0 then p.ad else []
def eDec (p : Pt) (o : Int) : Int := if okP p = false ∨ deB o = false then 2 else if p.st = 3 ∧ p.ou = o then 0 else if p.st = 3 ∨ (o = 1 ∧ p.st ≠ 1) then 13 else 0
def sDec (p : Pt) (o : Int) : Pt := if eDec p o = 0 then ⟨3, p.ad, p.lo, o⟩ else p
def dDec (p : Pt) (o : Int) : List Dl := if eDec p o = 0 ∧ p.st ≠ 3 then (if o = 1 then (if p.lo = true then [] else p.ad) else if p.lo = true then opp p.ad else []) else []
def eff (p : Pt) : List Dl := if okP p = false then [] else if p.st = 3 ∧ p.ou = 1 ∨ p.st = 1 ∧ p.lo = true then p.ad else if p.st = 3 ∧ p.lo = true then p.ad ++ opp p.ad else []

/-! ### what may be -/
theorem ok_parts {p : Pt} (h : okP p = true) : stB p.st = true ∧ adB p.ad = true ∧ loB p.st p.lo = true ∧ ouB p.st p.ou = true := by
  unfold okP at h
  simp only [Bool.and_eq_true] at h
  exact ⟨h.1.1.1, h.1.1.2, h.1.2, h.2⟩
theorem ok_of {p : Pt} (h1 : stB p.st = true) (h2 : adB p.ad = true) (h3 : loB p.st p.lo = true) (h4 : ouB p.st p.ou = true) : okP p = true := by
  unfold okP
  rw [h1, h2, h3, h4]; rfl
theorem ok_no1 {p : Pt} (h : stB p.st = false) : okP p = false := by unfold okP; rw [h]; rfl
theorem ok_no2 {p : Pt} (h : adB p.ad = false) : okP p = false := by unfold okP; rw [h]; simp
theorem ok_no3 {p : Pt} (h : loB p.st p.lo = false) : okP p = false := by unfold okP; rw [h]; simp
theorem ok_no4 {p : Pt} (h : ouB p.st p.ou = false) : okP p = false := by unfold okP; rw [h]; simp
theorem ad_len {L : List Dl} (h : adB L = true) : L.length ≤ 50 ∧ KeysP L := by
  unfold adB at h
  simp only [Bool.and_eq_true, decide_eq_true_eq] at h
  exact ⟨h.1, keysB_iff.1 h.2⟩
theorem ad_of {L : List Dl} (h : L.length ≤ 50) (k : KeysP L) : adB L = true := by
  unfold adB
  simp only [Bool.and_eq_true, decide_eq_true_eq]
  exact ⟨h, keysB_iff.2 k⟩
theorem ok_len {p : Pt} (h : okP p = true) : p.ad.length ≤ 50 := (ad_len (ok_parts h).2.1).1
theorem ok_keys {p : Pt} (h : okP p = true) : KeysP p.ad := (ad_len (ok_parts h).2.1).2
theorem ok_st {p : Pt} (h : okP p = true) : p.st = 0 ∨ p.st = 1 ∨ p.st = 2 ∨ p.st = 3 := by
  have := (ok_parts h).1
  unfold stB at this
  simpa [or_assoc] using this
theorem ok_lo {p : Pt} (h : okP p = true) (hl : p.lo = true) : p.st = 1 ∨ p.st = 3 := by
  have := (ok_parts h).2.2.1
  unfold loB at this
  simpa [hl] using this
theorem de_iff {o : Int} : deB o = true ↔ o = 1 ∨ o = 2 := by unfold deB; simp
theorem ok_ou {p : Pt} (h : okP p = true) (h3 : p.st = 3) : p.ou = 1 ∨ p.ou = 2 := by
  have := (ok_parts h).2.2.2
  unfold ouB at this
  rw [if_pos h3] at this
  exact de_iff.1 this
theorem ok_ou0 {p : Pt} (h : okP p = true) (h3 : p.st ≠ 3) : p.ou = 0 := by
  have := (ok_parts h).2.2.2
  unfold ouB at this
  rw [if_neg h3] at this
  simpa using this
theorem ok_mk {s : Int} {L : List Dl} {l : Bool} {o : Int} (h1 : s = 0 ∨ s = 1 ∨ s = 2 ∨ s = 3) (h2 : L.length ≤ 50) (h3 : KeysP L) (h4 : l = true → s = 1 ∨ s = 3) (h5 : s = 3 → o = 1 ∨ o = 2) (h6 : s ≠ 3 → o = 0) : okP ⟨s, L, l, o⟩ = true := by
  refine ok_of ?_ (ad_of h2 h3) ?_ ?_
  · unfold stB; simpa [or_assoc] using h1
  · unfold loB
    cases l with
    | false => rfl
    | true => simpa using h4 rfl
  · unfold ouB
    by_cases h : s = 3
    · simp only [h, if_true]; exact de_iff.2 (h5 h)
    · simp only [h, if_false]; simpa using h6 h

/-! ### the calls -/
theorem add_err {p : Pt} {x : Dl} (h : eAdd p x ≠ 0) : sAdd p x = p := by unfold sAdd; rw [if_neg h]
theorem add_ok {p : Pt} {x : Dl} (h : eAdd p x = 0) : okP p = true ∧ x.k < 64 ∧ p.st = 0 ∧ p.ad.length ≠ 50 := by
  unfold eAdd at h
  split at h
  · cases h
  · rename_i h1
    split at h
    · cases h
    · rename_i h2
      split at h
      · cases h
      · rename_i h3
        refine ⟨?_, ?_, ?_, h3⟩
        · cases hp : okP p with
          | true => rfl
          | false => exact absurd (.inl hp) h1
        · have := fun k => h1 (.inr k); omega
        · exact Classical.not_not.1 h2
theorem vote_ok {p : Pt} (h : eVote p = 0) : okP p = true ∧ p.st = 0 := by
  unfold eVote at h
  split at h
  · cases h
  · rename_i h1
    split at h
    · cases h
    · rename_i h2
      exact ⟨by simpa using h1, Classical.not_not.1 h2⟩
theorem loc_ok {p : Pt} (h : eLoc p = 0) : okP p = true ∧ p.st = 1 ∧ p.lo = false := by
  unfold eLoc at h
  split at h
  · cases h
  · rename_i h1
    split at h
    · cases h
    · rename_i h2
      split at h
      · cases h
      · rename_i h3
        exact ⟨by simpa using h1, Classical.not_not.1 h2, by simpa using h3⟩
theorem dec_ok {p : Pt} {o : Int} (h : eDec p o = 0) : okP p = true ∧ (o = 1 ∨ o = 2) ∧ (p.st = 3 ∧ p.ou = o ∨ p.st ≠ 3 ∧ (o = 1 → p.st = 1)) := by
  unfold eDec at h
  split at h
  · cases h
  · rename_i h1
    have h1a : okP p = true := by
      cases hp : okP p with
      | true => rfl
      | false => exact absurd (.inl hp) h1
    have h1b : o = 1 ∨ o = 2 := by
      cases hp : deB o with
      | true => exact de_iff.1 hp
      | false => exact absurd (.inr hp) h1
    refine ⟨h1a, h1b, ?_⟩
    split at h
    · rename_i h2; exact .inl h2
    · split at h
      · cases h
      · rename_i h3
        exact .inr ⟨fun e => h3 (.inl e), fun e => Classical.not_not.1 fun e2 => h3 (.inr ⟨e, e2⟩)⟩
theorem ok_add {p : Pt} (x : Dl) (h : okP p = true) : okP (sAdd p x) = true := by
  unfold sAdd
  split
  · rename_i h0
    obtain ⟨_, h1, h2, h3⟩ := add_ok h0
    have hl := ok_len h
    refine ok_mk (.inl h2) (by simp; omega) (keys_snoc.2 ⟨ok_keys h, h1⟩) (fun k => ok_lo h k) (fun e => by omega) fun _ => ok_ou0 h (by omega)
  · exact h
theorem ok_vote {p : Pt} (y : Bool) (h : okP p = true) : okP (sVote p y) = true := by
  unfold sVote
  split
  · rename_i h0
    obtain ⟨_, h2⟩ := vote_ok h0
    have hl : p.lo = false := by
      cases hp : p.lo with
      | false => rfl
      | true => have := ok_lo h hp; omega
    refine ok_mk (by cases y <;> simp) (ok_len h) (ok_keys h) (fun k => by rw [hl] at k; cases k) (fun e => by cases y <;> simp at e) fun _ => ok_ou0 h (by omega)
  · exact h
theorem ok_loc {p : Pt} (h : okP p = true) : okP (sLoc p) = true := by
  unfold sLoc
  split
  · rename_i h0
    obtain ⟨_, h2, _⟩ := loc_ok h0
    exact ok_mk (.inr (.inl h2)) (ok_len h) (ok_keys h) (fun _ => .inl h2) (fun e => by omega) fun _ => ok_ou0 h (by omega)
  · exact h
theorem ok_dec {p : Pt} (o : Int) (h : okP p = true) : okP (sDec p o) = true := by
  unfold sDec
  split
  · rename_i h0
    obtain ⟨_, h2, _⟩ := dec_ok h0
    exact ok_mk (by simp) (ok_len h) (ok_keys h) (fun _ => .inr rfl) (fun _ => h2) fun e => absurd rfl e
  · exact h

/-! ### what a call changes is what the effect has more behind it -/
theorem eff_ready {p : Pt} (h : okP p = true) (h1 : p.st = 1) : eff p = if p.lo = true then p.ad else [] := by
  unfold eff
  rw [if_neg (by rw [h]; simp)]
  cases hl : p.lo with
  | true => rw [if_pos (.inr ⟨h1, rfl⟩), if_pos rfl]
  | false => rw [if_neg (by rw [h1]; simp), if_neg (by simp), if_neg (by simp)]
theorem eff_done {p : Pt} (h : okP p = true) (h1 : p.st = 3) : eff p = if p.ou = 1 then p.ad else if p.lo = true then p.ad ++ opp p.ad else [] := by
  unfold eff
  rw [if_neg (by rw [h]; simp)]
  by_cases ho : p.ou = 1
  · rw [if_pos (.inl ⟨h1, ho⟩), if_pos ho]
  · rw [if_neg (by rw [h1]; simp [ho]), if_neg ho]
    by_cases hl : p.lo = true
    · rw [if_pos ⟨h1, hl⟩, if_pos hl]
    · rw [if_neg (fun k => hl k.2), if_neg hl]
theorem eff_other {p : Pt} (h1 : p.st ≠ 1) (h3 : p.st ≠ 3) : eff p = [] := by
  unfold eff
  split
  · rfl
  · rw [if_neg (fun k => k.elim (fun k => h3 k.1) (fun k => h1 k.1)), if_neg fun k => h3 k.1]
theorem loc_gain {p : Pt} (h : eLoc p = 0) : (eff (sLoc p)).drop (eff p).length = dLoc p ∧ (eff p).length ≤ (eff (sLoc p)).length ∧ eff (sLoc p) = eff p ++ dLoc p := by
  obtain ⟨h0, h1, h2⟩ := loc_ok h
  have hk := ok_loc h0
  have e1 : sLoc p = ⟨p.st, p.ad, true, p.ou⟩ := by unfold sLoc; rw [if_pos h]
  have e2 : dLoc p = p.ad := by unfold dLoc; rw [if_pos h]
  have e3 : eff p = [] := by rw [eff_ready h0 h1, h2]; rfl
  have e4 : eff (sLoc p) = p.ad := by rw [eff_ready hk (by rw [e1]; exact h1), e1]; rfl
  rw [e2, e3, e4]
  simp
theorem dec_gain {p : Pt} {o : Int} (h : eDec p o = 0) (hs : p.st ≠ 3) : (eff (sDec p o)).drop (eff p).length = dDec p o ∧ (eff p).length ≤ (eff (sDec p o)).length ∧ eff (sDec p o) = eff p ++ dDec p o := by
  obtain ⟨h0, h1, h2⟩ := dec_ok h
  have hk := ok_dec o h0
  have e1 : sDec p o = ⟨3, p.ad, p.lo, o⟩ := by unfold sDec; rw [if_pos h]
  have e2 : dDec p o = (if o = 1 then (if p.lo = true then [] else p.ad) else if p.lo = true then opp p.ad else []) := by unfold dDec; rw [if_pos ⟨h, hs⟩]
  have e3 : eff (sDec p o) = if o = 1 then p.ad else if p.lo = true then p.ad ++ opp p.ad else [] := by
    rw [eff_done hk (by rw [e1]), e1]
  have e4 : eff p = if p.lo = true then p.ad else [] := by
    by_cases hr : p.st = 1
    · exact eff_ready h0 hr
    · rw [eff_other hr hs]
      cases hl : p.lo with
      | false => rfl
      | true => exact (ok_lo h0 hl).elim (fun k => absurd k hr) (fun k => absurd k hs)
  rw [e2, e3, e4]
  by_cases ho : o = 1
  · cases hl : p.lo <;> simp [ho]
  · cases hl : p.lo <;> simp [ho]
end Go.Proofs.Ytealcccjnmfkcaa
