/-
  What a row of calls makes of a part: what changed in all is its effect, what is decided stays; boxes of unlike types are unlike blocks. No condition but those that each theorem names.
-/
import Derived.Test.YtmbmbodcmobllaaPtN
import Derived.Test.YtmbmbodcmobllaaPtK
set_option linter.unusedVariables false
set_option linter.unusedSimpArgs false
namespace Go.Proofs.Ytmbmbodcmobllaa
open Go.RowKit Go.IntWalk

theorem PB.ne {W : World} {a b : Nat} {T T' : TypeId} {s : Int} {A : Option Addr} {n c : Nat} {l : Bool} {o : Int} {s' : Int} {A' : Option Addr} {n' c' : Nat} {l' : Bool} {o' : Int} (h : PB W a T s A n c l o) (k : PB W b T' s' A' n' c' l' o') (hT : T' ≠ T) : b ≠ a := by
  rintro rfl
  unfold PB CB at h k
  rw [h] at k
  injection k with k
  injection k with k1 k2
  exact hT k2.symm
theorem ok_stp {p : Pt} (a : Ac) (h : okP p = true) : okP (stp p a) = true := by
  unfold stp
  split
  · exact ok_vote _ h
  · split
    · exact ok_loc h
    · split
      · exact ok_dec _ h
      · exact ok_add _ h
theorem Try.neRP : 24 ≠ 30 := by decide
theorem stp_cases (p : Pt) (a : Ac) : (∃ y, stp p a = sVote p y ∧ chg p a = []) ∨ (stp p a = sLoc p ∧ chg p a = dLoc p) ∨ (stp p a = sDec p a.u ∧ chg p a = dDec p a.u) ∨ (∃ x, stp p a = sAdd p x ∧ chg p a = []) := by
  unfold stp chg
  split
  · exact .inl ⟨_, rfl, rfl⟩
  · split
    · exact .inr (.inl ⟨rfl, rfl⟩)
    · split
      · exact .inr (.inr (.inl ⟨rfl, rfl⟩))
      · exact .inr (.inr (.inr ⟨_, rfl, rfl⟩))
theorem dec_same {p : Pt} {o : Int} (h : eDec p o = 0) (h3 : p.st = 3) : sDec p o = p ∧ dDec p o = [] := by
  obtain ⟨_, _, h2⟩ := dec_ok h
  have ho : p.ou = o := by
    rcases h2 with ⟨_, h2⟩ | ⟨h2, _⟩
    · exact h2
    · exact absurd h3 h2
  constructor
  · unfold sDec
    rw [if_pos h, ← ho, ← h3]
  · unfold dDec
    rw [if_neg (fun k => k.2 h3)]
/-- What a call changes is what the effect has more behind it. -/
theorem eff_stp {p : Pt} (a : Ac) (hok : okP p = true) : eff (stp p a) = eff p ++ chg p a := by
  rcases stp_cases p a with ⟨y, h1, h2⟩ | ⟨h1, h2⟩ | ⟨h1, h2⟩ | ⟨x, h1, h2⟩
  · rw [h1, h2, List.append_nil]
    unfold sVote
    split
    · rename_i h0
      obtain ⟨_, hs⟩ := vote_ok h0
      have hl : p.lo = false := by
        cases hp : p.lo with
        | false => rfl
        | true => have := ok_lo hok hp; omega
      have hv : okP (sVote p y) = true := ok_vote y hok
      rw [show sVote p y = ⟨if y then 1 else 2, p.ad, p.lo, p.ou⟩ by unfold sVote; rw [if_pos h0]] at hv
      rw [eff_other (p := p) (by omega) (by omega)]
      cases y with
      | true => rw [eff_ready hv rfl, hl]; rfl
      | false => exact eff_other (by simp) (by simp)
    · rfl
  · rw [h1, h2]
    by_cases h0 : eLoc p = 0
    · exact (loc_gain h0).2.2
    · rw [show sLoc p = p by unfold sLoc; rw [if_neg h0], show dLoc p = [] by unfold dLoc; rw [if_neg h0], List.append_nil]
  · rw [h1, h2]
    by_cases h0 : eDec p a.u = 0
    · by_cases h3 : p.st = 3
      · rw [(dec_same h0 h3).1, (dec_same h0 h3).2, List.append_nil]
      · exact (dec_gain h0 h3).2.2
    · rw [show sDec p a.u = p by unfold sDec; rw [if_neg h0], show dDec p a.u = [] by unfold dDec; rw [if_neg (fun k => h0 k.1)], List.append_nil]
  · rw [h1, h2, List.append_nil]
    unfold sAdd
    split
    · rename_i h0
      obtain ⟨_, _, hs, _⟩ := add_ok h0
      rw [eff_other (p := p) (by omega) (by omega)]
      exact eff_other (by show p.st ≠ 1; omega) (by show p.st ≠ 3; omega)
    · rfl
theorem eff_len {p : Pt} (h : okP p = true) : (eff p).length ≤ 100 := by
  have hl := ok_len h
  unfold eff
  split
  · simp
  · split
    · omega
    · split
      · rw [List.length_append]; simp [opp]; omega
      · simp
/-- Of one that is decided nothing changes. -/
theorem stp_done {p : Pt} (a : Ac) (h3 : p.st = 3) : stp p a = p ∧ chg p a = [] := by
  rcases stp_cases p a with ⟨y, h1, h2⟩ | ⟨h1, h2⟩ | ⟨h1, h2⟩ | ⟨x, h1, h2⟩
  · refine ⟨?_, h2⟩
    rw [h1]
    unfold sVote
    rw [if_neg (fun k => by have := (vote_ok k).2; omega)]
  · have h0 : ¬ eLoc p = 0 := fun k => by have := (loc_ok k).2.1; omega
    rw [h1, h2]
    exact ⟨by unfold sLoc; rw [if_neg h0], by unfold dLoc; rw [if_neg h0]⟩
  · rw [h1, h2]
    by_cases h0 : eDec p a.u = 0
    · exact dec_same h0 h3
    · exact ⟨by unfold sDec; rw [if_neg h0], by unfold dDec; rw [if_neg (fun k => h0 k.1)]⟩
  · refine ⟨?_, h2⟩
    rw [h1]
    exact add_err (fun k => by have := (add_ok k).2.2.1; omega)
/-- Only what is ready is ever committed; what is refused stays so, or is aborted. -/
theorem stp_out {p : Pt} (a : Ac) (hok : okP p = true) : ((stp p a).ou = 1 → p.ou = 1 ∨ p.st = 1) ∧ (p.st = 2 → (stp p a).st = 2 ∨ (stp p a).ou = 2) := by
  rcases stp_cases p a with ⟨y, h1, _⟩ | ⟨h1, _⟩ | ⟨h1, _⟩ | ⟨x, h1, _⟩
  · rw [h1]
    unfold sVote
    split
    · rename_i h0
      obtain ⟨_, hs⟩ := vote_ok h0
      exact ⟨fun k => .inl k, fun k => by omega⟩
    · exact ⟨fun k => .inl k, fun k => .inl k⟩
  · rw [h1]
    unfold sLoc
    split
    · exact ⟨fun k => .inl k, fun k => .inl k⟩
    · exact ⟨fun k => .inl k, fun k => .inl k⟩
  · rw [h1]
    unfold sDec
    split
    · rename_i h0
      obtain ⟨_, h2, h3⟩ := dec_ok h0
      refine ⟨fun k => ?_, fun k => .inr ?_⟩
      · have k : a.u = 1 := k
        rcases h3 with ⟨_, h3⟩ | ⟨_, h3⟩
        · exact .inl (h3.trans k)
        · exact .inr (h3 k)
      · show a.u = 2
        rcases h3 with ⟨h3, _⟩ | ⟨_, h3⟩
        · omega
        · rcases h2 with h2 | h2
          · have := h3 h2; omega
          · exact h2
    · exact ⟨fun k => .inl k, fun k => .inl k⟩
  · rw [h1]
    unfold sAdd
    split
    · exact ⟨fun k => .inl k, fun k => .inl k⟩
    · exact ⟨fun k => .inl k, fun k => .inl k⟩
/-- The sum of what one that is decided has changed. -/
theorem eff_sum {p : Pt} (hok : okP p = true) (h3 : p.st = 3) : (p.ou = 2 → ofD (eff p) = []) ∧ (p.ou = 1 → eff p = p.ad) := by
  rw [eff_done hok h3]
  constructor
  · intro h
    rw [if_neg (by omega)]
    split
    · exact of_opp2 _
    · exact of_nil
  · intro h
    rw [if_pos h]
end Go.Proofs.Ytmbmbodcmobllaa
