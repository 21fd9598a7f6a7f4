/-
  Plain mathematics: sums of what parts change. No program, no condition but those that each theorem names.
-/
import Derived.Test.YtealcccjnmfkcaaPtM
set_option linter.unusedVariables false
set_option linter.unusedSimpArgs false
namespace Go.Proofs.Ytealcccjnmfkcaa
open Go.RowKit Go.IntWalk

theorem tot_reverse (L : List Dl) (k : Int) : tot L.reverse k = tot L k := by
  induction L with
  | nil => rfl
  | cons x r ih => rw [List.reverse_cons, tot_append, ih, tot, tot, tot]; omega
theorem num_opp2 (L : List Dl) (k : Int) : num (L ++ opp L) k = 0 := by
  have e : num (opp L) k = num (L.map negD) k := by
    unfold num opp
    rw [tot_reverse]
  rw [num_append, e, ← num_append]
  exact num_opp L k
theorem of_opp2 (L : List Dl) : ofD (L ++ opp L) = [] := of_none fun i _ => num_opp2 L i
theorem of_nil : ofD [] = [] := of_none fun i _ => num_nil _
/-- Decided with what was not committed ahead, or was: the same sum. -/
theorem dec_sum {L : List Dl} {o u : Int} (hok : okP ⟨1, L, false, o⟩ = true) (hu : u = 1 ∨ u = 2) :
    (sDec ⟨1, L, false, o⟩ u = ⟨3, L, false, u⟩ ∧ eDec ⟨1, L, false, o⟩ u = 0) ∧ (sLoc ⟨1, L, false, o⟩ = ⟨1, L, true, o⟩ ∧ dLoc ⟨1, L, false, o⟩ = L ∧ eLoc ⟨1, L, false, o⟩ = 0) ∧
      (sDec ⟨1, L, true, o⟩ u = ⟨3, L, true, u⟩ ∧ eDec ⟨1, L, true, o⟩ u = 0) ∧ ofD (dDec ⟨1, L, false, o⟩ u) = ofD (L ++ dDec ⟨1, L, true, o⟩ u) ∧ (dDec ⟨1, L, false, o⟩ u).length ≤ L.length ∧ (dDec ⟨1, L, true, o⟩ u).length ≤ L.length := by
  have hd : deB u = true := de_iff.2 hu
  have e1 : eDec ⟨1, L, false, o⟩ u = 0 := by
    unfold eDec
    rw [if_neg (fun k => k.elim (fun k => by rw [hok] at k; cases k) (fun k => by rw [hd] at k; cases k)), if_neg (fun k => by have : (1 : Int) = 3 := k.1; omega), if_neg (fun k => k.elim (fun k => by have : (1 : Int) = 3 := k; omega) (fun k => k.2 rfl))]
  have e2 : eLoc ⟨1, L, false, o⟩ = 0 := by
    unfold eLoc
    rw [if_neg (by rw [hok]; simp), if_neg (by simp), if_neg (by simp)]
  have e3 : sLoc ⟨1, L, false, o⟩ = ⟨1, L, true, o⟩ := by unfold sLoc; rw [if_pos e2]
  have hok2 : okP ⟨1, L, true, o⟩ = true := by rw [← e3]; exact ok_loc hok
  have e4 : eDec ⟨1, L, true, o⟩ u = 0 := by
    unfold eDec
    rw [if_neg (fun k => k.elim (fun k => by rw [hok2] at k; cases k) (fun k => by rw [hd] at k; cases k)), if_neg (fun k => by have : (1 : Int) = 3 := k.1; omega), if_neg (fun k => k.elim (fun k => by have : (1 : Int) = 3 := k; omega) (fun k => k.2 rfl))]
  have d1 : dDec ⟨1, L, false, o⟩ u = if u = 1 then L else [] := by
    unfold dDec
    rw [if_pos ⟨e1, by show (1 : Int) ≠ 3; omega⟩]
    simp
  have d2 : dDec ⟨1, L, true, o⟩ u = if u = 1 then [] else opp L := by
    unfold dDec
    rw [if_pos ⟨e4, by show (1 : Int) ≠ 3; omega⟩]
    simp
  refine ⟨⟨by unfold sDec; rw [if_pos e1], e1⟩, ⟨e3, by unfold dLoc; rw [if_pos e2], e2⟩, ⟨by unfold sDec; rw [if_pos e4], e4⟩, ?_, ?_, ?_⟩
  · rw [d1, d2]
    rcases hu with rfl | rfl
    · simp
    · simp [of_opp2, of_nil]
  · rw [d1]; split <;> simp
  · rw [d2]; split <;> simp [opp]
end Go.Proofs.Ytealcccjnmfkcaa
