/-
  Plain mathematics of layer 4: what Append, Crash, Repair and Renew answer, as lists of bytes. It speaks of no program. No condition.
-/
import Derived.Test.YtdelllkgllfcdaaSumM
namespace Go.Proofs.Ytdelllkgllfcdaa

/-- What Append answers: its error, and the bytes. -/
def eA (n r : Nat) (rec : List UInt8) : Nat := if 4000 < rec.length then 3 else if r < n + (rec.length + 7) then 6 else 0
def bA (r : Nat) (bs rec : List UInt8) : List UInt8 := if eA bs.length r rec = 0 then bs ++ frameB rec else bs
theorem eA_big {n r : Nat} {rec : List UInt8} (h : 4000 < rec.length) : eA n r rec = 3 := if_pos h
theorem eA_full {n r : Nat} {rec : List UInt8} (h : ¬ 4000 < rec.length) (h1 : r < n + (rec.length + 7)) : eA n r rec = 6 := by unfold eA; rw [if_neg h, if_pos h1]
theorem eA_ok {n r : Nat} {rec : List UInt8} (h : ¬ 4000 < rec.length) (h1 : ¬ r < n + (rec.length + 7)) : eA n r rec = 0 := by unfold eA; rw [if_neg h, if_neg h1]
theorem bA_bad {r : Nat} {bs rec : List UInt8} (h : ¬ eA bs.length r rec = 0) : bA r bs rec = bs := if_neg h
theorem bA_ok {r : Nat} {bs rec : List UInt8} (h : eA bs.length r rec = 0) : bA r bs rec = bs ++ frameB rec := if_pos h
theorem eA_zero {n r : Nat} {rec : List UInt8} (h : eA n r rec = 0) : rec.length ≤ 4000 ∧ n + (rec.length + 7) ≤ r := by
  unfold eA at h
  split at h
  · omega
  · split at h <;> omega

/-- What Renew answers: its error, and the bytes. -/
def bigB (ls : List (List UInt8)) : Bool := ls.any fun l => decide (4000 < l.length)
def eR (r : Nat) (ls : List (List UInt8)) : Nat := if bigB ls = true then 3 else if r < (frs ls).length then 6 else 0
theorem bigB_no {ls : List (List UInt8)} (h : bigB ls = false) : ∀ l ∈ ls, l.length ≤ 4000 := by
  intro l hl
  unfold bigB at h
  rw [List.any_eq_false] at h
  have := h l hl
  simpa using this
theorem bigB_yes {ls : List (List UInt8)} {k : Nat} {l : List UInt8} (h : ls[k]? = some l) (h1 : 4000 < l.length) : bigB ls = true := by
  unfold bigB
  rw [List.any_eq_true]
  exact ⟨l, List.mem_of_getElem? h, by simpa using h1⟩
theorem eR_big {r : Nat} {ls : List (List UInt8)} (h : bigB ls = true) : eR r ls = 3 := if_pos h
theorem eR_full {r : Nat} {ls : List (List UInt8)} (h : bigB ls = false) (h1 : r < (frs ls).length) : eR r ls = 6 := by unfold eR; rw [if_neg (by rw [h]; decide), if_pos h1]
theorem eR_ok {r : Nat} {ls : List (List UInt8)} (h : bigB ls = false) (h1 : ¬ r < (frs ls).length) : eR r ls = 0 := by unfold eR; rw [if_neg (by rw [h]; decide), if_neg h1]
theorem eR_zero {r : Nat} {ls : List (List UInt8)} (h : eR r ls = 0) : bigB ls = false ∧ (frs ls).length ≤ r := by
  unfold eR at h
  split at h
  · omega
  · split at h
    · omega
    · rename_i h1 h2
      exact ⟨by simpa using h1, by omega⟩
theorem frs_next {ls : List (List UInt8)} {k : Nat} {l : List UInt8} (h : ls[k]? = some l) : frs (ls.take (k + 1)) = frs (ls.take k) ++ frameB l := by
  obtain ⟨h1, rfl⟩ := List.getElem?_eq_some_iff.1 h
  rw [List.take_succ_eq_append_getElem h1, frs_snoc]
theorem frs_take_le (ls : List (List UInt8)) (k : Nat) : (frs (ls.take k)).length ≤ (frs ls).length := by
  conv => rhs; rw [← List.take_append_drop k ls, frs_append, List.length_append]
  omega

/-- The bytes of the frames that stand at the beginning are those of the records. -/
theorem take_aN : ∀ (n : Nat) (b : List UInt8), b.length ≤ n → b.take (aN b) = frs (aC b) ∧ ∀ l ∈ aC b, l.length ≤ 4000
  | 0, b, h => by
    have hb : b = [] := List.eq_nil_of_length_eq_zero (by omega)
    obtain ⟨h1, h2⟩ := aC_no (b := b) (by rw [fE_none (by omega)]; omega)
    rw [h1, h2]
    simp [frs]
  | n + 1, b, h => by
    by_cases h0 : fE b = 0
    · obtain ⟨h1, h2⟩ := aC_yes h0
      have hk := fK_ok h0
      have hz := fE_zero h0
      have hf := first_frame h0
      obtain ⟨i1, i2⟩ := take_aN n (b.drop (fK b)) (by rw [List.length_drop]; omega)
      refine ⟨?_, ?_⟩
      · rw [h1, h2, frs_cons, ← i1, List.take_add, hk, hf.1]
      · rw [h1]
        intro l hl
        rcases List.mem_cons.1 hl with rfl | hl
        · exact fC_length_le b
        · exact i2 l hl
    · obtain ⟨h1, h2⟩ := aC_no h0
      rw [h1, h2]
      simp [frs]
theorem aC_nil : aC [] = [] ∧ aN [] = 0 := aC_no (by decide)
theorem aC_all {ls : List (List UInt8)} (h : ∀ l ∈ ls, l.length ≤ 4000) : aC (frs ls) = ls ∧ aN (frs ls) = (frs ls).length := by
  have := aC_frs ls [] h
  rw [List.append_nil, aC_nil.1, aC_nil.2, List.append_nil, Nat.add_zero] at this
  exact this

/-- What is found in a beginning is a beginning of what is found. -/
theorem aC_prefix : ∀ (n : Nat) (y z : List UInt8), y.length ≤ n → ∃ r, aC (y ++ z) = aC y ++ r
  | 0, y, z, h => by
    obtain ⟨h1, _⟩ := aC_no (b := y) (by rw [fE_none (by omega)]; omega)
    exact ⟨aC (y ++ z), by rw [h1]; rfl⟩
  | n + 1, y, z, h => by
    by_cases h0 : fE y = 0
    · obtain ⟨h1, _⟩ := aC_yes h0
      have hk := fK_ok h0
      have hz := fE_zero h0
      have hf := first_frame h0
      have hy : y = frameB (fC y) ++ y.drop (fK y) := by rw [hk, ← hf.1, List.take_append_drop]
      obtain ⟨r, hr⟩ := aC_prefix n (y.drop (fK y)) z (by rw [List.length_drop]; omega)
      obtain ⟨k1, k2, k3⟩ := frame_first (fC y) (y.drop (fK y) ++ z) (fC_length_le y)
      have he : y ++ z = frameB (fC y) ++ (y.drop (fK y) ++ z) := by rw [← List.append_assoc, ← hy]
      obtain ⟨e1, _⟩ := aC_yes k1
      refine ⟨r, ?_⟩
      rw [he, e1, k2, k3, List.drop_left' (frameB_length (fC y)), hr, h1]
      rfl
    · obtain ⟨h1, _⟩ := aC_no h0
      exact ⟨aC (y ++ z), by rw [h1]; rfl⟩
theorem aC_less (b : List UInt8) {p q : Nat} (h : p ≤ q) : ∃ r, aC (b.take q) = aC (b.take p) ++ r := by
  obtain ⟨r, hr⟩ := aC_prefix _ (b.take p) ((b.take q).drop p) (Nat.le_refl _)
  refine ⟨r, ?_⟩
  rw [← hr]
  congr 1
  conv => lhs; rw [← List.take_append_drop p (b.take q)]
  rw [List.take_take, Nat.min_eq_left h]
end Go.Proofs.Ytdelllkgllfcdaa
