/-
  Steps of a walk: an element of a slice of structs is stored. No condition but what each theorem names.
-/
import Derived.Test.YtjfmahceolhfnaaChN
import Derived.Test.YtjfmahceolhfnaaChE
import Derived.Test.YtjfmahceolhfnaaChT
set_option linter.unusedVariables false
set_option linter.unusedSimpArgs false
set_option linter.unusedSectionVars false
namespace Go.Proofs.Ytjfmahceolhfnaa
open Go.RowKit

theorem rc_set {α : Type} {c : α → List Value} (s : Nat) [Nonempty (EncOk c s)] : ∀ (L : List α) (k : Nat) (x : α) (j : Nat), k < L.length → (rc c (L.set k x))[j]? = if k * s ≤ j ∧ j < k * s + s then (c x)[j - k * s]? else (rc c L)[j]?
  | [], k, x, j, h => by simp at h
  | y :: r, 0, x, j, h => by
    have hy := encLen (c := c) (s := s) y
    have hx := encLen (c := c) (s := s) x
    rw [List.set_cons_zero, rc_cons, rc_cons, Nat.zero_mul, Nat.zero_add, Nat.sub_zero]
    by_cases hj : j < s
    · rw [if_pos ⟨Nat.zero_le _, hj⟩, List.getElem?_append_left (by omega)]
    · rw [if_neg (by omega), List.getElem?_append_right (by omega), List.getElem?_append_right (by omega), hx, hy]
  | y :: r, k + 1, x, j, h => by
    have hy := encLen (c := c) (s := s) y
    have ih := rc_set (c := c) s r k x (j - s) (by simpa using h)
    rw [List.set_cons_succ, rc_cons, rc_cons]
    have e : (k + 1) * s = k * s + s := by rw [Nat.add_mul, Nat.one_mul]
    rw [e]
    by_cases hj : j < s
    · rw [List.getElem?_append_left (by omega), List.getElem?_append_left (by omega), if_neg (by omega)]
    · rw [List.getElem?_append_right (by omega), List.getElem?_append_right (by omega), hy, ih]
      by_cases h1 : k * s ≤ j - s ∧ j - s < k * s + s
      · rw [if_pos h1, if_pos (by omega)]
        congr 1
        omega
      · rw [if_neg h1, if_neg (by omega)]
section
variable {P : Program} {ops : Array Oper} {rest : List Oper} {dst : Option Tmp} {ty : TypeId} {pos : String} {aft : Array Edge} {a : Act} {w : World} {Q : Exit → Act → World → Prop}
theorem st_slot {α : Type} {c : α → List Value} {s : Nat} [Nonempty (EncOk c s)] (T : TypeId) (x y : Operand) (g off k : Nat) (e : α) (hx : a.eval x = .pointer (some ⟨g, off + k * s, none⟩)) (hy : a.eval y = .agg (c e).toArray)
    {n q : Nat} {L : List α} (h : Seg w T s (some ⟨g, off, none⟩) n q (rc c L) (some g)) (hk : k < n) (hi : (P.info? T).map (·.size) = some s) (h1 : (c e).toArray.all (·.oneCell') = true)
    (kk : Sh (∀ V, Seg V T s (some ⟨g, off, none⟩) n q (rc c (L.set k e)) (some g) → Wr w V g → wpList P ops Q rest (a.put dst undef) V)) : wpList P ops Q (⟨dst, .store T x y, ty, pos, aft, none⟩ :: rest) a w := by
  have hL := rc_len h
  have hs := encLen (c := c) (s := s) e
  rcases h.2.2.2 with ⟨h0, _⟩ | ⟨g', off', cur, e1, e2, h3, h4, h5⟩
  · cases h0
  · cases e1
    have hnq : n * s ≤ q * s := Nat.mul_le_mul_right _ h.2.1
    have hks : k * s + s ≤ n * s := by
      have : (k + 1) * s ≤ n * s := Nat.mul_le_mul_right _ hk
      rwa [Nat.add_mul, Nat.one_mul] at this
    have hsz : off + k * s + (c e).toArray.size ≤ cur.size := by simp [hs]; omega
    refine st_mid T x y g (off + k * s) (c e).toArray hx hy h3 hsz rfl (by simp [hs, hi]) h1 ⟨fun V hV kV => kk.out V ⟨?_, h.2.1, h.2.2.1, .inr ⟨g, off, _, rfl, rfl, hV, ?_, fun j u hu => ?_⟩⟩ kV⟩
    · rw [rc_length s, List.length_set, hL]
    · simp [hs]
      omega
    · rw [rc_set (c := c) s L k e j (by omega)] at hu
      have hlen1 : (cur.extract 0 (off + k * s)).size = off + k * s := by simp; omega
      split at hu
      · rename_i hr
        rw [Array.append_assoc, Array.getElem?_append_right (by omega), hlen1, Array.getElem?_append_left (by simp [hs]; omega)]
        rw [show off + j - (off + k * s) = j - k * s by omega]
        simpa using hu
      · rename_i hr
        have hj : j < n * s := by
          have := (List.getElem?_eq_some_iff.1 hu).1
          rwa [rc_length s, hL] at this
        have := h5 j u hu
        by_cases hlt : j < k * s
        · rw [Array.append_assoc, Array.getElem?_append_left (by omega), Array.getElem?_extract, if_pos (by omega)]
          simpa using this
        · rw [Array.getElem?_append_right (by simp [hs]; omega), Array.getElem?_extract, if_pos (by simp [hs]; omega)]
          simp only [Array.size_append, hlen1]
          rw [← this]
          congr 1
          simp [hs]
          omega
end
end Go.Proofs.Ytjfmahceolhfnaa
