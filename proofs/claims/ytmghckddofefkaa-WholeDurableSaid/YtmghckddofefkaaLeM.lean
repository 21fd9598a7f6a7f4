/-
  Plain mathematics of layer 11 (lease): leases, what may be taken, given, spoken. It speaks of no program. No condition.
-/
import Derived.Below
namespace Go.Proofs.Ytmghckddofefkaa

/-- A lease: epoch, state, station. -/
structure Ls where
  ep : Int
  st : Int
  to : Int
theorem Ls.ext_ {a b : Ls} (h1 : a.ep = b.ep) (h2 : a.st = b.st) (h3 : a.to = b.to) : a = b := by cases a; cases b; simp_all
def inEp (e : Int) : Bool := decide (1 ≤ e) && decide (e ≤ 1048576)
theorem inEp_yes {e : Int} (h : inEp e = true) : 1 ≤ e ∧ e ≤ 1048576 := by simpa [inEp] using h
theorem inEp_no {e : Int} (h : inEp e = false) : e < 1 ∨ 1048576 < e := by
  simp [inEp] at h
  omega
def rightL (l : Ls) : Bool :=
  if l.st = 0 then decide (l.ep = 0) && decide (l.to = 0)
  else if l.st = 1 then inEp l.ep && decide (l.to = 0)
  else if l.st = 2 then inEp l.ep && decide (l.to < 8) else false
/-- In the range of its types. -/
def inL (l : Ls) : Prop := (-9223372036854775808 ≤ l.ep ∧ l.ep ≤ 9223372036854775807) ∧ (-9223372036854775808 ≤ l.st ∧ l.st ≤ 9223372036854775807) ∧ (0 ≤ l.to ∧ l.to ≤ 255)
def heldL (e : Int) : Ls := ⟨e, 1, 0⟩
def eTakeL (l : Ls) (e : Int) : Nat :=
  if rightL l = false ∨ inEp e = false then 2
  else if l.st = 1 ∧ l.ep = e then 8
  else if e ≤ l.ep then 10 else 0
def sTakeL (l : Ls) (e : Int) : Ls := if eTakeL l e = 0 then heldL e else l
def eGiveL (l : Ls) (t : Int) : Nat :=
  if rightL l = false ∨ 8 ≤ t then 2
  else if ¬ l.st = 1 then 7
  else if l.ep = 1048576 then 3 else 0
def sGiveL (l : Ls) (t : Int) : Ls := if eGiveL l t = 0 then ⟨l.ep, 2, t⟩ else l
def speaksL (l : Ls) (e : Int) : Bool := rightL l && (decide (l.st = 1) && decide (l.ep = e))

theorem right_cases {l : Ls} (h : rightL l = true) : (l.st = 0 ∧ l.ep = 0 ∧ l.to = 0) ∨ (l.st = 1 ∧ (1 ≤ l.ep ∧ l.ep ≤ 1048576) ∧ l.to = 0) ∨ (l.st = 2 ∧ (1 ≤ l.ep ∧ l.ep ≤ 1048576) ∧ l.to < 8) := by
  unfold rightL at h
  split at h
  · rename_i h0
    simp at h
    exact .inl ⟨h0, h.1, h.2⟩
  · split at h
    · rename_i h1
      simp at h
      exact .inr (.inl ⟨h1, inEp_yes h.1, h.2⟩)
    · split at h
      · rename_i h2
        simp at h
        exact .inr (.inr ⟨h2, inEp_yes h.1, h.2⟩)
      · cases h
theorem right_zero : rightL ⟨0, 0, 0⟩ = true := by decide
theorem right_held {e : Int} (h1 : 1 ≤ e) (h2 : e ≤ 1048576) : rightL ⟨e, 1, 0⟩ = true := by
  simp [rightL, inEp, h1, h2]
theorem right_gone {e t : Int} (h1 : 1 ≤ e) (h2 : e ≤ 1048576) (h3 : t < 8) : rightL ⟨e, 2, t⟩ = true := by
  simp [rightL, inEp, h1, h2, h3]
theorem right_take {l : Ls} {e : Int} (h : rightL l = true) : rightL (sTakeL l e) = true := by
  unfold sTakeL
  split
  · rename_i h0
    unfold eTakeL at h0
    split at h0
    · cases h0
    · rename_i h1
      have : inEp e = true := by cases hi : inEp e <;> simp_all
      exact right_held (inEp_yes this).1 (inEp_yes this).2
  · exact h
theorem right_give {l : Ls} {t : Int} (h : rightL l = true) : rightL (sGiveL l t) = true := by
  unfold sGiveL
  split
  · rename_i h0
    unfold eGiveL at h0
    split at h0
    · cases h0
    · rename_i h1
      split at h0
      · cases h0
      · rename_i h2
        simp only [Decidable.not_not] at h2
        rcases right_cases h with ⟨a, _⟩ | ⟨a, b, c⟩ | ⟨a, _⟩
        · omega
        · exact right_gone b.1 b.2 (by omega)
        · omega
  · exact h
theorem in_take {l : Ls} {e : Int} (h : inL l) (he : -9223372036854775808 ≤ e ∧ e ≤ 9223372036854775807) : inL (sTakeL l e) := by
  unfold sTakeL
  split
  · exact ⟨he, by simp [heldL], by simp [heldL]⟩
  · exact h
theorem in_give {l : Ls} {t : Int} (h : inL l) (ht : 0 ≤ t ∧ t ≤ 255) : inL (sGiveL l t) := by
  unfold sGiveL
  split
  · exact ⟨h.1, by simp, ht⟩
  · exact h
end Go.Proofs.Ytmghckddofefkaa
