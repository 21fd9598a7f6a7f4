/-
  Plain mathematics of layer 18, more: letters to one end alone. It speaks of no program. No condition.
-/
import Derived.Test.YtcfdfimkgehdfaaAiM
set_option linter.unusedVariables false
set_option linter.unusedSimpArgs false
namespace Go.Proofs.Ytcfdfimkgehdfaa

/-- Letters to the end t alone. -/
def QL (t : Nat) (L : List Lt) : Qs := updQ (fun _ => []) t L
theorem upd_upd (Q : Qs) (t : Nat) (a b : List Lt) : updQ (updQ Q t a) t b = updQ Q t b := by
  funext i
  unfold updQ
  split <;> rfl
section
variable {t room f p : Nat} {L : List Lt} {b : List UInt8} {k : Nat} {l : Lt} {y : UInt8}
theorem ql_at : QL t L t = L := updQ_same _ _ _
theorem ql_nil : QL t [] = fun _ => [] := by
  funext i
  unfold QL updQ
  split <;> rfl
theorem ql_snd (ht : t < 17) (hf : f < 17) (hb : b.length ≤ 4000) (hr : L.length < room) : sSn room (QL t L) ⟨f, t, b⟩ = QL t (L ++ [⟨f, t, b⟩]) ∧ ((eSn room (QL t L) ⟨f, t, b⟩ : Nat) : Int) = 0 := by
  have e : eSn room (QL t L) ⟨f, t, b⟩ = 0 := by
    unfold eSn
    simp only [ql_at]
    rw [if_neg (by omega), if_neg (by omega), if_neg (by omega)]
  refine ⟨?_, by rw [e]; rfl⟩
  unfold sSn
  rw [if_pos e]
  simp only [ql_at]
  unfold QL
  rw [upd_upd]
theorem ql_ok (ht : t < 17) (hx : L[k]? = some l) : eAt (QL t L) t (k : Int) = 0 := by
  unfold eAt
  rw [if_neg (by omega), if_pos]
  rw [ql_at]
  have := (List.getElem?_eq_some_iff.1 hx).1
  omega
theorem ql_x (ht : t < 17) (hx : L[k]? = some l) : xTk (QL t L) t (k : Int) = l := by
  have := xTk_at (ql_ok ht hx)
  rw [ql_at, show ((k : Int)).toNat = k by simp, hx] at this
  simpa using this.symm
theorem ql_tk (ht : t < 17) (hx : L[k]? = some l) : sTk (QL t L) t (k : Int) = QL t (L.eraseIdx k) ∧ xTk (QL t L) t (k : Int) = l ∧ ((eAt (QL t L) t (k : Int) : Nat) : Int) = 0 := by
  have e := ql_ok ht hx
  refine ⟨?_, ql_x ht hx, by rw [e]; rfl⟩
  unfold sTk
  rw [if_pos e, ql_at, show ((k : Int)).toNat = k by simp]
  unfold QL
  rw [upd_upd]
theorem ql_ag (ht : t < 17) (hx : L[k]? = some l) (hr : L.length < room) : sAg room (QL t L) t (k : Int) = QL t (L ++ [l]) ∧ ((eAg room (QL t L) t (k : Int) : Nat) : Int) = 0 := by
  have e0 := ql_ok ht hx
  have e : eAg room (QL t L) t (k : Int) = 0 := by
    unfold eAg
    rw [if_pos e0, ql_at, if_neg (by omega)]
  refine ⟨?_, by rw [e]; rfl⟩
  unfold sAg
  rw [if_pos e, ql_x ht hx, ql_at]
  unfold QL
  rw [upd_upd]
theorem ql_tn (ht : t < 17) (hx : L[k]? = some l) (hb : ¬ l.b.length = 0) : sTn (QL t L) t (k : Int) p y = QL t (L.set k (tnL l p y)) ∧ ((eTn (QL t L) t (k : Int) : Nat) : Int) = 0 := by
  have e0 := ql_ok ht hx
  have e : eTn (QL t L) t (k : Int) = 0 := by
    unfold eTn
    rw [if_pos e0, ql_x ht hx, if_neg hb]
  refine ⟨?_, by rw [e]; rfl⟩
  unfold sTn
  rw [if_pos e, ql_x ht hx, ql_at, show ((k : Int)).toNat = k by simp]
  unfold QL
  rw [upd_upd]
theorem ql_tn7 (ht : t < 17) (hx : L[k]? = some l) (hb : l.b.length = 0) : sTn (QL t L) t (k : Int) p y = QL t L ∧ ((eTn (QL t L) t (k : Int) : Nat) : Int) = 7 := by
  have e0 := ql_ok ht hx
  have e : eTn (QL t L) t (k : Int) = 7 := by
    unfold eTn
    rw [if_pos e0, ql_x ht hx, if_pos hb]
  refine ⟨?_, by rw [e]; rfl⟩
  unfold sTn
  rw [e, if_neg (by decide)]
end
end Go.Proofs.Ytcfdfimkgehdfaa
