/-
  Plain facts on memory, more: append of any slice (nil, empty or not) onto a slice of the call's own, as a run and as one step of a statement whose order is open. No condition on the program but the facts on its types that each theorem names.
-/
import Derived.Test.YtcfdfimkgehdfaaMem
import Derived.RegionTactic
import Derived.Deep.RegionLaw
namespace Go.Proofs.Ytcfdfimkgehdfaa
open Go.RowKit

/-- The slice '.slice A m k' reads as the cells news ('size' for each element), wherever it lies. -/
def Src (w : World) (size : Nat) (A : Option Addr) (m : Nat) (news : List Value) : Prop :=
  news.length = m * size ∧ (0 < m → ∃ ad, A = some ad ∧ ∀ j u, news[j]? = some u → w.cell? (ad.add j) = some u)

section
variable {P : Program} (w : World)
theorem run_append_src (t ty e : TypeId) (i : TypeInfo) (z : Value) (size bytes : Nat) (ht : P.underlying t = some (.slice e)) (hi : P.info? e = some i) (hz : i.zero = some z)
    (hsize : i.size = size) (hby : i.bytes = bytes) (hzs : z.cells.size = size) (hsz : 0 < size)
    {A : Option Addr} {n c : Nat} {xs : List Value} {G : Option Nat} (h : Seg w e size A n c xs G)
    {As : Option Addr} {m : Nat} (k : Nat) {news : List Value} (hsrc : Src w size As m news) (h1 : ∀ u ∈ news, u.oneCell' = true)
    (h63 : n + m ≤ maxLen) (hbytes : (n + m) * bytes ≤ 140737488355328) :
    ∃ A' c' G' w', (Builtin.append_ #[t, t] ty #[.slice A n c, .slice As m k]).run P w = .ok (.slice A' (n + m) c') w' ∧ Seg w' e size A' (n + m) c' (xs ++ news) G' ∧ w.grownBy w' G ∧ Moved w G G' := by
  rcases Nat.eq_zero_or_pos m with h0 | h0
  · subst h0
    obtain rfl : news = [] := List.eq_nil_of_length_eq_zero (by simpa using hsrc.1)
    refine ⟨A, c, G, w, ?_, by simpa using h, World.grownBy.refl w _, .inl rfl⟩
    have hnc := h.2.1
    have hfc : (Builtin.firstCells i.size 0 (.slice As 0 k)).run P w = .ok #[] w := by
      rcases As with _ | ad
      · simp [Builtin.firstCells]
      · exact run_firstCells_some (P := P) w i.size 0 ad 0 k [] (by simp) (by simp)
    rcases A with _ | a
    · simp [Builtin.append_, run_underlying ht, sizeOf, typeInfo, hi, Builtin.lenOf, hnc, hfc]
    · simp [Builtin.append_, run_underlying ht, sizeOf, typeInfo, hi, Builtin.lenOf, hnc, hfc, storeCells]
  · obtain ⟨ad, rfl, hc⟩ := hsrc.2 h0
    exact run_append_seg w t ty e i z size bytes ht hi hz hsize hby hzs hsz h ad m k news hsrc.1 hc h1 h0 h63 hbytes

theorem step_append_src {ops : Array Oper} {o : Oper} {a : Act} {K : Act → World → Prop} {Q : Exit → Act → World → Prop} {E : Prop} (s x : Operand) (t : TypeId)
    (ho : o.op = .call { callee := .builtin .append, args := #[s, x], argTypes := #[t, t] })
    (e : TypeId) (i : TypeInfo) (z : Value) (size bytes : Nat) (ht : P.underlying t = some (.slice e)) (hi : P.info? e = some i) (hz : i.zero = some z)
    (hsize : i.size = size) (hby : i.bytes = bytes) (hzs : z.cells.size = size) (hsz : 0 < size)
    {A : Option Addr} {n c : Nat} {xs : List Value} {G : Option Nat} (hs : a.eval s = .slice A n c) (h : Seg w e size A n c xs G)
    {As : Option Addr} {m k : Nat} {news : List Value} (hx : a.eval x = .slice As m k) (hsrc : Src w size As m news) (h1 : ∀ u ∈ news, u.oneCell' = true)
    (h63 : n + m ≤ maxLen) (hbytes : (n + m) * bytes ≤ 140737488355328) (hw : Region.wanted o (yielded ops a.tmps) = true) (N : Nat) (hN : n + m = N)
    (hK : ∀ A' c' G' w', Seg w' e size A' N c' (xs ++ news) G' → w.grownBy w' G → Moved w G G' → K (a.put o.dst (.slice A' N c')) w') :
    if Region.wanted o (yielded ops a.tmps) = true then Oper.wp P o a w K Q else E := by
  subst hN
  rw [if_pos hw]
  obtain ⟨A', c', G', w', hrun, h2, h3, h4⟩ := run_append_src (P := P) w t o.type e i z size bytes ht hi hz hsize hby hzs hsz h k hsrc h1 h63 hbytes
  unfold Oper.wp
  simp [execOp, ho, resolve, invoke, builtin, hs, hx, hrun, Result.andThen]
  exact hK A' c' G' w' h2 h3 h4
end
end Go.Proofs.Ytcfdfimkgehdfaa
