/-
  A slice argument that came in, opened, for elements that are written as a fixed number of cells. No condition.
-/
import Derived.Test.YtfdboahcaiolgaaRows
import Derived.Test.YtfdboahcaiolgaaMgR
import Derived.ProofKit
import Derived.OpenShut
import Derived.Deep.Slices
import Derived.Deep.Fields
import Derived.ChangeArms
set_option linter.unusedVariables false
set_option linter.unusedSimpArgs false
namespace Go.Proofs.Ytfdboahcaiolgaa
open Go.RowKit Go.ChangeShapes Go.WideShapes Go.Deep

theorem exists_list {α : Type} (P : Nat → α → Prop) : ∀ n : Nat, (∀ i, i < n → ∃ v, P i v) → ∃ l : List α, l.length = n ∧ ∀ (j : Nat) (v : α), l[j]? = some v → P j v
  | 0, _ => ⟨[], rfl, fun j v hv => by simp at hv⟩
  | n + 1, h => by
    obtain ⟨l, h1, h2⟩ := exists_list P n (fun i hi => h i (by omega))
    obtain ⟨v, hv⟩ := h n (by omega)
    refine ⟨l ++ [v], by simp [h1], fun j u hu => ?_⟩
    by_cases hj : j < l.length
    · rw [List.getElem?_append_left hj] at hu
      exact h2 j u hu
    · rw [List.getElem?_append_right (by omega)] at hu
      obtain ⟨hlt, he⟩ := List.getElem?_eq_some_iff.1 hu
      simp at hlt he
      obtain rfl : j = n := by omega
      rw [← he]
      exact hv

/-- A slice whose elements are each written as s cells, opened. -/
theorem row_of {α : Type} {c : α → List Value} {s : Nat} [Nonempty (EncOk c s)] {H : Type} {enc : TypeId × Value → H} {w : World} {a : Option Addr} {len cap : Nat} {d : DataW H} {p : List MemPlace} {t e : TypeId} (q : α → Prop)
    (ht : Try.prog.underlying t = some (.slice e)) (hs : Try.prog.cellsOf e = s)
    (hone : ∀ (m : Nat) (cs : List Value) (y : DataW H × List MemPlace), cs.length = s → DataW.trod enc Try.prog w 0 (fun _ => true) true m e cs = some y → ∃ x, q x ∧ cs = c x)
    (h : DataW.Trod enc Try.prog w 0 (fun _ => true) true t (.slice a len cap) d p) :
    ∃ L : List α, RR w c s a len cap L ∧ ∀ x ∈ L, q x := by
  obtain ⟨fuel, hf⟩ := h
  rcases open_slice ht hf with ⟨hcs, _⟩ | ⟨x, l, c', m, n, D, Pl, hcs, hb, hl, hm, hmm, _, hi⟩
  · simp [Value.cells] at hcs
    obtain ⟨rfl, rfl, rfl⟩ := hcs
    exact ⟨[], RR.nil _ _ _, by simp⟩
  · simp [Value.cells] at hcs
    obtain ⟨rfl, rfl, rfl⟩ := hcs
    simp only [if_true] at hmm
    subst hmm
    have key : ∀ i, i < len → ∃ v : α, q v ∧ ∀ (j : Nat) (u : Value), (c v)[j]? = some u → w.cell? ((x.add (i * s)).add j) = some u := by
      intro i hil
      obtain ⟨cs', hc, ht⟩ := hi i (by omega)
      rw [hs] at hc
      obtain ⟨_, hcl, hat⟩ := World.cells?_some hc
      obtain ⟨v, hq, rfl⟩ := hone _ _ _ hcl ht
      refine ⟨v, hq, fun j u hu => ?_⟩
      rw [hat j (by rw [← hcl]; exact (List.getElem?_eq_some_iff.1 hu).1)]
      exact hu
    obtain ⟨L, h1, h2⟩ := exists_list _ len key
    refine ⟨L, ?_, fun v hv => ?_⟩
    · rcases Nat.eq_zero_or_pos len with h0 | h0
      · obtain rfl : L = [] := List.eq_nil_of_length_eq_zero (by omega)
        exact ⟨h1, by omega, by omega, fun h => by omega⟩
      · obtain ⟨v0, _, z1⟩ := key 0 h0
        have hl0 : 0 < (c v0).length := by rw [encLen (s := s)]; exact encPos c
        have z1 := z1 0 _ (List.getElem?_eq_getElem hl0)
        obtain ⟨b, off, spot⟩ := x
        have hspot : spot = none := by simpa [Addr.add] using World.cell?_spot z1
        subst hspot
        refine RR.of_at h1 (by omega) (by omega) fun k x hx i v hv => ?_
        have := (h2 k x hx).2 i v hv
        simpa only [Addr.add_lit] using this
    · obtain ⟨j, hj, rfl⟩ := List.getElem_of_mem hv
      exact (h2 j _ (List.getElem?_eq_getElem hj)).1

end Go.Proofs.Ytfdboahcaiolgaa
