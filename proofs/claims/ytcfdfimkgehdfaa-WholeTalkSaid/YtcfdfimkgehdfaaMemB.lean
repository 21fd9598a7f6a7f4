/-
  Plain facts on memory, more: what copy does inside one slice (its elements from i + 1 on, one place ahead), and what clear does to a slice's last elements. No condition on the program but the facts on its types that each theorem names.
-/
import Derived.Test.YtcfdfimkgehdfaaMem
namespace Go.Proofs.Ytcfdfimkgehdfaa
open Go.RowKit

section
variable {P : Program} (w : World)

theorem run_copy_seg (t e : TypeId) (i : TypeInfo) (size : Nat) (ht : P.underlying t = some (.slice e)) (hi : P.info? e = some i) (hsize : i.size = size)
    {A : Option Addr} {n c : Nat} {xs : List Value} {G : Option Nat} (h : Seg w e size A n c xs G) (h1 : ∀ u ∈ xs, u.oneCell' = true) (k : Nat) (hk : k < n) :
    ∃ w', (∀ ty m1 m2, (Builtin.copy_ #[t, t] ty #[.slice (if c = k then A else A.map (·.add (k * size))) (n - k) m1, .slice (if c = k + 1 then A else A.map (·.add ((k + 1) * size))) (n - (k + 1)) m2]).run P w = .ok (goInt (n - (k + 1) : Nat)) w') ∧
      Seg w' e size A n c (xs.take (k * size) ++ xs.drop ((k + 1) * size) ++ xs.drop ((n - 1) * size)) G ∧ w.grownBy w' G := by
  subst hsize
  have hlen := h.1
  have hnc := h.2.1
  have e1 : (k + 1) * i.size = k * i.size + i.size := by rw [Nat.add_mul, Nat.one_mul]
  have e2 : (n - 1) * i.size + i.size = n * i.size := by rw [← Nat.succ_mul]; congr 1; omega
  have e3 : (k + 1) * i.size ≤ n * i.size := Nat.mul_le_mul_right _ hk
  have e4 : (n - (k + 1)) * i.size = n * i.size - (k + 1) * i.size := Nat.sub_mul _ _ _
  have e5 : n * i.size ≤ c * i.size := Nat.mul_le_mul_right _ hnc
  rcases h.2.2.2 with ⟨rfl, rfl, rfl⟩ | ⟨g, off, cur, rfl, rfl, hb, hfit, hcells⟩
  · omega
  · have hl : (xs.drop ((k + 1) * i.size)).length = (n - (k + 1)) * i.size := by rw [List.length_drop, hlen, e4]
    obtain ⟨cs', k1, k2, k3, k4⟩ := hb.puts (xs.drop ((k + 1) * i.size)) (off + k * i.size) (by omega)
    have hst := run_storeCells_cells (P := P) g (off + k * i.size) (xs.drop ((k + 1) * i.size)) 0 w (fun j hj => by rw [hb.cell, Array.getElem?_eq_getElem (by omega)]; rfl) (fun j _ => hb.frozen _) (fun v hv => h1 v (List.mem_of_mem_drop hv))
    simp only [Nat.add_zero] at hst
    refine ⟨_, fun ty m1 m2 => ?_, ⟨?_, hnc, h.2.2.1, .inr ⟨g, off, cs', rfl, rfl, k1, by rw [k2]; exact hfit, fun j u hu => ?_⟩⟩, setCells_grown g _ _ w⟩
    · rw [if_neg (by omega : ¬ c = k)]
      have hmin : Nat.min (n - (k + 1)) (n - k) = n - (k + 1) := Nat.min_eq_left (by omega)
      by_cases hc : c = k + 1
      · have hz : n - (k + 1) = 0 := by omega
        have hnil : xs.drop ((k + 1) * i.size) = [] := List.eq_nil_of_length_eq_zero (by rw [hl, hz, Nat.zero_mul])
        rw [if_pos hc, hz]
        rw [hnil] at hst ⊢
        have hfc := run_firstCells_some (P := P) w i.size 0 ⟨g, off, none⟩ 0 m2 [] (by simp) (by simp)
        simp [Builtin.copy_, run_underlying ht, sizeOf, typeInfo, hi, Builtin.lenOf, Addr.add_lit, hfc, hst]
      · rw [if_neg hc]
        have hfc := run_firstCells_some (P := P) w i.size (n - (k + 1)) ⟨g, off + (k + 1) * i.size, none⟩ (n - (k + 1)) m2 (xs.drop ((k + 1) * i.size)) hl (fun j v hv => by
          rw [List.getElem?_drop] at hv
          rw [Addr.add_lit, hb.cell, Nat.add_assoc]
          exact hcells _ v hv)
        simp [Builtin.copy_, run_underlying ht, sizeOf, typeInfo, hi, Builtin.lenOf, Addr.add_lit, hmin, hfc, hst]
    · rw [List.length_append, List.length_append, List.length_take, List.length_drop, List.length_drop, hlen]
      omega
    · by_cases j1 : j < k * i.size
      · rw [List.getElem?_append_left (by rw [List.length_append, List.length_take, hlen]; omega), List.getElem?_append_left (by rw [List.length_take, hlen]; omega), List.getElem?_take_of_lt j1] at hu
        rw [k4 _ (by omega)]
        exact hcells j u hu
      · by_cases j2 : j < (n - 1) * i.size
        · rw [List.getElem?_append_left (by rw [List.length_append, List.length_take, List.length_drop, hlen]; omega), List.getElem?_append_right (by rw [List.length_take, hlen]; omega), List.length_take, hlen, Nat.min_eq_left (by omega)] at hu
          have := k3 (j - k * i.size) (by rw [hl]; omega)
          rw [show off + k * i.size + (j - k * i.size) = off + j by omega] at this
          rw [this]
          exact hu
        · rw [List.getElem?_append_right (by rw [List.length_append, List.length_take, List.length_drop, hlen]; omega), List.getElem?_drop, List.length_append, List.length_take, List.length_drop, hlen] at hu
          rw [show (n - 1) * i.size + (j - (min (k * i.size) (n * i.size) + (n * i.size - (k + 1) * i.size))) = j by omega] at hu
          rw [k4 _ (by rw [hl]; omega)]
          exact hcells j u hu

/-- 'clear' of all elements from k on. -/
theorem run_clear_tail (t e : TypeId) (z : Value) (size : Nat) (hsz : z.cells.size = size) (ht : P.underlying t = some (.slice e)) (hv : ∀ w, (zeroValue e).run P w = .ok z w) (hone : ∀ u ∈ z.cells, u.oneCell' = true)
    {A : Option Addr} {n c : Nat} {xs : List Value} {G : Option Nat} (h : Seg w e size A n c xs G) (k : Nat) (hk : k < n) (hpos : 0 < size) :
    ∃ w' ys, (∀ ty m, (Builtin.clear_ #[t] ty #[.slice (if c = k then A else A.map (·.add (k * size))) (n - k) m]).run P w = .ok (.tuple #[]) w') ∧ Seg w' e size A n c (xs.take (k * size) ++ ys) G ∧ w.grownBy w' G := by
  have hlen := h.1
  have hnc := h.2.1
  have e3 : k * size ≤ n * size := Nat.mul_le_mul_right _ (by omega)
  have e4 : (n - k) * size = n * size - k * size := Nat.sub_mul _ _ _
  have e5 : n * size ≤ c * size := Nat.mul_le_mul_right _ hnc
  rcases h.2.2.2 with ⟨rfl, rfl, rfl⟩ | ⟨g, off, cur, rfl, rfl, hb, hfit, hcells⟩
  · omega
  · have hzl : (Builtin.zeroCells z.cells (n - k)).toList.length = (n - k) * size := by simp [Builtin.zeroCells, hsz]
    have hst := run_storeCells_cells (P := P) g (off + k * size) (Builtin.zeroCells z.cells (n - k)).toList 0 w (fun j hj => by rw [hb.cell, Array.getElem?_eq_getElem (by omega)]; rfl) (fun j _ => hb.frozen _) (by
      intro u hu
      simp only [Builtin.zeroCells, Array.toList_map, List.mem_map] at hu
      obtain ⟨j, _, rfl⟩ := hu
      rw [getElem!_pos z.cells _ (Nat.mod_lt _ (by omega))]
      exact hone _ (Array.getElem_mem _))
    simp only [Nat.add_zero] at hst
    obtain ⟨cs', k1, k2, k3, k4⟩ := hb.puts (Builtin.zeroCells z.cells (n - k)).toList (off + k * size) (by omega)
    refine ⟨_, (Builtin.zeroCells z.cells (n - k)).toList, fun ty m => ?_, ⟨?_, hnc, h.2.2.1, .inr ⟨g, off, cs', rfl, rfl, k1, by rw [k2]; exact hfit, fun j u hu => ?_⟩⟩, setCells_grown g _ _ w⟩
    · rw [if_neg (by omega : ¬ c = k)]
      obtain ⟨q, hq⟩ : ∃ q, n - k = q + 1 := ⟨n - k - 1, by omega⟩
      rw [hq] at hst ⊢
      simp [Builtin.clear_, run_underlying ht, hv, Addr.add_lit, hst]
    · rw [List.length_append, hzl, List.length_take, hlen]
      omega
    · by_cases j1 : j < k * size
      · rw [List.getElem?_append_left (by rw [List.length_take, hlen]; omega), List.getElem?_take_of_lt j1] at hu
        rw [k4 _ (by omega)]
        exact hcells j u hu
      · rw [List.getElem?_append_right (by rw [List.length_take, hlen]; omega), List.length_take, hlen, Nat.min_eq_left e3] at hu
        have hj := (List.getElem?_eq_some_iff.1 hu).1
        have := k3 (j - k * size) hj
        rw [show off + k * size + (j - k * size) = off + j by omega] at this
        rw [this]
        exact hu
end
end Go.Proofs.Ytcfdfimkgehdfaa
