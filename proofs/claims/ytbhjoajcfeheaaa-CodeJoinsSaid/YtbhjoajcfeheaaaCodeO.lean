/-
  Arguments of layer 2's laws: a slice of values, and a slice of bytes, that came in: what a walk wants of them. No condition.
-/
import Derived.Test.YtbhjoajcfeheaaaCodeE
import Derived.ProofKit
import Derived.OpenShut
import Derived.Deep.Slices
import Derived.Deep.Fields
namespace Go.Proofs.Ytbhjoajcfeheaaa
open Go.RowKit Go.ChangeShapes Go.WideShapes Go.Deep

theorem exists_list {α : Type} (P : Nat → α → Prop) : ∀ n : Nat, (∀ i, i < n → ∃ v, P i v) → ∃ l : List α, l.length = n ∧ ∀ (j : Nat) (v : α), l[j]? = some v → P j v
  | 0, _ => ⟨[], rfl, fun j v hv => by simp at hv⟩
  | n + 1, h => by
    obtain ⟨l, h1, h2⟩ := exists_list P n (fun i hi => h i (by omega))
    obtain ⟨v, hv⟩ := h n (by omega)
    refine ⟨l ++ [v], by simp [h1], fun j u hu => ?_⟩
    by_cases hj : j < l.length
    · rw [List.getElem?_append_left hj] at hu
      exact h2 j u hu
    · rw [List.getElem?_append_right (by omega)] at hu
      obtain ⟨hlt, he⟩ := List.getElem?_eq_some_iff.1 hu
      simp at hlt he
      obtain rfl : j = n := by omega
      rw [← he]
      exact hv

theorem Try.cellsVal : Try.prog.cellsOf 50 = 2 := by kernel_rfl

theorem vals_of {H : Type} {enc : TypeId × Value → H} {w : World} {a : Option Addr} {len cap : Nat} {d : DataW H} {p : List MemPlace}
    (h : DataW.Trod enc Try.prog w 0 (fun _ => true) true 22 (.slice a len cap) d p) :
    ∃ l : List CV, len = l.length ∧ VR w a l ∧ l.length ≤ maxLen := by
  obtain ⟨fuel, hf⟩ := h
  rcases open_slice Try.underlying22 hf with ⟨hcs, _⟩ | ⟨x, l, c, m, n, D, Pl, hcs, hb, hl, hm, hmm, _, hi⟩
  · simp [Value.cells] at hcs
    obtain ⟨rfl, rfl, rfl⟩ := hcs
    exact ⟨[], rfl, fun j v hv => by simp at hv, Nat.zero_le _⟩
  · simp [Value.cells] at hcs
    obtain ⟨rfl, rfl, rfl⟩ := hcs
    simp only [if_true] at hmm
    subst hmm
    have key : ∀ i, i < len → ∃ v : CV, v.n < 18446744073709551616 ∧ v.s.size ≤ maxLen ∧ w.cell? ((x.add (i * 2)).add 0) = some (.int .u64 v.n) ∧ w.cell? ((x.add (i * 2)).add 1) = some (.string v.s) := by
      intro i hil
      obtain ⟨cs', hc, ht⟩ := hi i (by omega)
      rw [Try.cellsVal] at hc
      obtain ⟨xs, n', _, _, _, hxl, hg⟩ := DataW.trod_struct Try.underlying50 ht
      obtain ⟨_, hcl, hat⟩ := World.cells?_some hc
      match cs', hcl, xs, hxl with
      | [u0, u1], _, [y0, y1], _ =>
        have g0 : DataW.trod enc Try.prog w 0 (fun _ => true) true n' 41 (([u0, u1].drop 0).take (Try.prog.cellsOf 41)) = some y0 := hg 0 _ rfl
        have g1 : DataW.trod enc Try.prog w 0 (fun _ => true) true n' 9 (([u0, u1].drop 1).take (Try.prog.cellsOf 9)) = some y1 := hg 1 _ rfl
        rw [show Try.prog.cellsOf 41 = 1 by kernel_rfl] at g0
        rw [show Try.prog.cellsOf 9 = 1 by kernel_rfl] at g1
        obtain ⟨n0, e0, _, wf0⟩ := DataW.trod_int (x := y0) Try.underlying41 g0
        obtain ⟨s1, e1, _, wf1⟩ := DataW.trod_string (x := y1) Try.underlying9 g1
        simp at e0 e1
        subst e0 e1
        have hb0 := bounds_u64 wf0
        obtain ⟨k, rfl⟩ : ∃ k : Nat, n0 = k := ⟨n0.toNat, by omega⟩
        exact ⟨⟨k, s1⟩, by simp only; omega, wf1, hat 0 (by omega), hat 1 (by omega)⟩
    obtain ⟨vs, h1, h2⟩ := exists_list _ len key
    refine ⟨vs, h1.symm, fun j v hv => ?_, by omega⟩
    have hj : j < len := by rw [← h1]; exact (List.getElem?_eq_some_iff.1 hv).1
    obtain ⟨k1, k2, k3, k4⟩ := h2 j v hv
    obtain ⟨v0, _, _, z1, _⟩ := key 0 (by omega)
    obtain ⟨b, off, spot⟩ := x
    have hspot : spot = none := by simpa [Addr.add] using World.cell?_spot z1
    subst hspot
    simp only [Addr.add_lit, Nat.add_zero] at k3 k4
    exact ⟨k1, k2, b, off, rfl, World.block_lt_of_cell? w _ k3, k3, k4⟩

theorem bytes_of {H : Type} {enc : TypeId × Value → H} {w : World} {a : Option Addr} {len cap : Nat} {d : DataW H} {p : List MemPlace}
    (h : DataW.Trod enc Try.prog w 0 (fun _ => true) true 25 (.slice a len cap) d p) :
    ∃ bs : List UInt8, BR w w.heap.size a len cap bs := by
  obtain ⟨fuel, hf⟩ := h
  rcases open_slice Try.underlying25 hf with ⟨hcs, _⟩ | ⟨x, l, c, m, n, D, Pl, hcs, hb, hl, hm, hmm, _, hi⟩
  · simp [Value.cells] at hcs
    obtain ⟨rfl, rfl, rfl⟩ := hcs
    exact ⟨[], BR.nil _ _⟩
  · simp [Value.cells] at hcs
    obtain ⟨rfl, rfl, rfl⟩ := hcs
    simp only [if_true] at hmm
    subst hmm
    have key : ∀ i, i < len → ∃ v : UInt8, w.cell? (x.add i) = some (.int .u8 (v.toNat : Int)) := by
      intro i hil
      obtain ⟨cs', hc, ht⟩ := hi i (by omega)
      rw [show Try.prog.cellsOf 5 = 1 by kernel_rfl] at hc
      obtain ⟨_, hcl, hat⟩ := World.cells?_some hc
      match cs', hcl with
      | [u0], _ =>
        obtain ⟨n0, e0, _, wf0⟩ := DataW.trod_int Try.underlying5 ht
        simp at e0
        subst e0
        have hb0 := bounds_u8 wf0
        have := hat 0 (by omega)
        refine ⟨UInt8.ofNat n0.toNat, ?_⟩
        rw [show ((UInt8.ofNat n0.toNat).toNat : Int) = n0 by rw [UInt8.toNat_ofNat']; omega]
        simpa [Addr.add] using this
    obtain ⟨vs, h1, h2⟩ := exists_list _ len key
    refine ⟨vs, h1, hl, by omega, fun hn => ?_⟩
    obtain ⟨v0, z1⟩ := key 0 (by omega)
    obtain ⟨b, off, spot⟩ := x
    have hspot : spot = none := by simpa [Addr.add] using World.cell?_spot z1
    subst hspot
    exact ⟨b, off, rfl, World.block_lt_of_cell? w _ z1, fun i v hv => by have := h2 i v hv; rwa [Addr.add_lit] at this⟩
end Go.Proofs.Ytbhjoajcfeheaaa
