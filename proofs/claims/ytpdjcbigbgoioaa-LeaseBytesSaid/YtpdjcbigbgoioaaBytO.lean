/-
  Arguments that are slices of bytes that came in: what a walk wants of them. No condition.
-/
import Derived.Test.YtpdjcbigbgoioaaBytA
import Derived.ProofKit
import Derived.OpenShut
import Derived.Deep.Slices
import Derived.Deep.Fields
namespace Go.Proofs.Ytpdjcbigbgoioaa
open Go.RowKit Go.ChangeShapes Go.WideShapes Go.Deep

theorem exists_list {α : Type} (P : Nat → α → Prop) : ∀ n : Nat, (∀ i, i < n → ∃ v, P i v) → ∃ l : List α, l.length = n ∧ ∀ (j : Nat) (v : α), l[j]? = some v → P j v
  | 0, _ => ⟨[], rfl, fun j v hv => by simp at hv⟩
  | n + 1, h => by
    obtain ⟨l, h1, h2⟩ := exists_list P n (fun i hi => h i (by omega))
    obtain ⟨v, hv⟩ := h n (by omega)
    refine ⟨l ++ [v], by simp [h1], fun j u hu => ?_⟩
    by_cases hj : j < l.length
    · rw [List.getElem?_append_left hj] at hu
      exact h2 j u hu
    · rw [List.getElem?_append_right (by omega)] at hu
      obtain ⟨hlt, he⟩ := List.getElem?_eq_some_iff.1 hu
      simp at hlt he
      obtain rfl : j = n := by omega
      rw [← he]
      exact hv

theorem bytes_trod {H : Type} {enc : TypeId × Value → H} {w : World} {fuel : Nat} {cs : List Value} {x : DataW H × List MemPlace}
    (hf : DataW.trod enc Try.prog w 0 (fun _ => true) true fuel 40 cs = some x) :
    ∃ a len cap, cs = [.slice a len cap] ∧ ∃ bs : List UInt8, BR w w.heap.size a len cap bs := by
  rcases open_slice1 Try.underlying40 (by kernel_rfl) hf with ⟨hcs, _⟩ | ⟨x, len, cap, m, n, V, D, Pl, hcs, hb, hl, hm, hmm, _, hi⟩
  · exact ⟨none, 0, 0, hcs, [], BR.nil _ _⟩
  · refine ⟨_, _, _, hcs, ?_⟩
    simp only [if_true] at hmm
    subst hmm
    have key : ∀ i, i < len → ∃ v : UInt8, w.cell? (x.add i) = some (.int .u8 (v.toNat : Int)) := by
      intro i hil
      obtain ⟨hc, ht⟩ := hi i (by omega)
      obtain ⟨n0, e0, _, wf0⟩ := DataW.trod_int Try.underlying5 ht
      simp at e0
      rw [e0] at hc
      have hb0 := bounds_u8 wf0
      refine ⟨UInt8.ofNat n0.toNat, ?_⟩
      rw [show ((UInt8.ofNat n0.toNat).toNat : Int) = n0 by rw [UInt8.toNat_ofNat']; omega]
      exact hc
    obtain ⟨vs, h1, h2⟩ := exists_list _ len key
    refine ⟨vs, h1, hl, by omega, fun hn => ?_⟩
    obtain ⟨v0, z1⟩ := key 0 (by omega)
    obtain ⟨b, off, spot⟩ := x
    have hspot : spot = none := by simpa [Addr.add] using World.cell?_spot z1
    subst hspot
    exact ⟨b, off, rfl, World.block_lt_of_cell? w _ z1, fun i v hv => by have := h2 i v hv; rwa [Addr.add_lit] at this⟩

theorem bytes_of {H : Type} {enc : TypeId × Value → H} {w : World} {a : Option Addr} {len cap : Nat} {d : DataW H} {p : List MemPlace}
    (h : DataW.Trod enc Try.prog w 0 (fun _ => true) true 40 (.slice a len cap) d p) :
    ∃ bs : List UInt8, BR w w.heap.size a len cap bs := by
  obtain ⟨fuel, hf⟩ := h
  obtain ⟨a', len', cap', hcs, bs, hb⟩ := bytes_trod hf
  simp [Value.cells] at hcs
  obtain ⟨rfl, rfl, rfl⟩ := hcs
  exact ⟨bs, hb⟩
end Go.Proofs.Ytpdjcbigbgoioaa
