/-
  Deltas in memory, for any program that has api.Delta: what they are written as, one delta just built. No condition.
-/
import Derived.Test.YtealcccjnmfkcaaRows
import Derived.Test.YtealcccjnmfkcaaLgM
import Derived.Test.YtealcccjnmfkcaaRow2
set_option linter.unusedVariables false
set_option linter.unusedSimpArgs false
namespace Go.Proofs.Ytealcccjnmfkcaa
open Go.RowKit

/-- A delta's cells. -/
def dc (x : Dl) : List Value := [.int .u8 x.k, .int .i64 x.b]
instance : Nonempty (EncOk dc 2) := ⟨⟨fun _ => rfl, fun x u hu => by
  simp [dc] at hu
  rcases hu with rfl | rfl <;> rfl, by omega⟩⟩
abbrev DR (w : World) (A : Option Addr) (n c : Nat) (L : List Dl) : Prop := RR w dc 2 A n c L
abbrev DS (w : World) (A : Option Addr) (n c : Nat) (L : List Dl) : Prop := RS w 102 dc 2 A n c L
abbrev LPost (w : World) (L : List Dl) (e : Ending) (w' : World) : Prop := RPost w 102 dc 2 L e w'
theorem dc_one (x : Dl) : ∀ u ∈ dc x, u.oneCell' = true := encOne (c := dc) 2 x
theorem RR.at2 {w : World} {A : Option Addr} {n c : Nat} {L : List Dl} (h : DR w A n c L) {k : Nat} (hk : k < n) : ∃ g off, A = some ⟨g, off, none⟩ ∧ w.cell? ⟨g, off + k * 2, none⟩ = some (.int .u8 (tk L k).k) ∧ w.cell? ⟨g, off + k * 2 + 1, none⟩ = some (.int .i64 (tk L k).b) := by
  obtain ⟨g, off, x, h1, h2, h3⟩ := h.at_ hk
  rw [tk_some h1]
  exact ⟨g, off, h2, h3 0 _ rfl, h3 1 _ rfl⟩
theorem Try.infoD : (Try.prog.info? 102).map (fun i => (i.zero, i.size, i.bytes)) = some (some (.agg #[.int .u8 0, .int .i64 0]), 2, 16) := by kernel_rfl
/-- A delta as a value. -/
abbrev dv (x : Dl) : Value := .agg #[.int .u8 x.k, .int .i64 x.b]
theorem app2 {n : Nat} (h : n ≤ 300000) : n + 1 ≤ maxLen ∧ (n + 1) * 16 ≤ 140737488355328 := by simp only [maxLen]; omega
theorem lit1 (w : World) (k b : Int) (T : TypeId) : DR (w.alloc (.cells #[.int .u8 k, .int .i64 b] T)) (some ⟨w.heap.size, 0, none⟩) 1 1 [⟨k, b⟩] := by
  refine RR.of_at rfl (Nat.le_refl _) (by simp only [maxLen]; omega) fun i x hx m v hv => ?_
  match i with
  | 0 =>
    simp at hx
    subst hx
    rw [Nat.zero_mul, Nat.add_zero, Nat.zero_add, (CB.new w T _).cell]
    simpa [dc] using hv
  | i + 1 => simp at hx
end Go.Proofs.Ytealcccjnmfkcaa
