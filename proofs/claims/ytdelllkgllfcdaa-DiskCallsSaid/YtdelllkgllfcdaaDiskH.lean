/-
  The helpers of layer 4's laws: same, few and alive. Conditions: the slices can be read.
-/
import Derived.Test.YtdelllkgllfcdaaDiskG
namespace Go.Proofs.Ytdelllkgllfcdaa
open Go.RowKit

set_option maxRecDepth 100000 in
set_option maxHeartbeats 1000000 in
theorem same_yes (A A' : Option Addr) (n c c' : Nat) (ls : List (List UInt8)) (w : World) (h1 : LR w w.heap.size A n c ls) (h2 : LR w w.heap.size A' n c' ls) :
    Calls Try.prog 16 #[.slice A n c, .slice A' n c'] w fun e w' => e = .returned (.bool true) ∧ Below w.heap.size w w' := by
  have hnm := h1.max
  have hne : ((n : Int) != (n : Int)) = false := by simp
  go_enter Try.func16, Try.ntmps16
  go_wp2_with fail
  go_loopw [13] (fun i wr => ∃ k : Nat, k ≤ n ∧ i = .int .i64 k ∧ Below w.heap.size w wr) (fun i _ => n - (intOf i).toNat)
  case atStart => exact ⟨0, Nat.zero_le _, rfl, Below.refl _ _⟩
  case round =>
    obtain ⟨k, hk, rfl, hbl⟩ := hrel
    by_cases hlt : k < n
    · obtain ⟨g1, o1, A1, n1, c1, l1, rfl, H1, d1, b1⟩ := (h1.below hbl (Nat.le_refl _)).at_ hlt
      obtain ⟨g2, o2, A2, n2, c2, l2, rfl, H2, d2, b2⟩ := (h2.below hbl (Nat.le_refl _)).at_ hlt
      obtain rfl : l1 = l2 := Option.some.inj (H1.out.symm.trans H2.out)
      have hcv1 : ∀ k, (convert 22 9 (.slice A1 n1 c1)).run Try.prog (wr.drewN k) = _ := fun k => conv_br (b1.drewN k)
      have hcv2 : ∀ k, (convert 22 9 (.slice A2 n2 c2)).run Try.prog (wr.drewN k) = _ := fun k => conv_br (b2.drewN k)
      clear b1 b2 H1 H2
      go_wp2_with fail
      go_quiet (fail)
      go_wp2_with fail
      go_roundw
      case rel => exact ⟨k + 1, by omega, by go_num, belowN hbl _⟩
      case measure => simp [intOf]; omega
    · go_wp2_with fail
      go_ret
      exact ⟨rfl, hbl⟩

/-- Few enough: there are thirty at most. -/
def WPost (w : World) (n : Nat) (e : Ending) (w' : World) : Prop := ∃ b : Bool, e = .returned (.bool b) ∧ w = w' ∧ (b = true → n ≤ 30)

set_option maxRecDepth 100000 in
set_option maxHeartbeats 1000000 in
theorem few_c (A : Option Addr) (n c : Nat) (ls : List (List UInt8)) (w : World) (hl : LR w w.heap.size A n c ls) :
    Calls Try.prog 23 #[.slice A n c] w (WPost w n) := by
  have hnm := hl.max
  go_enter Try.func23, Try.ntmps23
  go_wp2_with fail
  go_loop [3, 8] (fun x i => ∃ (k : Nat) (q : Int), k ≤ n ∧ i = .int .i64 k ∧ x = .int .i64 q) (fun _ i => n - (intOf i).toNat)
  case atStart => exact ⟨0, 0, Nat.zero_le _, rfl, rfl⟩
  case round =>
    obtain ⟨k, q, hk, rfl, rfl⟩ := hrel
    by_cases hlt : k < n
    · obtain ⟨g, off, A1, n1, c1, l, rfl, Hl, cl, hb1⟩ := hl.at_ hlt
      clear hb1
      go_wp2_with fail
      go_round
      case rel => exact ⟨k + 1, _, by omega, by go_num, rfl⟩
      case measure => simp [intOf]; omega
    · obtain rfl : k = n := by omega
      by_cases h30 : (k : Int) ≤ 30
      · have H := fun b => Lib.hid (show WPost w k (.returned (.bool b)) w from ⟨b, rfl, rfl, fun _ => by omega⟩)
        go_wp2_with fail
        go_ret
        exact (H _).out
      · have H := Lib.hid (show WPost w k (.returned (.bool false)) w from ⟨false, rfl, rfl, fun h => by cases h⟩)
        go_wp2_with fail
        go_ret
        exact H.out
end Go.Proofs.Ytdelllkgllfcdaa
