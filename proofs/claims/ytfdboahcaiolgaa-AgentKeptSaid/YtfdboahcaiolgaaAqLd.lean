/-
  Right, Take, Give and Speaks of the document's answer for layer 11. No condition.
-/
import Derived.Test.YtfdboahcaiolgaaAqLa
set_option linter.unusedVariables false
set_option linter.unusedSimpArgs false
namespace Go.Proofs.Ytfdboahcaiolgaa
open Go.RowKit

set_option maxRecDepth 100000 in
set_option maxHeartbeats 1000000 in
theorem lright_r (ep st to : Int) (w : World) : Calls Try.prog 67 #[.agg #[.int .i64 ep, .int .i64 st, .int .u8 to]] w fun r w' => r = .returned (.bool (rightL ⟨ep, st, to⟩)) ∧ Below w.heap.size w w' := by
  obtain ⟨W, hW⟩ : ∃ W, w.alloc (.cells #[.int .i64 ep, .int .i64 st, .int .u8 to] 38) = W := ⟨_, rfl⟩
  have hp : LB W w.heap.size 38 ⟨ep, st, to⟩ := by rw [← hW]; exact LB.new w _ ⟨ep, st, to⟩
  have hb : Below w.heap.size w W := by rw [← hW]; exact le_al _ _
  have hc := hp.cells
  obtain ⟨c0, c1, c2⟩ := hp.cells
  simp only at hc c0 c1 c2
  have Hc := Lib.hid hc
  have HW := Lib.hid hW
  clear hW hc
  by_cases h0 : st = 0
  · have h0' : (st == 0) = true := by simp [h0]
    by_cases hz : ep = 0
    · have hz' : (ep == 0) = true := by simp [hz]
      by_cases ht : to = 0
      · have ht' : (to == 0) = true := by simp [ht]
        have H := Lib.hid (show rightL ⟨ep, st, to⟩ = true by simp [rightL, h0, hz, ht])
        clear h0 hz ht
        go_enter Try.func67, Try.ntmps67
        go_wp2_with fail
        rw [HW.out]
        go_wp2_with fail
        go_ret
        exact ⟨by rw [H.out]; rfl, hb⟩
      · have ht' : (to == 0) = false := by simp [ht]
        have H := Lib.hid (show rightL ⟨ep, st, to⟩ = false by simp [rightL, h0, hz, ht])
        clear h0 hz ht
        go_enter Try.func67, Try.ntmps67
        go_wp2_with fail
        rw [HW.out]
        go_wp2_with fail
        go_ret
        exact ⟨by rw [H.out]; rfl, hb⟩
    · have hz' : (ep == 0) = false := by simp [hz]
      have H := Lib.hid (show rightL ⟨ep, st, to⟩ = false by simp [rightL, h0, hz])
      clear h0 hz
      go_enter Try.func67, Try.ntmps67
      go_wp2_with fail
      rw [HW.out]
      go_wp2_with fail
      go_ret
      exact ⟨by rw [H.out]; rfl, hb⟩
  have h0' : (st == 0) = false := by simp [h0]
  by_cases h1 : st = 1
  · have h1' : (st == 1) = true := by simp [h1]
    cases hi : inEp ep with
    | true =>
      have i1 : decide (1 ≤ ep) = true := by simp [(inEp_yes hi).1]
      have i2 : decide (ep ≤ 1048576) = true := by simp [(inEp_yes hi).2]
      by_cases ht : to = 0
      · have ht' : (to == 0) = true := by simp [ht]
        have H := Lib.hid (show rightL ⟨ep, st, to⟩ = true by simp [rightL, h1, hi, ht])
        clear h0 h1 hi ht
        go_enter Try.func67, Try.ntmps67
        go_wp2_with fail
        rw [HW.out]
        go_wp2_with fail
        go_ret
        exact ⟨by rw [H.out]; rfl, hb⟩
      · have ht' : (to == 0) = false := by simp [ht]
        have H := Lib.hid (show rightL ⟨ep, st, to⟩ = false by simp [rightL, h1, hi, ht])
        clear h0 h1 hi ht
        go_enter Try.func67, Try.ntmps67
        go_wp2_with fail
        rw [HW.out]
        go_wp2_with fail
        go_ret
        exact ⟨by rw [H.out]; rfl, hb⟩
    | false =>
      rcases inEp_no hi with hx | hx
      · have i1 : decide (1 ≤ ep) = false := by simp; omega
        have H := Lib.hid (show rightL ⟨ep, st, to⟩ = false by simp [rightL, h1, hi])
        clear h0 h1 hi hx
        go_enter Try.func67, Try.ntmps67
        go_wp2_with fail
        rw [HW.out]
        go_wp2_with fail
        go_ret
        exact ⟨by rw [H.out]; rfl, hb⟩
      · have i1 : decide (1 ≤ ep) = true := by simp; omega
        have i2 : decide (ep ≤ 1048576) = false := by simp; omega
        have H := Lib.hid (show rightL ⟨ep, st, to⟩ = false by simp [rightL, h1, hi])
        clear h0 h1 hi hx
        go_enter Try.func67, Try.ntmps67
        go_wp2_with fail
        rw [HW.out]
        go_wp2_with fail
        go_ret
        exact ⟨by rw [H.out]; rfl, hb⟩
  have h1' : (st == 1) = false := by simp [h1]
  by_cases h2 : st = 2
  · have h2' : (st == 2) = true := by simp [h2]
    cases hi : inEp ep with
    | true =>
      have i1 : decide (1 ≤ ep) = true := by simp [(inEp_yes hi).1]
      have i2 : decide (ep ≤ 1048576) = true := by simp [(inEp_yes hi).2]
      have H := Lib.hid (show rightL ⟨ep, st, to⟩ = decide (to < 8) by simp [rightL, h2, hi])
      clear h0 h1 h2 hi
      go_enter Try.func67, Try.ntmps67
      go_wp2_with fail
      rw [HW.out]
      go_wp2_with fail
      go_ret
      exact ⟨by rw [H.out]; rfl, hb⟩
    | false =>
      rcases inEp_no hi with hx | hx
      · have i1 : decide (1 ≤ ep) = false := by simp; omega
        have H := Lib.hid (show rightL ⟨ep, st, to⟩ = false by simp [rightL, h2, hi])
        clear h0 h1 h2 hi hx
        go_enter Try.func67, Try.ntmps67
        go_wp2_with fail
        rw [HW.out]
        go_wp2_with fail
        go_ret
        exact ⟨by rw [H.out]; rfl, hb⟩
      · have i1 : decide (1 ≤ ep) = true := by simp; omega
        have i2 : decide (ep ≤ 1048576) = false := by simp; omega
        have H := Lib.hid (show rightL ⟨ep, st, to⟩ = false by simp [rightL, h2, hi])
        clear h0 h1 h2 hi hx
        go_enter Try.func67, Try.ntmps67
        go_wp2_with fail
        rw [HW.out]
        go_wp2_with fail
        go_ret
        exact ⟨by rw [H.out]; rfl, hb⟩
  have h2' : (st == 2) = false := by simp [h2]
  have H := Lib.hid (show rightL ⟨ep, st, to⟩ = false by simp [rightL, h0, h1, h2])
  clear h0 h1 h2
  go_enter Try.func67, Try.ntmps67
  go_wp2_with fail
  rw [HW.out]
  go_wp2_with fail
  go_ret
  exact ⟨by rw [H.out]; rfl, hb⟩

end Go.Proofs.Ytfdboahcaiolgaa
