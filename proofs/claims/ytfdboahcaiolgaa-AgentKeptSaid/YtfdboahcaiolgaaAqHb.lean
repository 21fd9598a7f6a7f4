/-
  Ask and Again of package hand. No condition.
-/
import Derived.Test.YtfdboahcaiolgaaAqHa
set_option linter.unusedVariables false
set_option linter.unusedSimpArgs false
namespace Go.Proofs.Ytfdboahcaiolgaa
open Go.RowKit

set_option maxRecDepth 100000 in
set_option maxHeartbeats 4000000 in
theorem hagain_c (me ep st to : Int) (cg : ByteArray) (kp : Bool) (w : World) : Calls Try.prog 75 #[.agg #[.int .u8 me, .int .i64 ep, .int .i64 st, .int .u8 to, .string cg, .bool kp]] w (RPost w 68 mc 5 (againM ⟨me, ⟨ep, st, to⟩, cg, kp⟩)) := by
  cases hR : decide (RightS ⟨me, ⟨ep, st, to⟩, cg, kp⟩) with
  | false =>
    have hR' := of_decide_eq_false hR
    have H := Lib.hid (show againM ⟨me, ⟨ep, st, to⟩, cg, kp⟩ = [] by unfold againM; simp [hR'])
    have R1 := fun W => hright_c me ep st to cg kp W
    simp only [hR] at R1
    clear hR hR'
    obtain ⟨W1, hW1⟩ : ∃ V, w.alloc (.cells #[.int .u8 me, .int .i64 ep, .int .i64 st, .int .u8 to, .string cg, .bool kp] 45) = V := ⟨_, rfl⟩
    have nW1_s : CB W1 (w.heap.size) 45 #[.int .u8 me, .int .i64 ep, .int .i64 st, .int .u8 to, .string cg, .bool kp] := by
      rw [← hW1]
      have := (CB.new w 45 #[.int .u8 me, .int .i64 ep, .int .i64 st, .int .u8 to, .string cg, .bool kp])
      simpa using this
    have lW1 : Below w.heap.size w W1 := by rw [← hW1]; exact le_al _ _
    have HW1 := Lib.hid hW1
    clear hW1
    go_enter Try.func75, Try.ntmps75
    go_wp2_with fail
    rw [HW1.out]
    refine (R1 _).mono ?_
    rintro e w2 ⟨rfl, b2⟩
    have r3_s := le_on nW1_s b2
    have l3 := le_tr lW1 b2
    clear nW1_s lW1
    clear b2
    have f3_s0 : w2.cell? ⟨w.heap.size, 0, none⟩ = some (.int .u8 me) := CB.cell r3_s 0
    have f3_s1 : w2.cell? ⟨w.heap.size, 1, none⟩ = some (.int .i64 ep) := CB.cell r3_s 1
    have f3_s2 : w2.cell? ⟨w.heap.size, 2, none⟩ = some (.int .i64 st) := CB.cell r3_s 2
    have f3_s3 : w2.cell? ⟨w.heap.size, 3, none⟩ = some (.int .u8 to) := CB.cell r3_s 3
    have f3_s4 : w2.cell? ⟨w.heap.size, 4, none⟩ = some (.string cg) := CB.cell r3_s 4
    have f3_s5 : w2.cell? ⟨w.heap.size, 5, none⟩ = some (.bool kp) := CB.cell r3_s 5
    go_wp2_with fail
    go_ret
    exact ⟨none, 0, 0, rfl, by rw [H.out]; exact RS.nil _ _ _ _, l3⟩
  | true =>
    have hR' := of_decide_eq_true hR
    cases kp with
    | false =>
      have H := Lib.hid (show againM ⟨me, ⟨ep, st, to⟩, cg, false⟩ = [] by unfold againM; simp)
      have R1 := fun W => hright_c me ep st to cg false W
      simp only [hR] at R1
      clear hR hR'
      obtain ⟨W1, hW1⟩ : ∃ V, w.alloc (.cells #[.int .u8 me, .int .i64 ep, .int .i64 st, .int .u8 to, .string cg, .bool false] 45) = V := ⟨_, rfl⟩
      have nW1_s : CB W1 (w.heap.size) 45 #[.int .u8 me, .int .i64 ep, .int .i64 st, .int .u8 to, .string cg, .bool false] := by
        rw [← hW1]
        have := (CB.new w 45 #[.int .u8 me, .int .i64 ep, .int .i64 st, .int .u8 to, .string cg, .bool false])
        simpa using this
      have lW1 : Below w.heap.size w W1 := by rw [← hW1]; exact le_al _ _
      have HW1 := Lib.hid hW1
      clear hW1
      go_enter Try.func75, Try.ntmps75
      go_wp2_with fail
      rw [HW1.out]
      refine (R1 _).mono ?_
      rintro e w2 ⟨rfl, b2⟩
      have r3_s := le_on nW1_s b2
      have l3 := le_tr lW1 b2
      clear nW1_s lW1
      clear b2
      have f3_s0 : w2.cell? ⟨w.heap.size, 0, none⟩ = some (.int .u8 me) := CB.cell r3_s 0
      have f3_s1 : w2.cell? ⟨w.heap.size, 1, none⟩ = some (.int .i64 ep) := CB.cell r3_s 1
      have f3_s2 : w2.cell? ⟨w.heap.size, 2, none⟩ = some (.int .i64 st) := CB.cell r3_s 2
      have f3_s3 : w2.cell? ⟨w.heap.size, 3, none⟩ = some (.int .u8 to) := CB.cell r3_s 3
      have f3_s4 : w2.cell? ⟨w.heap.size, 4, none⟩ = some (.string cg) := CB.cell r3_s 4
      have f3_s5 : w2.cell? ⟨w.heap.size, 5, none⟩ = some (.bool false) := CB.cell r3_s 5
      go_wp2_with fail
      go_ret
      exact ⟨none, 0, 0, rfl, by rw [H.out]; exact RS.nil _ _ _ _, l3⟩
    | true =>
      have H := Lib.hid (show againM ⟨me, ⟨ep, st, to⟩, cg, true⟩ = [⟨3, me, to, ep + 1, cg⟩] by unfold againM gvM; simp [hR'])
      have R1 := fun W => hright_c me ep st to cg true W
      simp only [hR] at R1
      have hb1 : 0 ≤ ep ∧ ep ≤ 1048576 := by have := right_cases hR'.2.1; simp only at this; omega
      have Wp : IntKind.i64.wrap (ep + 1) = ep + 1 := IntWalk.i64_in _ (by omega)
      have HWp := Lib.hid Wp
      clear hR hR' Wp
      obtain ⟨W1, hW1⟩ : ∃ V, w.alloc (.cells #[.int .u8 me, .int .i64 ep, .int .i64 st, .int .u8 to, .string cg, .bool true] 45) = V := ⟨_, rfl⟩
      have nW1_s : CB W1 (w.heap.size) 45 #[.int .u8 me, .int .i64 ep, .int .i64 st, .int .u8 to, .string cg, .bool true] := by
        rw [← hW1]
        have := (CB.new w 45 #[.int .u8 me, .int .i64 ep, .int .i64 st, .int .u8 to, .string cg, .bool true])
        simpa using this
      have lW1 : Below w.heap.size w W1 := by rw [← hW1]; exact le_al _ _
      have HW1 := Lib.hid hW1
      clear hW1
      go_enter Try.func75, Try.ntmps75
      go_wp2_with fail
      rw [HW1.out]
      refine (R1 _).mono ?_
      rintro e w2 ⟨rfl, b2⟩
      have r3_s := le_on nW1_s b2
      have l3 := le_tr lW1 b2
      clear nW1_s lW1
      clear b2
      have f3_s0 : w2.cell? ⟨w.heap.size, 0, none⟩ = some (.int .u8 me) := CB.cell r3_s 0
      have f3_s1 : w2.cell? ⟨w.heap.size, 1, none⟩ = some (.int .i64 ep) := CB.cell r3_s 1
      have f3_s2 : w2.cell? ⟨w.heap.size, 2, none⟩ = some (.int .i64 st) := CB.cell r3_s 2
      have f3_s3 : w2.cell? ⟨w.heap.size, 3, none⟩ = some (.int .u8 to) := CB.cell r3_s 3
      have f3_s4 : w2.cell? ⟨w.heap.size, 4, none⟩ = some (.string cg) := CB.cell r3_s 4
      have f3_s5 : w2.cell? ⟨w.heap.size, 5, none⟩ = some (.bool true) := CB.cell r3_s 5
      go_wp2_with fail
      refine (say_c me ep st to cg true 3 to (ep + 1) _).mono ?_
      rintro e w4 ⟨rfl, b4⟩
      clear f3_s0 f3_s1 f3_s2 f3_s3 f3_s4 f3_s5
      have r5_s := le_on r3_s b4
      have l5 := le_tr l3 b4
      clear r3_s l3
      clear b4
      have av_m : w.heap.size ≤ w4.heap.size := by have := l5.size; omega
      obtain ⟨W6, hW6⟩ : ∃ V, w4.alloc (.cells #[.int .i64 3, .int .u8 me, .int .u8 to, .int .i64 (ep + 1), .string ⟨#[]⟩] 68) = V := ⟨_, rfl⟩
      have zW6 : w4.heap.size = w4.heap.size := by rfl
      have nW6 : CB W6 (w4.heap.size) 68 #[.int .i64 3, .int .u8 me, .int .u8 to, .int .i64 (ep + 1), .string ⟨#[]⟩] := by rw [← zW6, ← hW6]; exact CB.new _ _ _
      have bW6 : Below w4.heap.size w4 W6 := by rw [← hW6]; exact le_al _ _
      have neW6_s : w.heap.size ≠ w4.heap.size := by have := CB.lt r5_s; omega
      have HW6 := Lib.hid hW6
      clear hW6 zW6
      have r7_s := le_on r5_s bW6
      have l7 := le_tr l5 bW6
      clear bW6
      have f7_s0 : (w4.alloc (.cells #[.int .i64 3, .int .u8 me, .int .u8 to, .int .i64 (ep + 1), .string ⟨#[]⟩] 68)).cell? ⟨w.heap.size, 0, none⟩ = some (.int .u8 me) := by rw [HW6.out]; exact CB.cell r7_s 0
      have f7_s1 : (w4.alloc (.cells #[.int .i64 3, .int .u8 me, .int .u8 to, .int .i64 (ep + 1), .string ⟨#[]⟩] 68)).cell? ⟨w.heap.size, 1, none⟩ = some (.int .i64 ep) := by rw [HW6.out]; exact CB.cell r7_s 1
      have f7_s2 : (w4.alloc (.cells #[.int .i64 3, .int .u8 me, .int .u8 to, .int .i64 (ep + 1), .string ⟨#[]⟩] 68)).cell? ⟨w.heap.size, 2, none⟩ = some (.int .i64 st) := by rw [HW6.out]; exact CB.cell r7_s 2
      have f7_s3 : (w4.alloc (.cells #[.int .i64 3, .int .u8 me, .int .u8 to, .int .i64 (ep + 1), .string ⟨#[]⟩] 68)).cell? ⟨w.heap.size, 3, none⟩ = some (.int .u8 to) := by rw [HW6.out]; exact CB.cell r7_s 3
      have f7_s4 : (w4.alloc (.cells #[.int .i64 3, .int .u8 me, .int .u8 to, .int .i64 (ep + 1), .string ⟨#[]⟩] 68)).cell? ⟨w.heap.size, 4, none⟩ = some (.string cg) := by rw [HW6.out]; exact CB.cell r7_s 4
      have f7_s5 : (w4.alloc (.cells #[.int .i64 3, .int .u8 me, .int .u8 to, .int .i64 (ep + 1), .string ⟨#[]⟩] 68)).cell? ⟨w.heap.size, 5, none⟩ = some (.bool true) := by rw [HW6.out]; exact CB.cell r7_s 5
      have av_m : w.heap.size ≤ w4.heap.size := by have := l5.size; omega
      obtain ⟨W9, hW9⟩ : ∃ V, w4.alloc (.cells #[.int .i64 3, .int .u8 me, .int .u8 to, .int .i64 (ep + 1), .string cg] 68) = V := ⟨_, rfl⟩
      have zW9 : w4.heap.size = w4.heap.size := by rfl
      have nW9 : CB W9 (w4.heap.size) 68 #[.int .i64 3, .int .u8 me, .int .u8 to, .int .i64 (ep + 1), .string cg] := by rw [← zW9, ← hW9]; exact CB.new _ _ _
      have bW9 : Below w4.heap.size w4 W9 := by rw [← hW9]; exact le_al _ _
      have neW9_s : w.heap.size ≠ w4.heap.size := by have := CB.lt r5_s; omega
      have HW9 := Lib.hid hW9
      clear hW9 zW9
      have r10_s := le_on r5_s bW9
      have l10 := le_tr l5 bW9
      clear bW9
      have av_z : w.heap.size ≤ W9.heap.size := by have := l10.size; omega
      obtain ⟨W11, hW11⟩ : ∃ V, W9.alloc (.cells #[.int .i64 3, .int .u8 me, .int .u8 to, .int .i64 (ep + 1), .string cg] 68) = V := ⟨_, rfl⟩
      have zW11 : W9.heap.size = w4.heap.size + 1 := by rw [← HW9.out]; simp
      have nW11 : CB W11 (w4.heap.size + 1) 68 #[.int .i64 3, .int .u8 me, .int .u8 to, .int .i64 (ep + 1), .string cg] := by rw [← zW11, ← hW11]; exact CB.new _ _ _
      have bW11 : Below W9.heap.size W9 W11 := by rw [← hW11]; exact le_al _ _
      have neW11_s : w.heap.size ≠ w4.heap.size + 1 := by have := CB.lt r10_s; omega
      have neW11_m : w4.heap.size ≠ w4.heap.size + 1 := by have := CB.lt nW9; omega
      have HW11 := Lib.hid (show (w4.alloc (.cells #[.int .i64 3, .int .u8 me, .int .u8 to, .int .i64 (ep + 1), .string cg] 68)).alloc (.cells #[.int .i64 3, .int .u8 me, .int .u8 to, .int .i64 (ep + 1), .string cg] 68) = W11 by rw [HW9.out]; exact hW11)
      clear hW11 zW11
      have r12_s := le_on r10_s bW11
      have r12_m := le_on nW9 bW11
      have l12 := le_tr l10 bW11
      clear r10_s nW9 l10
      clear bW11
      have av_z : w.heap.size ≤ w4.heap.size + 1 := by have := av_z; omega
      go_wp2_with fail
      rw [HW11.out]
      go_ret
      exact ⟨_, _, _, rfl, by rw [H.out]; exact RS.of_cbm nW11, l12⟩
end Go.Proofs.Ytfdboahcaiolgaa
