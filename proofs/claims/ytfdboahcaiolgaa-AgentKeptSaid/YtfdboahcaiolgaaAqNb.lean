/-
  Layer 17: the small functions of note and of the document: ranges, which message may go. No condition.
-/
import Derived.Test.YtfdboahcaiolgaaAqNa
set_option linter.unusedVariables false
set_option linter.unusedSimpArgs false
namespace Go.Proofs.Ytfdboahcaiolgaa
open Go.RowKit
open Dk (Nt InN RightN BoundN MsgN NoMsg KindN EpN bound_n)


set_option maxRecDepth 100000 in
set_option maxHeartbeats 4000000 in
theorem inr_c (a b c : Int) (w : World) : Calls Try.prog 69 #[.int .i64 a, .int .i64 b, .int .i64 c] w fun zz w' => zz = .returned (.bool (decide (b ≤ a ∧ a ≤ c))) ∧ Below w.heap.size w w' := by
  by_cases d0 : b ≤ a
  rotate_left
  · skip
    have H := Lib.hid (show _ = false from (by simp; omega : decide (b ≤ a ∧ a ≤ c) = false))
    have q0 : decide (b ≤ a) = false := by simp [d0]
    clear d0
    go_enter Try.func69, Try.ntmps69
    go_wp2_with fail
    go_ret
    exact ⟨ret_bool H.out.symm, (Below.refl _ _)⟩
  have q0 : decide (b ≤ a) = true := by simp [d0]
  by_cases d1 : a ≤ c
  rotate_left
  · skip
    have H := Lib.hid (show _ = false from (by simp; omega : decide (b ≤ a ∧ a ≤ c) = false))
    have q1 : decide (a ≤ c) = false := by simp [d1]
    clear d0 d1
    go_enter Try.func69, Try.ntmps69
    go_wp2_with fail
    go_ret
    exact ⟨ret_bool H.out.symm, (Below.refl _ _)⟩
  have q1 : decide (a ≤ c) = true := by simp [d1]
  have H := Lib.hid (show _ = true from (by simp [d0, d1] : decide (b ≤ a ∧ a ≤ c) = true))
  clear d0 d1
  go_enter Try.func69, Try.ntmps69
  go_wp2_with fail
  go_ret
  exact ⟨ret_bool H.out.symm, (Below.refl _ _)⟩
set_option maxRecDepth 100000 in
set_option maxHeartbeats 4000000 in
theorem ep_c (e : Int) (w : World) : Calls Try.prog 91 #[.int .i64 e] w fun zz w' => zz = .returned (.bool (decide (EpN e))) ∧ Below w.heap.size w w' := by
  go_enter Try.func91, Try.ntmps91
  go_wp2_with fail
  (with_reducible refine (inr_c e 1 1048576 _).mono ?_)
  rintro e w1 ⟨rfl, b1⟩
  have l3 := le_tr (Below.refl _ _) b1
  clear b1
  go_wp2_with fail
  go_ret
  exact ⟨ret_bool (by rw [Bool.eq_iff_iff, decide_eq_true_iff]; simp [EpN]), l3⟩
set_option maxRecDepth 100000 in
set_option maxHeartbeats 4000000 in
theorem nrmsg_c (n : Nt) (w : World) : Calls Try.prog 68 #[.agg (mgA n)] w fun zz w' => zz = .returned (.bool (decide (MsgN n))) ∧ Below w.heap.size w w' := by
  have C1 := fun W => inr_c n.mq 1 4 W
  have C2 := fun W => ep_c n.me W
  by_cases d0 : 1 ≤ n.mq ∧ n.mq ≤ 4
  rotate_left
  · skip
    have H := Lib.hid (show _ = false from (decide_eq_false (fun h => d0 h.1) : decide (MsgN n) = false))
    have q0 : decide (1 ≤ n.mq ∧ n.mq ≤ 4) = false := decide_eq_false d0
    clear d0
    simp only [q0] at C1
    go_enter Try.func68, Try.ntmps68
    go_wp2_with (first | ((with_reducible refine st_box 68 _ (mgA n) ?_ ?_); exact rfl))
    refine ⟨fun V1 g1 n1 f1 => ?_⟩
    have up1 : w.heap.size ≤ g1 := Nat.le_of_eq f1.at_
    have bl1 := f1.bel
    clear f1
    have l3 := le_tr (Below.refl _ _) bl1
    clear bl1
    have c4 : V1.cell? ⟨g1, 0, none⟩ = some (.int .i64 (n.mq)) := CB.cell n1 0
    go_wp2_with fail
    (with_reducible refine (C1 _).mono ?_)
    rintro e w5 ⟨rfl, b5⟩
    clear c4
    have r7_m := le_on n1 b5
    have l7 := le_tr l3 b5
    clear n1 l3
    clear b5
    go_wp2_with fail
    go_ret
    exact ⟨ret_bool H.out.symm, l7⟩
  have q0 : decide (1 ≤ n.mq ∧ n.mq ≤ 4) = true := decide_eq_true d0
  by_cases d1 : n.mf < 8
  rotate_left
  · skip
    have H := Lib.hid (show _ = false from (decide_eq_false (fun h => d1 h.2.1) : decide (MsgN n) = false))
    have q1 : decide (n.mf < 8) = false := decide_eq_false d1
    clear d0 d1
    simp only [q0] at C1
    go_enter Try.func68, Try.ntmps68
    go_wp2_with (first | ((with_reducible refine st_box 68 _ (mgA n) ?_ ?_); exact rfl))
    refine ⟨fun V1 g1 n1 f1 => ?_⟩
    have up1 : w.heap.size ≤ g1 := Nat.le_of_eq f1.at_
    have bl1 := f1.bel
    clear f1
    have l3 := le_tr (Below.refl _ _) bl1
    clear bl1
    have c4 : V1.cell? ⟨g1, 0, none⟩ = some (.int .i64 (n.mq)) := CB.cell n1 0
    go_wp2_with fail
    (with_reducible refine (C1 _).mono ?_)
    rintro e w5 ⟨rfl, b5⟩
    clear c4
    have r7_m := le_on n1 b5
    have l7 := le_tr l3 b5
    clear n1 l3
    clear b5
    have c8 : w5.cell? ⟨g1, 1, none⟩ = some (.int .u8 (n.mf)) := CB.cell r7_m 1
    have c9 : w5.cell? ⟨g1, 2, none⟩ = some (.int .u8 (n.mt)) := CB.cell r7_m 2
    have c10 : w5.cell? ⟨g1, 3, none⟩ = some (.int .i64 (n.me)) := CB.cell r7_m 3
    have c11 : w5.cell? ⟨g1, 4, none⟩ = some (.string (n.cg)) := CB.cell r7_m 4
    go_wp2_with fail
    go_ret
    exact ⟨ret_bool H.out.symm, l7⟩
  have q1 : decide (n.mf < 8) = true := decide_eq_true d1
  by_cases d2 : n.mt < 8
  rotate_left
  · skip
    have H := Lib.hid (show _ = false from (decide_eq_false (fun h => d2 h.2.2.1) : decide (MsgN n) = false))
    have q2 : decide (n.mt < 8) = false := decide_eq_false d2
    clear d0 d1 d2
    simp only [q0] at C1
    go_enter Try.func68, Try.ntmps68
    go_wp2_with (first | ((with_reducible refine st_box 68 _ (mgA n) ?_ ?_); exact rfl))
    refine ⟨fun V1 g1 n1 f1 => ?_⟩
    have up1 : w.heap.size ≤ g1 := Nat.le_of_eq f1.at_
    have bl1 := f1.bel
    clear f1
    have l3 := le_tr (Below.refl _ _) bl1
    clear bl1
    have c4 : V1.cell? ⟨g1, 0, none⟩ = some (.int .i64 (n.mq)) := CB.cell n1 0
    go_wp2_with fail
    (with_reducible refine (C1 _).mono ?_)
    rintro e w5 ⟨rfl, b5⟩
    clear c4
    have r7_m := le_on n1 b5
    have l7 := le_tr l3 b5
    clear n1 l3
    clear b5
    have c8 : w5.cell? ⟨g1, 1, none⟩ = some (.int .u8 (n.mf)) := CB.cell r7_m 1
    have c9 : w5.cell? ⟨g1, 2, none⟩ = some (.int .u8 (n.mt)) := CB.cell r7_m 2
    have c10 : w5.cell? ⟨g1, 3, none⟩ = some (.int .i64 (n.me)) := CB.cell r7_m 3
    have c11 : w5.cell? ⟨g1, 4, none⟩ = some (.string (n.cg)) := CB.cell r7_m 4
    go_wp2_with fail
    go_ret
    exact ⟨ret_bool H.out.symm, l7⟩
  have q2 : decide (n.mt < 8) = true := decide_eq_true d2
  by_cases d3 : EpN n.me
  rotate_left
  · skip
    have H := Lib.hid (show _ = false from (decide_eq_false (fun h => d3 h.2.2.2.1) : decide (MsgN n) = false))
    have q3 : decide (EpN n.me) = false := decide_eq_false d3
    clear d0 d1 d2 d3
    simp only [q0, q3] at C1 C2
    go_enter Try.func68, Try.ntmps68
    go_wp2_with (first | ((with_reducible refine st_box 68 _ (mgA n) ?_ ?_); exact rfl))
    refine ⟨fun V1 g1 n1 f1 => ?_⟩
    have up1 : w.heap.size ≤ g1 := Nat.le_of_eq f1.at_
    have bl1 := f1.bel
    clear f1
    have l3 := le_tr (Below.refl _ _) bl1
    clear bl1
    have c4 : V1.cell? ⟨g1, 0, none⟩ = some (.int .i64 (n.mq)) := CB.cell n1 0
    go_wp2_with fail
    (with_reducible refine (C1 _).mono ?_)
    rintro e w5 ⟨rfl, b5⟩
    clear c4
    have r7_m := le_on n1 b5
    have l7 := le_tr l3 b5
    clear n1 l3
    clear b5
    have c8 : w5.cell? ⟨g1, 1, none⟩ = some (.int .u8 (n.mf)) := CB.cell r7_m 1
    have c9 : w5.cell? ⟨g1, 2, none⟩ = some (.int .u8 (n.mt)) := CB.cell r7_m 2
    have c10 : w5.cell? ⟨g1, 3, none⟩ = some (.int .i64 (n.me)) := CB.cell r7_m 3
    have c11 : w5.cell? ⟨g1, 4, none⟩ = some (.string (n.cg)) := CB.cell r7_m 4
    go_wp2_with fail
    (with_reducible refine (C2 _).mono ?_)
    rintro e w12 ⟨rfl, b12⟩
    clear c8 c9 c10 c11
    have r14_m := le_on r7_m b12
    have l14 := le_tr l7 b12
    clear r7_m l7
    clear b12
    have c15 : w12.cell? ⟨g1, 4, none⟩ = some (.string (n.cg)) := CB.cell r14_m 4
    go_wp2_with fail
    go_ret
    exact ⟨ret_bool H.out.symm, l14⟩
  have q3 : decide (EpN n.me) = true := decide_eq_true d3
  by_cases d4 : n.cg.size ≤ 500
  rotate_left
  · skip
    have H := Lib.hid (show _ = false from (decide_eq_false (fun h => d4 h.2.2.2.2) : decide (MsgN n) = false))
    have q4 : decide ((n.cg.size : Int) ≤ 500) = false := by simp only [decide_eq_false_iff_not]; omega
    clear d0 d1 d2 d3 d4
    simp only [q0, q3] at C1 C2
    go_enter Try.func68, Try.ntmps68
    go_wp2_with (first | ((with_reducible refine st_box 68 _ (mgA n) ?_ ?_); exact rfl))
    refine ⟨fun V1 g1 n1 f1 => ?_⟩
    have up1 : w.heap.size ≤ g1 := Nat.le_of_eq f1.at_
    have bl1 := f1.bel
    clear f1
    have l3 := le_tr (Below.refl _ _) bl1
    clear bl1
    have c4 : V1.cell? ⟨g1, 0, none⟩ = some (.int .i64 (n.mq)) := CB.cell n1 0
    go_wp2_with fail
    (with_reducible refine (C1 _).mono ?_)
    rintro e w5 ⟨rfl, b5⟩
    clear c4
    have r7_m := le_on n1 b5
    have l7 := le_tr l3 b5
    clear n1 l3
    clear b5
    have c8 : w5.cell? ⟨g1, 1, none⟩ = some (.int .u8 (n.mf)) := CB.cell r7_m 1
    have c9 : w5.cell? ⟨g1, 2, none⟩ = some (.int .u8 (n.mt)) := CB.cell r7_m 2
    have c10 : w5.cell? ⟨g1, 3, none⟩ = some (.int .i64 (n.me)) := CB.cell r7_m 3
    have c11 : w5.cell? ⟨g1, 4, none⟩ = some (.string (n.cg)) := CB.cell r7_m 4
    go_wp2_with fail
    (with_reducible refine (C2 _).mono ?_)
    rintro e w12 ⟨rfl, b12⟩
    clear c8 c9 c10 c11
    have r14_m := le_on r7_m b12
    have l14 := le_tr l7 b12
    clear r7_m l7
    clear b12
    have c15 : w12.cell? ⟨g1, 4, none⟩ = some (.string (n.cg)) := CB.cell r14_m 4
    go_wp2_with fail
    go_ret
    exact ⟨ret_bool H.out.symm, l14⟩
  have q4 : decide ((n.cg.size : Int) ≤ 500) = true := by rw [decide_eq_true_iff]; omega
  have H := Lib.hid (show _ = true from (decide_eq_true ⟨d0, d1, d2, d3, d4⟩ : decide (MsgN n) = true))
  clear d0 d1 d2 d3 d4
  simp only [q0, q3] at C1 C2
  go_enter Try.func68, Try.ntmps68
  go_wp2_with (first | ((with_reducible refine st_box 68 _ (mgA n) ?_ ?_); exact rfl))
  refine ⟨fun V1 g1 n1 f1 => ?_⟩
  have up1 : w.heap.size ≤ g1 := Nat.le_of_eq f1.at_
  have bl1 := f1.bel
  clear f1
  have l3 := le_tr (Below.refl _ _) bl1
  clear bl1
  have c4 : V1.cell? ⟨g1, 0, none⟩ = some (.int .i64 (n.mq)) := CB.cell n1 0
  go_wp2_with fail
  (with_reducible refine (C1 _).mono ?_)
  rintro e w5 ⟨rfl, b5⟩
  clear c4
  have r7_m := le_on n1 b5
  have l7 := le_tr l3 b5
  clear n1 l3
  clear b5
  have c8 : w5.cell? ⟨g1, 1, none⟩ = some (.int .u8 (n.mf)) := CB.cell r7_m 1
  have c9 : w5.cell? ⟨g1, 2, none⟩ = some (.int .u8 (n.mt)) := CB.cell r7_m 2
  have c10 : w5.cell? ⟨g1, 3, none⟩ = some (.int .i64 (n.me)) := CB.cell r7_m 3
  have c11 : w5.cell? ⟨g1, 4, none⟩ = some (.string (n.cg)) := CB.cell r7_m 4
  go_wp2_with fail
  (with_reducible refine (C2 _).mono ?_)
  rintro e w12 ⟨rfl, b12⟩
  clear c8 c9 c10 c11
  have r14_m := le_on r7_m b12
  have l14 := le_tr l7 b12
  clear r7_m l7
  clear b12
  have c15 : w12.cell? ⟨g1, 4, none⟩ = some (.string (n.cg)) := CB.cell r14_m 4
  go_wp2_with fail
  go_ret
  exact ⟨ret_bool H.out.symm, l14⟩
end Go.Proofs.Ytfdboahcaiolgaa
