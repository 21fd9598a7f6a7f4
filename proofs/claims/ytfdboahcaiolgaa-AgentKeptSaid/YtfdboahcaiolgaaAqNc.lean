/-
  Layer 17: Right of package note: which notes may be. No condition.
-/
import Derived.Test.YtfdboahcaiolgaaAqNb
set_option linter.unusedVariables false
set_option linter.unusedSimpArgs false
namespace Go.Proofs.Ytfdboahcaiolgaa
open Go.RowKit
open Dk (Nt InN RightN BoundN MsgN NoMsg KindN EpN bound_n)


set_option maxRecDepth 100000 in
set_option maxHeartbeats 4000000 in
theorem rest_c (n : Nt) (w : World) : Calls Try.prog 70 #[.agg (ntA n)] w fun zz w' => zz = .returned (.bool (decide (KindN n))) ∧ Below w.heap.size w w' := by
  by_cases k2 : n.kd = 2
  · skip
    have z2 : (n.kd == 2) = true := by simp [k2]
    have C1 := fun W => ep_c n.ep W
    have C2 := fun W => inr_c n.vl 1 2 W
    by_cases d0 : EpN n.ep
    rotate_left
    · skip
      have H := Lib.hid (show decide (KindN n) = false by rw [decide_eq_false_iff_not]; simp only [RightN, MsgN, NoMsg, KindN, EpN] at *; omega)
      have q0 : decide (EpN n.ep) = false := decide_eq_false d0
      clear k2 d0
      simp only [q0] at C1
      go_enter Try.func70, Try.ntmps70
      go_wp2_with (first | ((with_reducible refine st_box 75 _ (ntA n) ?_ ?_); exact rfl))
      refine ⟨fun V1 g1 n1 f1 => ?_⟩
      have up1 : w.heap.size ≤ g1 := Nat.le_of_eq f1.at_
      have bl1 := f1.bel
      clear f1
      have l3 := le_tr (Below.refl _ _) bl1
      clear bl1
      have c4 : V1.cell? ⟨g1, 0, none⟩ = some (.int .i64 (n.kd)) := CB.cell n1 0
      have c5 : V1.cell? ⟨g1, 3, none⟩ = some (.int .i64 (n.ep)) := CB.cell n1 3
      have c6 : V1.cell? ⟨g1, 4, none⟩ = some (.int .i64 (n.vl)) := CB.cell n1 4
      go_wp2_with fail
      (with_reducible refine (C1 _).mono ?_)
      rintro e w7 ⟨rfl, b7⟩
      clear c4 c5 c6
      have r9_n := le_on n1 b7
      have l9 := le_tr l3 b7
      clear n1 l3
      clear b7
      have c10 : w7.cell? ⟨g1, 3, none⟩ = some (.int .i64 (n.ep)) := CB.cell r9_n 3
      have c11 : w7.cell? ⟨g1, 4, none⟩ = some (.int .i64 (n.vl)) := CB.cell r9_n 4
      go_wp2_with fail
      go_ret
      exact ⟨ret_bool H.out.symm, l9⟩
    have q0 : decide (EpN n.ep) = true := decide_eq_true d0
    by_cases d1 : 1 ≤ n.vl ∧ n.vl ≤ 2
    rotate_left
    · skip
      have H := Lib.hid (show decide (KindN n) = false by rw [decide_eq_false_iff_not]; simp only [RightN, MsgN, NoMsg, KindN, EpN] at *; omega)
      have q1 : decide (1 ≤ n.vl ∧ n.vl ≤ 2) = false := decide_eq_false d1
      clear k2 d0 d1
      simp only [q0] at C1
      simp only [q1] at C2
      go_enter Try.func70, Try.ntmps70
      go_wp2_with (first | ((with_reducible refine st_box 75 _ (ntA n) ?_ ?_); exact rfl))
      refine ⟨fun V1 g1 n1 f1 => ?_⟩
      have up1 : w.heap.size ≤ g1 := Nat.le_of_eq f1.at_
      have bl1 := f1.bel
      clear f1
      have l3 := le_tr (Below.refl _ _) bl1
      clear bl1
      have c4 : V1.cell? ⟨g1, 0, none⟩ = some (.int .i64 (n.kd)) := CB.cell n1 0
      have c5 : V1.cell? ⟨g1, 3, none⟩ = some (.int .i64 (n.ep)) := CB.cell n1 3
      have c6 : V1.cell? ⟨g1, 4, none⟩ = some (.int .i64 (n.vl)) := CB.cell n1 4
      go_wp2_with fail
      (with_reducible refine (C1 _).mono ?_)
      rintro e w7 ⟨rfl, b7⟩
      clear c4 c5 c6
      have r9_n := le_on n1 b7
      have l9 := le_tr l3 b7
      clear n1 l3
      clear b7
      have c10 : w7.cell? ⟨g1, 3, none⟩ = some (.int .i64 (n.ep)) := CB.cell r9_n 3
      have c11 : w7.cell? ⟨g1, 4, none⟩ = some (.int .i64 (n.vl)) := CB.cell r9_n 4
      go_wp2_with fail
      (with_reducible refine (C2 _).mono ?_)
      rintro e w12 ⟨rfl, b12⟩
      clear c10 c11
      have r14_n := le_on r9_n b12
      have l14 := le_tr l9 b12
      clear r9_n l9
      clear b12
      go_wp2_with fail
      go_ret
      exact ⟨ret_bool H.out.symm, l14⟩
    have q1 : decide (1 ≤ n.vl ∧ n.vl ≤ 2) = true := decide_eq_true d1
    have H := Lib.hid (show decide (KindN n) = true by rw [decide_eq_true_iff]; simp only [RightN, MsgN, NoMsg, KindN, EpN] at *; omega)
    clear k2 d0 d1
    simp only [q0] at C1
    simp only [q1] at C2
    go_enter Try.func70, Try.ntmps70
    go_wp2_with (first | ((with_reducible refine st_box 75 _ (ntA n) ?_ ?_); exact rfl))
    refine ⟨fun V1 g1 n1 f1 => ?_⟩
    have up1 : w.heap.size ≤ g1 := Nat.le_of_eq f1.at_
    have bl1 := f1.bel
    clear f1
    have l3 := le_tr (Below.refl _ _) bl1
    clear bl1
    have c4 : V1.cell? ⟨g1, 0, none⟩ = some (.int .i64 (n.kd)) := CB.cell n1 0
    have c5 : V1.cell? ⟨g1, 3, none⟩ = some (.int .i64 (n.ep)) := CB.cell n1 3
    have c6 : V1.cell? ⟨g1, 4, none⟩ = some (.int .i64 (n.vl)) := CB.cell n1 4
    go_wp2_with fail
    (with_reducible refine (C1 _).mono ?_)
    rintro e w7 ⟨rfl, b7⟩
    clear c4 c5 c6
    have r9_n := le_on n1 b7
    have l9 := le_tr l3 b7
    clear n1 l3
    clear b7
    have c10 : w7.cell? ⟨g1, 3, none⟩ = some (.int .i64 (n.ep)) := CB.cell r9_n 3
    have c11 : w7.cell? ⟨g1, 4, none⟩ = some (.int .i64 (n.vl)) := CB.cell r9_n 4
    go_wp2_with fail
    (with_reducible refine (C2 _).mono ?_)
    rintro e w12 ⟨rfl, b12⟩
    clear c10 c11
    have r14_n := le_on r9_n b12
    have l14 := le_tr l9 b12
    clear r9_n l9
    clear b12
    go_wp2_with fail
    go_ret
    exact ⟨ret_bool H.out.symm, l14⟩
  have z2 : (n.kd == 2) = false := by simp [k2]
  by_cases k3 : n.kd = 3
  · skip
    have z3 : (n.kd == 3) = true := by simp [k3]
    have C1 := fun W => ep_c n.ep W
    by_cases d0 : EpN n.ep
    rotate_left
    · skip
      have H := Lib.hid (show decide (KindN n) = false by rw [decide_eq_false_iff_not]; simp only [RightN, MsgN, NoMsg, KindN, EpN] at *; omega)
      have q0 : decide (EpN n.ep) = false := decide_eq_false d0
      clear k2 k3 d0
      simp only [q0] at C1
      go_enter Try.func70, Try.ntmps70
      go_wp2_with (first | ((with_reducible refine st_box 75 _ (ntA n) ?_ ?_); exact rfl))
      refine ⟨fun V1 g1 n1 f1 => ?_⟩
      have up1 : w.heap.size ≤ g1 := Nat.le_of_eq f1.at_
      have bl1 := f1.bel
      clear f1
      have l3 := le_tr (Below.refl _ _) bl1
      clear bl1
      have c4 : V1.cell? ⟨g1, 0, none⟩ = some (.int .i64 (n.kd)) := CB.cell n1 0
      have c5 : V1.cell? ⟨g1, 3, none⟩ = some (.int .i64 (n.ep)) := CB.cell n1 3
      have c6 : V1.cell? ⟨g1, 4, none⟩ = some (.int .i64 (n.vl)) := CB.cell n1 4
      go_wp2_with fail
      (with_reducible refine (C1 _).mono ?_)
      rintro e w7 ⟨rfl, b7⟩
      clear c4 c5 c6
      have r9_n := le_on n1 b7
      have l9 := le_tr l3 b7
      clear n1 l3
      clear b7
      have c10 : w7.cell? ⟨g1, 3, none⟩ = some (.int .i64 (n.ep)) := CB.cell r9_n 3
      have c11 : w7.cell? ⟨g1, 4, none⟩ = some (.int .i64 (n.vl)) := CB.cell r9_n 4
      go_wp2_with fail
      go_ret
      exact ⟨ret_bool H.out.symm, l9⟩
    have q0 : decide (EpN n.ep) = true := decide_eq_true d0
    by_cases d1 : n.vl = 0
    rotate_left
    · skip
      have H := Lib.hid (show decide (KindN n) = false by rw [decide_eq_false_iff_not]; simp only [RightN, MsgN, NoMsg, KindN, EpN] at *; omega)
      have q1 : (n.vl == 0) = false := by simp [d1]
      clear k2 k3 d0 d1
      simp only [q0] at C1
      go_enter Try.func70, Try.ntmps70
      go_wp2_with (first | ((with_reducible refine st_box 75 _ (ntA n) ?_ ?_); exact rfl))
      refine ⟨fun V1 g1 n1 f1 => ?_⟩
      have up1 : w.heap.size ≤ g1 := Nat.le_of_eq f1.at_
      have bl1 := f1.bel
      clear f1
      have l3 := le_tr (Below.refl _ _) bl1
      clear bl1
      have c4 : V1.cell? ⟨g1, 0, none⟩ = some (.int .i64 (n.kd)) := CB.cell n1 0
      have c5 : V1.cell? ⟨g1, 3, none⟩ = some (.int .i64 (n.ep)) := CB.cell n1 3
      have c6 : V1.cell? ⟨g1, 4, none⟩ = some (.int .i64 (n.vl)) := CB.cell n1 4
      go_wp2_with fail
      (with_reducible refine (C1 _).mono ?_)
      rintro e w7 ⟨rfl, b7⟩
      clear c4 c5 c6
      have r9_n := le_on n1 b7
      have l9 := le_tr l3 b7
      clear n1 l3
      clear b7
      have c10 : w7.cell? ⟨g1, 3, none⟩ = some (.int .i64 (n.ep)) := CB.cell r9_n 3
      have c11 : w7.cell? ⟨g1, 4, none⟩ = some (.int .i64 (n.vl)) := CB.cell r9_n 4
      go_wp2_with fail
      go_ret
      exact ⟨ret_bool H.out.symm, l9⟩
    have q1 : (n.vl == 0) = true := by simp [d1]
    have H := Lib.hid (show decide (KindN n) = true by rw [decide_eq_true_iff]; simp only [RightN, MsgN, NoMsg, KindN, EpN] at *; omega)
    clear k2 k3 d0 d1
    simp only [q0] at C1
    go_enter Try.func70, Try.ntmps70
    go_wp2_with (first | ((with_reducible refine st_box 75 _ (ntA n) ?_ ?_); exact rfl))
    refine ⟨fun V1 g1 n1 f1 => ?_⟩
    have up1 : w.heap.size ≤ g1 := Nat.le_of_eq f1.at_
    have bl1 := f1.bel
    clear f1
    have l3 := le_tr (Below.refl _ _) bl1
    clear bl1
    have c4 : V1.cell? ⟨g1, 0, none⟩ = some (.int .i64 (n.kd)) := CB.cell n1 0
    have c5 : V1.cell? ⟨g1, 3, none⟩ = some (.int .i64 (n.ep)) := CB.cell n1 3
    have c6 : V1.cell? ⟨g1, 4, none⟩ = some (.int .i64 (n.vl)) := CB.cell n1 4
    go_wp2_with fail
    (with_reducible refine (C1 _).mono ?_)
    rintro e w7 ⟨rfl, b7⟩
    clear c4 c5 c6
    have r9_n := le_on n1 b7
    have l9 := le_tr l3 b7
    clear n1 l3
    clear b7
    have c10 : w7.cell? ⟨g1, 3, none⟩ = some (.int .i64 (n.ep)) := CB.cell r9_n 3
    have c11 : w7.cell? ⟨g1, 4, none⟩ = some (.int .i64 (n.vl)) := CB.cell r9_n 4
    go_wp2_with fail
    go_ret
    exact ⟨ret_bool H.out.symm, l9⟩
  have z3 : (n.kd == 3) = false := by simp [k3]
  by_cases k4 : n.kd = 4
  · skip
    have z4 : (n.kd == 4) = true := by simp [k4]
    by_cases d0 : n.ep = 0
    rotate_left
    · skip
      have H := Lib.hid (show decide (KindN n) = false by rw [decide_eq_false_iff_not]; simp only [RightN, MsgN, NoMsg, KindN, EpN] at *; omega)
      have q0 : (n.ep == 0) = false := by simp [d0]
      clear k2 k3 k4 d0
      go_enter Try.func70, Try.ntmps70
      go_wp2_with (first | ((with_reducible refine st_box 75 _ (ntA n) ?_ ?_); exact rfl))
      refine ⟨fun V1 g1 n1 f1 => ?_⟩
      have up1 : w.heap.size ≤ g1 := Nat.le_of_eq f1.at_
      have bl1 := f1.bel
      clear f1
      have l3 := le_tr (Below.refl _ _) bl1
      clear bl1
      have c4 : V1.cell? ⟨g1, 0, none⟩ = some (.int .i64 (n.kd)) := CB.cell n1 0
      have c5 : V1.cell? ⟨g1, 3, none⟩ = some (.int .i64 (n.ep)) := CB.cell n1 3
      have c6 : V1.cell? ⟨g1, 4, none⟩ = some (.int .i64 (n.vl)) := CB.cell n1 4
      go_wp2_with fail
      go_ret
      exact ⟨ret_bool H.out.symm, l3⟩
    have q0 : (n.ep == 0) = true := by simp [d0]
    by_cases d1 : n.vl = 0
    rotate_left
    · skip
      have H := Lib.hid (show decide (KindN n) = false by rw [decide_eq_false_iff_not]; simp only [RightN, MsgN, NoMsg, KindN, EpN] at *; omega)
      have q1 : (n.vl == 0) = false := by simp [d1]
      clear k2 k3 k4 d0 d1
      go_enter Try.func70, Try.ntmps70
      go_wp2_with (first | ((with_reducible refine st_box 75 _ (ntA n) ?_ ?_); exact rfl))
      refine ⟨fun V1 g1 n1 f1 => ?_⟩
      have up1 : w.heap.size ≤ g1 := Nat.le_of_eq f1.at_
      have bl1 := f1.bel
      clear f1
      have l3 := le_tr (Below.refl _ _) bl1
      clear bl1
      have c4 : V1.cell? ⟨g1, 0, none⟩ = some (.int .i64 (n.kd)) := CB.cell n1 0
      have c5 : V1.cell? ⟨g1, 3, none⟩ = some (.int .i64 (n.ep)) := CB.cell n1 3
      have c6 : V1.cell? ⟨g1, 4, none⟩ = some (.int .i64 (n.vl)) := CB.cell n1 4
      go_wp2_with fail
      go_ret
      exact ⟨ret_bool H.out.symm, l3⟩
    have q1 : (n.vl == 0) = true := by simp [d1]
    have H := Lib.hid (show decide (KindN n) = true by rw [decide_eq_true_iff]; simp only [RightN, MsgN, NoMsg, KindN, EpN] at *; omega)
    clear k2 k3 k4 d0 d1
    go_enter Try.func70, Try.ntmps70
    go_wp2_with (first | ((with_reducible refine st_box 75 _ (ntA n) ?_ ?_); exact rfl))
    refine ⟨fun V1 g1 n1 f1 => ?_⟩
    have up1 : w.heap.size ≤ g1 := Nat.le_of_eq f1.at_
    have bl1 := f1.bel
    clear f1
    have l3 := le_tr (Below.refl _ _) bl1
    clear bl1
    have c4 : V1.cell? ⟨g1, 0, none⟩ = some (.int .i64 (n.kd)) := CB.cell n1 0
    have c5 : V1.cell? ⟨g1, 3, none⟩ = some (.int .i64 (n.ep)) := CB.cell n1 3
    have c6 : V1.cell? ⟨g1, 4, none⟩ = some (.int .i64 (n.vl)) := CB.cell n1 4
    go_wp2_with fail
    go_ret
    exact ⟨ret_bool H.out.symm, l3⟩
  have z4 : (n.kd == 4) = false := by simp [k4]
  by_cases k5 : n.kd = 5
  · skip
    have z5 : (n.kd == 5) = true := by simp [k5]
    have C2 := fun W => inr_c n.vl 0 2 W
    by_cases d0 : n.ep = 0
    rotate_left
    · skip
      have H := Lib.hid (show decide (KindN n) = false by rw [decide_eq_false_iff_not]; simp only [RightN, MsgN, NoMsg, KindN, EpN] at *; omega)
      have q0 : (n.ep == 0) = false := by simp [d0]
      clear k2 k3 k4 k5 d0
      go_enter Try.func70, Try.ntmps70
      go_wp2_with (first | ((with_reducible refine st_box 75 _ (ntA n) ?_ ?_); exact rfl))
      refine ⟨fun V1 g1 n1 f1 => ?_⟩
      have up1 : w.heap.size ≤ g1 := Nat.le_of_eq f1.at_
      have bl1 := f1.bel
      clear f1
      have l3 := le_tr (Below.refl _ _) bl1
      clear bl1
      have c4 : V1.cell? ⟨g1, 0, none⟩ = some (.int .i64 (n.kd)) := CB.cell n1 0
      have c5 : V1.cell? ⟨g1, 3, none⟩ = some (.int .i64 (n.ep)) := CB.cell n1 3
      have c6 : V1.cell? ⟨g1, 4, none⟩ = some (.int .i64 (n.vl)) := CB.cell n1 4
      go_wp2_with fail
      go_ret
      exact ⟨ret_bool H.out.symm, l3⟩
    have q0 : (n.ep == 0) = true := by simp [d0]
    by_cases d1 : 0 ≤ n.vl ∧ n.vl ≤ 2
    rotate_left
    · skip
      have H := Lib.hid (show decide (KindN n) = false by rw [decide_eq_false_iff_not]; simp only [RightN, MsgN, NoMsg, KindN, EpN] at *; omega)
      have q1 : decide (0 ≤ n.vl ∧ n.vl ≤ 2) = false := decide_eq_false d1
      clear k2 k3 k4 k5 d0 d1
      simp only [q1] at C2
      go_enter Try.func70, Try.ntmps70
      go_wp2_with (first | ((with_reducible refine st_box 75 _ (ntA n) ?_ ?_); exact rfl))
      refine ⟨fun V1 g1 n1 f1 => ?_⟩
      have up1 : w.heap.size ≤ g1 := Nat.le_of_eq f1.at_
      have bl1 := f1.bel
      clear f1
      have l3 := le_tr (Below.refl _ _) bl1
      clear bl1
      have c4 : V1.cell? ⟨g1, 0, none⟩ = some (.int .i64 (n.kd)) := CB.cell n1 0
      have c5 : V1.cell? ⟨g1, 3, none⟩ = some (.int .i64 (n.ep)) := CB.cell n1 3
      have c6 : V1.cell? ⟨g1, 4, none⟩ = some (.int .i64 (n.vl)) := CB.cell n1 4
      go_wp2_with fail
      (with_reducible refine (C2 _).mono ?_)
      rintro e w7 ⟨rfl, b7⟩
      clear c4 c5 c6
      have r9_n := le_on n1 b7
      have l9 := le_tr l3 b7
      clear n1 l3
      clear b7
      go_wp2_with fail
      go_ret
      exact ⟨ret_bool H.out.symm, l9⟩
    have q1 : decide (0 ≤ n.vl ∧ n.vl ≤ 2) = true := decide_eq_true d1
    have H := Lib.hid (show decide (KindN n) = true by rw [decide_eq_true_iff]; simp only [RightN, MsgN, NoMsg, KindN, EpN] at *; omega)
    clear k2 k3 k4 k5 d0 d1
    simp only [q1] at C2
    go_enter Try.func70, Try.ntmps70
    go_wp2_with (first | ((with_reducible refine st_box 75 _ (ntA n) ?_ ?_); exact rfl))
    refine ⟨fun V1 g1 n1 f1 => ?_⟩
    have up1 : w.heap.size ≤ g1 := Nat.le_of_eq f1.at_
    have bl1 := f1.bel
    clear f1
    have l3 := le_tr (Below.refl _ _) bl1
    clear bl1
    have c4 : V1.cell? ⟨g1, 0, none⟩ = some (.int .i64 (n.kd)) := CB.cell n1 0
    have c5 : V1.cell? ⟨g1, 3, none⟩ = some (.int .i64 (n.ep)) := CB.cell n1 3
    have c6 : V1.cell? ⟨g1, 4, none⟩ = some (.int .i64 (n.vl)) := CB.cell n1 4
    go_wp2_with fail
    (with_reducible refine (C2 _).mono ?_)
    rintro e w7 ⟨rfl, b7⟩
    clear c4 c5 c6
    have r9_n := le_on n1 b7
    have l9 := le_tr l3 b7
    clear n1 l3
    clear b7
    go_wp2_with fail
    go_ret
    exact ⟨ret_bool H.out.symm, l9⟩
  have z5 : (n.kd == 5) = false := by simp [k5]
  have H := Lib.hid (show decide (KindN n) = false by rw [decide_eq_false_iff_not]; simp only [RightN, MsgN, NoMsg, KindN, EpN] at *; omega)
  clear k2 k3 k4 k5
  go_enter Try.func70, Try.ntmps70
  go_wp2_with (first | ((with_reducible refine st_box 75 _ (ntA n) ?_ ?_); exact rfl))
  refine ⟨fun V1 g1 n1 f1 => ?_⟩
  have up1 : w.heap.size ≤ g1 := Nat.le_of_eq f1.at_
  have bl1 := f1.bel
  clear f1
  have l3 := le_tr (Below.refl _ _) bl1
  clear bl1
  have c4 : V1.cell? ⟨g1, 0, none⟩ = some (.int .i64 (n.kd)) := CB.cell n1 0
  have c5 : V1.cell? ⟨g1, 3, none⟩ = some (.int .i64 (n.ep)) := CB.cell n1 3
  have c6 : V1.cell? ⟨g1, 4, none⟩ = some (.int .i64 (n.vl)) := CB.cell n1 4
  go_wp2_with fail
  go_ret
  exact ⟨ret_bool H.out.symm, l3⟩
set_option maxRecDepth 100000 in
set_option maxHeartbeats 4000000 in
theorem nright_c (n : Nt) (w : World) : Calls Try.prog 45 #[.agg (ntA n)] w fun zz w' => zz = .returned (.bool (decide (RightN n))) ∧ Below w.heap.size w w' := by
  by_cases d0 : 8 ≤ n.mb
  · skip
    have z0 : decide (8 ≤ n.mb) = true := decide_eq_true d0
    have H := Lib.hid (show decide (RightN n) = false by rw [decide_eq_false_iff_not]; simp only [RightN, MsgN, NoMsg, KindN, EpN] at *; omega)
    clear d0
    go_enter Try.func45, Try.ntmps45
    go_wp2_with (first | ((with_reducible refine st_box 75 _ (ntA n) ?_ ?_); exact rfl))
    refine ⟨fun V1 g1 n1 f1 => ?_⟩
    have up1 : w.heap.size ≤ g1 := Nat.le_of_eq f1.at_
    have bl1 := f1.bel
    clear f1
    have l3 := le_tr (Below.refl _ _) bl1
    clear bl1
    have c4 : V1.cell? ⟨g1, 1, none⟩ = some (.int .u8 (n.mb)) := CB.cell n1 1
    have c5 : V1.cell? ⟨g1, 0, none⟩ = some (.int .i64 (n.kd)) := CB.cell n1 0
    have c6 : V1.cell? ⟨g1, 2, none⟩ = some (.int .i64 (n.tx)) := CB.cell n1 2
    have c7 : V1.cell? ⟨g1, 3, none⟩ = some (.int .i64 (n.ep)) := CB.cell n1 3
    have c8 : V1.cell? ⟨g1, 4, none⟩ = some (.int .i64 (n.vl)) := CB.cell n1 4
    go_wp2_with fail
    go_ret
    exact ⟨ret_bool H.out.symm, l3⟩
  have z0 : decide (8 ≤ n.mb) = false := decide_eq_false d0
  by_cases d1 : n.kd = 1
  · skip
    have z1 : (n.kd == 1) = true := by simp [d1]
    have C1 := fun W => nrmsg_c n W
    by_cases e0 : n.tx = 0
    rotate_left
    · skip
      have H := Lib.hid (show decide (RightN n) = false by rw [decide_eq_false_iff_not]; simp only [RightN, MsgN, NoMsg, KindN, EpN] at *; omega)
      have q0 : (n.tx == 0) = false := by simp [e0]
      clear d0 d1 e0
      go_enter Try.func45, Try.ntmps45
      go_wp2_with (first | ((with_reducible refine st_box 75 _ (ntA n) ?_ ?_); exact rfl))
      refine ⟨fun V1 g1 n1 f1 => ?_⟩
      have up1 : w.heap.size ≤ g1 := Nat.le_of_eq f1.at_
      have bl1 := f1.bel
      clear f1
      have l3 := le_tr (Below.refl _ _) bl1
      clear bl1
      have c4 : V1.cell? ⟨g1, 1, none⟩ = some (.int .u8 (n.mb)) := CB.cell n1 1
      have c5 : V1.cell? ⟨g1, 0, none⟩ = some (.int .i64 (n.kd)) := CB.cell n1 0
      have c6 : V1.cell? ⟨g1, 2, none⟩ = some (.int .i64 (n.tx)) := CB.cell n1 2
      have c7 : V1.cell? ⟨g1, 3, none⟩ = some (.int .i64 (n.ep)) := CB.cell n1 3
      have c8 : V1.cell? ⟨g1, 4, none⟩ = some (.int .i64 (n.vl)) := CB.cell n1 4
      go_wp2_with fail
      go_ret
      exact ⟨ret_bool H.out.symm, l3⟩
    have q0 : (n.tx == 0) = true := by simp [e0]
    by_cases e1 : n.ep = 0
    rotate_left
    · skip
      have H := Lib.hid (show decide (RightN n) = false by rw [decide_eq_false_iff_not]; simp only [RightN, MsgN, NoMsg, KindN, EpN] at *; omega)
      have q1 : (n.ep == 0) = false := by simp [e1]
      clear d0 d1 e0 e1
      go_enter Try.func45, Try.ntmps45
      go_wp2_with (first | ((with_reducible refine st_box 75 _ (ntA n) ?_ ?_); exact rfl))
      refine ⟨fun V1 g1 n1 f1 => ?_⟩
      have up1 : w.heap.size ≤ g1 := Nat.le_of_eq f1.at_
      have bl1 := f1.bel
      clear f1
      have l3 := le_tr (Below.refl _ _) bl1
      clear bl1
      have c4 : V1.cell? ⟨g1, 1, none⟩ = some (.int .u8 (n.mb)) := CB.cell n1 1
      have c5 : V1.cell? ⟨g1, 0, none⟩ = some (.int .i64 (n.kd)) := CB.cell n1 0
      have c6 : V1.cell? ⟨g1, 2, none⟩ = some (.int .i64 (n.tx)) := CB.cell n1 2
      have c7 : V1.cell? ⟨g1, 3, none⟩ = some (.int .i64 (n.ep)) := CB.cell n1 3
      have c8 : V1.cell? ⟨g1, 4, none⟩ = some (.int .i64 (n.vl)) := CB.cell n1 4
      go_wp2_with fail
      go_ret
      exact ⟨ret_bool H.out.symm, l3⟩
    have q1 : (n.ep == 0) = true := by simp [e1]
    by_cases e2 : n.vl = 0
    rotate_left
    · skip
      have H := Lib.hid (show decide (RightN n) = false by rw [decide_eq_false_iff_not]; simp only [RightN, MsgN, NoMsg, KindN, EpN] at *; omega)
      have q2 : (n.vl == 0) = false := by simp [e2]
      clear d0 d1 e0 e1 e2
      go_enter Try.func45, Try.ntmps45
      go_wp2_with (first | ((with_reducible refine st_box 75 _ (ntA n) ?_ ?_); exact rfl))
      refine ⟨fun V1 g1 n1 f1 => ?_⟩
      have up1 : w.heap.size ≤ g1 := Nat.le_of_eq f1.at_
      have bl1 := f1.bel
      clear f1
      have l3 := le_tr (Below.refl _ _) bl1
      clear bl1
      have c4 : V1.cell? ⟨g1, 1, none⟩ = some (.int .u8 (n.mb)) := CB.cell n1 1
      have c5 : V1.cell? ⟨g1, 0, none⟩ = some (.int .i64 (n.kd)) := CB.cell n1 0
      have c6 : V1.cell? ⟨g1, 2, none⟩ = some (.int .i64 (n.tx)) := CB.cell n1 2
      have c7 : V1.cell? ⟨g1, 3, none⟩ = some (.int .i64 (n.ep)) := CB.cell n1 3
      have c8 : V1.cell? ⟨g1, 4, none⟩ = some (.int .i64 (n.vl)) := CB.cell n1 4
      go_wp2_with fail
      go_ret
      exact ⟨ret_bool H.out.symm, l3⟩
    have q2 : (n.vl == 0) = true := by simp [e2]
    by_cases e3 : MsgN n
    rotate_left
    · skip
      have H := Lib.hid (show decide (RightN n) = false by rw [decide_eq_false_iff_not]; simp only [RightN, MsgN, NoMsg, KindN, EpN] at *; omega)
      have q3 : decide (MsgN n) = false := decide_eq_false e3
      clear d0 d1 e0 e1 e2 e3
      simp only [q3] at C1
      go_enter Try.func45, Try.ntmps45
      go_wp2_with (first | ((with_reducible refine st_box 75 _ (ntA n) ?_ ?_); exact rfl))
      refine ⟨fun V1 g1 n1 f1 => ?_⟩
      have up1 : w.heap.size ≤ g1 := Nat.le_of_eq f1.at_
      have bl1 := f1.bel
      clear f1
      have l3 := le_tr (Below.refl _ _) bl1
      clear bl1
      have c4 : V1.cell? ⟨g1, 1, none⟩ = some (.int .u8 (n.mb)) := CB.cell n1 1
      have c5 : V1.cell? ⟨g1, 0, none⟩ = some (.int .i64 (n.kd)) := CB.cell n1 0
      have c6 : V1.cell? ⟨g1, 2, none⟩ = some (.int .i64 (n.tx)) := CB.cell n1 2
      have c7 : V1.cell? ⟨g1, 3, none⟩ = some (.int .i64 (n.ep)) := CB.cell n1 3
      have c8 : V1.cell? ⟨g1, 4, none⟩ = some (.int .i64 (n.vl)) := CB.cell n1 4
      go_wp2_with (first | (first | ((with_reducible refine st_part 68 _ g1 5 ?_ (pt := mgA n) n1 ?_ Try.underlying68 ?_ ?_ ?_); exact rfl; exact ntA_pmc _; exact rfl; exact Try.zMc) | ((with_reducible refine st_partG 68 _ g1 5 ?_ (pt := mgA n) n1 ?_ Try.underlying68 ?_ ?_ ?_ ?_); exact rfl; exact ntA_pmc _; exact rfl; exact Try.zMc; exact rfl)))
      (with_reducible refine (C1 _).mono ?_)
      rintro e w9 ⟨rfl, b9⟩
      clear c4 c5 c6 c7 c8
      have r11_n := le_on n1 b9
      have l11 := le_tr l3 b9
      clear n1 l3
      clear b9
      go_wp2_with fail
      go_ret
      exact ⟨ret_bool H.out.symm, l11⟩
    have q3 : decide (MsgN n) = true := decide_eq_true e3
    have H := Lib.hid (show decide (RightN n) = true by rw [decide_eq_true_iff]; simp only [RightN, MsgN, NoMsg, KindN, EpN] at *; omega)
    clear d0 d1 e0 e1 e2 e3
    simp only [q3] at C1
    go_enter Try.func45, Try.ntmps45
    go_wp2_with (first | ((with_reducible refine st_box 75 _ (ntA n) ?_ ?_); exact rfl))
    refine ⟨fun V1 g1 n1 f1 => ?_⟩
    have up1 : w.heap.size ≤ g1 := Nat.le_of_eq f1.at_
    have bl1 := f1.bel
    clear f1
    have l3 := le_tr (Below.refl _ _) bl1
    clear bl1
    have c4 : V1.cell? ⟨g1, 1, none⟩ = some (.int .u8 (n.mb)) := CB.cell n1 1
    have c5 : V1.cell? ⟨g1, 0, none⟩ = some (.int .i64 (n.kd)) := CB.cell n1 0
    have c6 : V1.cell? ⟨g1, 2, none⟩ = some (.int .i64 (n.tx)) := CB.cell n1 2
    have c7 : V1.cell? ⟨g1, 3, none⟩ = some (.int .i64 (n.ep)) := CB.cell n1 3
    have c8 : V1.cell? ⟨g1, 4, none⟩ = some (.int .i64 (n.vl)) := CB.cell n1 4
    go_wp2_with (first | (first | ((with_reducible refine st_part 68 _ g1 5 ?_ (pt := mgA n) n1 ?_ Try.underlying68 ?_ ?_ ?_); exact rfl; exact ntA_pmc _; exact rfl; exact Try.zMc) | ((with_reducible refine st_partG 68 _ g1 5 ?_ (pt := mgA n) n1 ?_ Try.underlying68 ?_ ?_ ?_ ?_); exact rfl; exact ntA_pmc _; exact rfl; exact Try.zMc; exact rfl)))
    (with_reducible refine (C1 _).mono ?_)
    rintro e w9 ⟨rfl, b9⟩
    clear c4 c5 c6 c7 c8
    have r11_n := le_on n1 b9
    have l11 := le_tr l3 b9
    clear n1 l3
    clear b9
    go_wp2_with fail
    go_ret
    exact ⟨ret_bool H.out.symm, l11⟩
  have z1 : (n.kd == 1) = false := by simp [d1]
  have C1 := fun W => inr_c n.tx 0 999 W
  have C2 := fun W => rest_c n W
  have E : ∀ V : World, (Op.equalIn 10000 68 (.agg (mgA n)) (.agg #[.int .i64 0, .int .u8 0, .int .u8 0, .int .i64 0, .string ⟨#[]⟩])).run Try.prog V = .ok (decide (NoMsg n)) V := fun V => by have := eq_mc n zN 9998 V; rw [eqM_zero] at this; exact this
  by_cases e0 : NoMsg n
  rotate_left
  · skip
    have H := Lib.hid (show decide (RightN n) = false by rw [decide_eq_false_iff_not]; simp only [RightN, MsgN, NoMsg, KindN, EpN] at *; omega)
    have q0 : decide (NoMsg n) = false := decide_eq_false e0
    clear d0 d1 e0
    simp only [q0] at E
    go_enter Try.func45, Try.ntmps45
    go_wp2_with (first | ((with_reducible refine st_box 75 _ (ntA n) ?_ ?_); exact rfl))
    refine ⟨fun V1 g1 n1 f1 => ?_⟩
    have up1 : w.heap.size ≤ g1 := Nat.le_of_eq f1.at_
    have bl1 := f1.bel
    clear f1
    have l3 := le_tr (Below.refl _ _) bl1
    clear bl1
    have c4 : V1.cell? ⟨g1, 1, none⟩ = some (.int .u8 (n.mb)) := CB.cell n1 1
    have c5 : V1.cell? ⟨g1, 0, none⟩ = some (.int .i64 (n.kd)) := CB.cell n1 0
    have c6 : V1.cell? ⟨g1, 2, none⟩ = some (.int .i64 (n.tx)) := CB.cell n1 2
    have c7 : V1.cell? ⟨g1, 3, none⟩ = some (.int .i64 (n.ep)) := CB.cell n1 3
    have c8 : V1.cell? ⟨g1, 4, none⟩ = some (.int .i64 (n.vl)) := CB.cell n1 4
    go_wp2_with (first | ((with_reducible refine st_builtk0 68  ?_ ?_); exact built_m0) | (first | ((with_reducible refine st_part 68 _ g1 5 ?_ (pt := mgA n) n1 ?_ Try.underlying68 ?_ ?_ ?_); exact rfl; exact ntA_pmc _; exact rfl; exact Try.zMc) | ((with_reducible refine st_partG 68 _ g1 5 ?_ (pt := mgA n) n1 ?_ Try.underlying68 ?_ ?_ ?_ ?_); exact rfl; exact ntA_pmc _; exact rfl; exact Try.zMc; exact rfl)))
    go_ret
    exact ⟨ret_bool H.out.symm, l3⟩
  have q0 : decide (NoMsg n) = true := decide_eq_true e0
  by_cases e1 : 0 ≤ n.tx ∧ n.tx ≤ 999
  rotate_left
  · skip
    have H := Lib.hid (show decide (RightN n) = false by rw [decide_eq_false_iff_not]; simp only [RightN, MsgN, NoMsg, KindN, EpN] at *; omega)
    have q1 : decide (0 ≤ n.tx ∧ n.tx ≤ 999) = false := decide_eq_false e1
    clear d0 d1 e0 e1
    simp only [q0] at E
    simp only [q1] at C1
    go_enter Try.func45, Try.ntmps45
    go_wp2_with (first | ((with_reducible refine st_box 75 _ (ntA n) ?_ ?_); exact rfl))
    refine ⟨fun V1 g1 n1 f1 => ?_⟩
    have up1 : w.heap.size ≤ g1 := Nat.le_of_eq f1.at_
    have bl1 := f1.bel
    clear f1
    have l3 := le_tr (Below.refl _ _) bl1
    clear bl1
    have c4 : V1.cell? ⟨g1, 1, none⟩ = some (.int .u8 (n.mb)) := CB.cell n1 1
    have c5 : V1.cell? ⟨g1, 0, none⟩ = some (.int .i64 (n.kd)) := CB.cell n1 0
    have c6 : V1.cell? ⟨g1, 2, none⟩ = some (.int .i64 (n.tx)) := CB.cell n1 2
    have c7 : V1.cell? ⟨g1, 3, none⟩ = some (.int .i64 (n.ep)) := CB.cell n1 3
    have c8 : V1.cell? ⟨g1, 4, none⟩ = some (.int .i64 (n.vl)) := CB.cell n1 4
    go_wp2_with (first | ((with_reducible refine st_builtk0 68  ?_ ?_); exact built_m0) | (first | ((with_reducible refine st_part 68 _ g1 5 ?_ (pt := mgA n) n1 ?_ Try.underlying68 ?_ ?_ ?_); exact rfl; exact ntA_pmc _; exact rfl; exact Try.zMc) | ((with_reducible refine st_partG 68 _ g1 5 ?_ (pt := mgA n) n1 ?_ Try.underlying68 ?_ ?_ ?_ ?_); exact rfl; exact ntA_pmc _; exact rfl; exact Try.zMc; exact rfl)))
    (with_reducible refine (C1 _).mono ?_)
    rintro e w9 ⟨rfl, b9⟩
    clear c4 c5 c6 c7 c8
    have r11_n := le_on n1 b9
    have l11 := le_tr l3 b9
    clear n1 l3
    clear b9
    go_wp2_with fail
    go_ret
    exact ⟨ret_bool H.out.symm, l11⟩
  have q1 : decide (0 ≤ n.tx ∧ n.tx ≤ 999) = true := decide_eq_true e1
  by_cases e2 : KindN n
  rotate_left
  · skip
    have H := Lib.hid (show decide (RightN n) = false by rw [decide_eq_false_iff_not]; simp only [RightN, MsgN, NoMsg, KindN, EpN] at *; omega)
    have q2 : decide (KindN n) = false := decide_eq_false e2
    clear d0 d1 e0 e1 e2
    simp only [q0] at E
    simp only [q1] at C1
    simp only [q2] at C2
    go_enter Try.func45, Try.ntmps45
    go_wp2_with (first | ((with_reducible refine st_box 75 _ (ntA n) ?_ ?_); exact rfl))
    refine ⟨fun V1 g1 n1 f1 => ?_⟩
    have up1 : w.heap.size ≤ g1 := Nat.le_of_eq f1.at_
    have bl1 := f1.bel
    clear f1
    have l3 := le_tr (Below.refl _ _) bl1
    clear bl1
    have c4 : V1.cell? ⟨g1, 1, none⟩ = some (.int .u8 (n.mb)) := CB.cell n1 1
    have c5 : V1.cell? ⟨g1, 0, none⟩ = some (.int .i64 (n.kd)) := CB.cell n1 0
    have c6 : V1.cell? ⟨g1, 2, none⟩ = some (.int .i64 (n.tx)) := CB.cell n1 2
    have c7 : V1.cell? ⟨g1, 3, none⟩ = some (.int .i64 (n.ep)) := CB.cell n1 3
    have c8 : V1.cell? ⟨g1, 4, none⟩ = some (.int .i64 (n.vl)) := CB.cell n1 4
    go_wp2_with (first | ((with_reducible refine st_builtk0 68  ?_ ?_); exact built_m0) | (first | ((with_reducible refine st_part 68 _ g1 5 ?_ (pt := mgA n) n1 ?_ Try.underlying68 ?_ ?_ ?_); exact rfl; exact ntA_pmc _; exact rfl; exact Try.zMc) | ((with_reducible refine st_partG 68 _ g1 5 ?_ (pt := mgA n) n1 ?_ Try.underlying68 ?_ ?_ ?_ ?_); exact rfl; exact ntA_pmc _; exact rfl; exact Try.zMc; exact rfl)))
    (with_reducible refine (C1 _).mono ?_)
    rintro e w9 ⟨rfl, b9⟩
    clear c4 c5 c6 c7 c8
    have r11_n := le_on n1 b9
    have l11 := le_tr l3 b9
    clear n1 l3
    clear b9
    go_wp2_with (first | (first | ((with_reducible refine st_load 75 _ g1 ?_ r11_n Try.underlying75 ?_ ?_ ?_); exact rfl; exact rfl; exact Try.zNc) | ((with_reducible refine st_loadG 75 _ g1 ?_ r11_n Try.underlying75 ?_ ?_ ?_ ?_); exact rfl; exact rfl; exact Try.zNc; exact rfl)))
    (with_reducible refine (C2 _).mono ?_)
    rintro e w12 ⟨rfl, b12⟩
    have r14_n := le_on r11_n b12
    have l14 := le_tr l11 b12
    clear r11_n l11
    clear b12
    go_wp2_with fail
    go_ret
    exact ⟨ret_bool H.out.symm, l14⟩
  have q2 : decide (KindN n) = true := decide_eq_true e2
  have H := Lib.hid (show decide (RightN n) = true by rw [decide_eq_true_iff]; simp only [RightN, MsgN, NoMsg, KindN, EpN] at *; omega)
  clear d0 d1 e0 e1 e2
  simp only [q0] at E
  simp only [q1] at C1
  simp only [q2] at C2
  go_enter Try.func45, Try.ntmps45
  go_wp2_with (first | ((with_reducible refine st_box 75 _ (ntA n) ?_ ?_); exact rfl))
  refine ⟨fun V1 g1 n1 f1 => ?_⟩
  have up1 : w.heap.size ≤ g1 := Nat.le_of_eq f1.at_
  have bl1 := f1.bel
  clear f1
  have l3 := le_tr (Below.refl _ _) bl1
  clear bl1
  have c4 : V1.cell? ⟨g1, 1, none⟩ = some (.int .u8 (n.mb)) := CB.cell n1 1
  have c5 : V1.cell? ⟨g1, 0, none⟩ = some (.int .i64 (n.kd)) := CB.cell n1 0
  have c6 : V1.cell? ⟨g1, 2, none⟩ = some (.int .i64 (n.tx)) := CB.cell n1 2
  have c7 : V1.cell? ⟨g1, 3, none⟩ = some (.int .i64 (n.ep)) := CB.cell n1 3
  have c8 : V1.cell? ⟨g1, 4, none⟩ = some (.int .i64 (n.vl)) := CB.cell n1 4
  go_wp2_with (first | ((with_reducible refine st_builtk0 68  ?_ ?_); exact built_m0) | (first | ((with_reducible refine st_part 68 _ g1 5 ?_ (pt := mgA n) n1 ?_ Try.underlying68 ?_ ?_ ?_); exact rfl; exact ntA_pmc _; exact rfl; exact Try.zMc) | ((with_reducible refine st_partG 68 _ g1 5 ?_ (pt := mgA n) n1 ?_ Try.underlying68 ?_ ?_ ?_ ?_); exact rfl; exact ntA_pmc _; exact rfl; exact Try.zMc; exact rfl)))
  (with_reducible refine (C1 _).mono ?_)
  rintro e w9 ⟨rfl, b9⟩
  clear c4 c5 c6 c7 c8
  have r11_n := le_on n1 b9
  have l11 := le_tr l3 b9
  clear n1 l3
  clear b9
  go_wp2_with (first | (first | ((with_reducible refine st_load 75 _ g1 ?_ r11_n Try.underlying75 ?_ ?_ ?_); exact rfl; exact rfl; exact Try.zNc) | ((with_reducible refine st_loadG 75 _ g1 ?_ r11_n Try.underlying75 ?_ ?_ ?_ ?_); exact rfl; exact rfl; exact Try.zNc; exact rfl)))
  (with_reducible refine (C2 _).mono ?_)
  rintro e w12 ⟨rfl, b12⟩
  have r14_n := le_on r11_n b12
  have l14 := le_tr l11 b12
  clear r11_n l11
  clear b12
  go_wp2_with fail
  go_ret
  exact ⟨ret_bool H.out.symm, l14⟩
end Go.Proofs.Ytfdboahcaiolgaa
