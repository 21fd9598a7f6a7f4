/-
  Layer 17: the document's Right. No condition.
-/
import Derived.Test.YtbkfepgcnijlfaaNoB
set_option linter.unusedVariables false
set_option linter.unusedSimpArgs false
namespace Go.Proofs.Ytbkfepgcnijlfaa
open Go.RowKit
open Dk (Nt InN RightN BoundN MsgN NoMsg KindN EpN bound_n)


set_option maxRecDepth 100000 in
set_option maxHeartbeats 4000000 in
theorem right_r (n : Nt) (w : World) : Calls Try.prog 15 #[.agg (ntA n)] w fun zz w' => zz = .returned (.bool (decide (RightN n))) ∧ Below w.heap.size w w' := by
  by_cases d0 : 8 ≤ n.mb
  · skip
    have z0 : decide (8 ≤ n.mb) = true := decide_eq_true d0
    have H := Lib.hid (show decide (RightN n) = false by rw [decide_eq_false_iff_not]; simp only [RightN, MsgN, NoMsg, KindN, EpN] at *; omega)
    clear d0
    go_enter Try.func15, Try.ntmps15
    go_wp2_with (first | ((with_reducible refine st_box 25 _ (ntA n) ?_ ?_); exact rfl))
    refine ⟨fun V1 g1 n1 f1 => ?_⟩
    have up1 : w.heap.size ≤ g1 := Nat.le_of_eq f1.at_
    have bl1 := f1.bel
    clear f1
    have l3 := le_tr (Below.refl _ _) bl1
    clear bl1
    have c4 : V1.cell? ⟨g1, 1, none⟩ = some (.int .u8 (n.mb)) := CB.cell n1 1
    have c5 : V1.cell? ⟨g1, 0, none⟩ = some (.int .i64 (n.kd)) := CB.cell n1 0
    have c6 : V1.cell? ⟨g1, 2, none⟩ = some (.int .i64 (n.tx)) := CB.cell n1 2
    have c7 : V1.cell? ⟨g1, 3, none⟩ = some (.int .i64 (n.ep)) := CB.cell n1 3
    have c8 : V1.cell? ⟨g1, 4, none⟩ = some (.int .i64 (n.vl)) := CB.cell n1 4
    go_wp2_with fail
    go_ret
    exact ⟨ret_bool H.out.symm, l3⟩
  have z0 : decide (8 ≤ n.mb) = false := decide_eq_false d0
  by_cases d1 : n.tx < 0
  · skip
    have z1 : decide (n.tx < 0) = true := decide_eq_true d1
    have H := Lib.hid (show decide (RightN n) = false by rw [decide_eq_false_iff_not]; simp only [RightN, MsgN, NoMsg, KindN, EpN] at *; omega)
    clear d0 d1
    go_enter Try.func15, Try.ntmps15
    go_wp2_with (first | ((with_reducible refine st_box 25 _ (ntA n) ?_ ?_); exact rfl))
    refine ⟨fun V1 g1 n1 f1 => ?_⟩
    have up1 : w.heap.size ≤ g1 := Nat.le_of_eq f1.at_
    have bl1 := f1.bel
    clear f1
    have l3 := le_tr (Below.refl _ _) bl1
    clear bl1
    have c4 : V1.cell? ⟨g1, 1, none⟩ = some (.int .u8 (n.mb)) := CB.cell n1 1
    have c5 : V1.cell? ⟨g1, 0, none⟩ = some (.int .i64 (n.kd)) := CB.cell n1 0
    have c6 : V1.cell? ⟨g1, 2, none⟩ = some (.int .i64 (n.tx)) := CB.cell n1 2
    have c7 : V1.cell? ⟨g1, 3, none⟩ = some (.int .i64 (n.ep)) := CB.cell n1 3
    have c8 : V1.cell? ⟨g1, 4, none⟩ = some (.int .i64 (n.vl)) := CB.cell n1 4
    go_wp2_with fail
    go_ret
    exact ⟨ret_bool H.out.symm, l3⟩
  have z1 : decide (n.tx < 0) = false := decide_eq_false d1
  by_cases d2 : 1000 ≤ n.tx
  · skip
    have z2 : decide (1000 ≤ n.tx) = true := decide_eq_true d2
    have H := Lib.hid (show decide (RightN n) = false by rw [decide_eq_false_iff_not]; simp only [RightN, MsgN, NoMsg, KindN, EpN] at *; omega)
    clear d0 d1 d2
    go_enter Try.func15, Try.ntmps15
    go_wp2_with (first | ((with_reducible refine st_box 25 _ (ntA n) ?_ ?_); exact rfl))
    refine ⟨fun V1 g1 n1 f1 => ?_⟩
    have up1 : w.heap.size ≤ g1 := Nat.le_of_eq f1.at_
    have bl1 := f1.bel
    clear f1
    have l3 := le_tr (Below.refl _ _) bl1
    clear bl1
    have c4 : V1.cell? ⟨g1, 1, none⟩ = some (.int .u8 (n.mb)) := CB.cell n1 1
    have c5 : V1.cell? ⟨g1, 0, none⟩ = some (.int .i64 (n.kd)) := CB.cell n1 0
    have c6 : V1.cell? ⟨g1, 2, none⟩ = some (.int .i64 (n.tx)) := CB.cell n1 2
    have c7 : V1.cell? ⟨g1, 3, none⟩ = some (.int .i64 (n.ep)) := CB.cell n1 3
    have c8 : V1.cell? ⟨g1, 4, none⟩ = some (.int .i64 (n.vl)) := CB.cell n1 4
    go_wp2_with fail
    go_ret
    exact ⟨ret_bool H.out.symm, l3⟩
  have z2 : decide (1000 ≤ n.tx) = false := decide_eq_false d2
  by_cases d3 : n.kd = 1
  · skip
    have z3 : (n.kd == 1) = true := by simp [d3]
    have C1 := fun W => handed_r n W
    by_cases e0 : n.tx = 0
    rotate_left
    · skip
      have H := Lib.hid (show decide (RightN n) = false by rw [decide_eq_false_iff_not]; simp only [RightN, MsgN, NoMsg, KindN, EpN] at *; omega)
      have q0 : (n.tx == 0) = false := by simp [e0]
      clear d0 d1 d2 d3 e0
      go_enter Try.func15, Try.ntmps15
      go_wp2_with (first | ((with_reducible refine st_box 25 _ (ntA n) ?_ ?_); exact rfl))
      refine ⟨fun V1 g1 n1 f1 => ?_⟩
      have up1 : w.heap.size ≤ g1 := Nat.le_of_eq f1.at_
      have bl1 := f1.bel
      clear f1
      have l3 := le_tr (Below.refl _ _) bl1
      clear bl1
      have c4 : V1.cell? ⟨g1, 1, none⟩ = some (.int .u8 (n.mb)) := CB.cell n1 1
      have c5 : V1.cell? ⟨g1, 0, none⟩ = some (.int .i64 (n.kd)) := CB.cell n1 0
      have c6 : V1.cell? ⟨g1, 2, none⟩ = some (.int .i64 (n.tx)) := CB.cell n1 2
      have c7 : V1.cell? ⟨g1, 3, none⟩ = some (.int .i64 (n.ep)) := CB.cell n1 3
      have c8 : V1.cell? ⟨g1, 4, none⟩ = some (.int .i64 (n.vl)) := CB.cell n1 4
      go_wp2_with fail
      go_ret
      exact ⟨ret_bool H.out.symm, l3⟩
    have q0 : (n.tx == 0) = true := by simp [e0]
    by_cases e1 : n.ep = 0
    rotate_left
    · skip
      have H := Lib.hid (show decide (RightN n) = false by rw [decide_eq_false_iff_not]; simp only [RightN, MsgN, NoMsg, KindN, EpN] at *; omega)
      have q1 : (n.ep == 0) = false := by simp [e1]
      clear d0 d1 d2 d3 e0 e1
      go_enter Try.func15, Try.ntmps15
      go_wp2_with (first | ((with_reducible refine st_box 25 _ (ntA n) ?_ ?_); exact rfl))
      refine ⟨fun V1 g1 n1 f1 => ?_⟩
      have up1 : w.heap.size ≤ g1 := Nat.le_of_eq f1.at_
      have bl1 := f1.bel
      clear f1
      have l3 := le_tr (Below.refl _ _) bl1
      clear bl1
      have c4 : V1.cell? ⟨g1, 1, none⟩ = some (.int .u8 (n.mb)) := CB.cell n1 1
      have c5 : V1.cell? ⟨g1, 0, none⟩ = some (.int .i64 (n.kd)) := CB.cell n1 0
      have c6 : V1.cell? ⟨g1, 2, none⟩ = some (.int .i64 (n.tx)) := CB.cell n1 2
      have c7 : V1.cell? ⟨g1, 3, none⟩ = some (.int .i64 (n.ep)) := CB.cell n1 3
      have c8 : V1.cell? ⟨g1, 4, none⟩ = some (.int .i64 (n.vl)) := CB.cell n1 4
      go_wp2_with fail
      go_ret
      exact ⟨ret_bool H.out.symm, l3⟩
    have q1 : (n.ep == 0) = true := by simp [e1]
    by_cases e2 : n.vl = 0
    rotate_left
    · skip
      have H := Lib.hid (show decide (RightN n) = false by rw [decide_eq_false_iff_not]; simp only [RightN, MsgN, NoMsg, KindN, EpN] at *; omega)
      have q2 : (n.vl == 0) = false := by simp [e2]
      clear d0 d1 d2 d3 e0 e1 e2
      go_enter Try.func15, Try.ntmps15
      go_wp2_with (first | ((with_reducible refine st_box 25 _ (ntA n) ?_ ?_); exact rfl))
      refine ⟨fun V1 g1 n1 f1 => ?_⟩
      have up1 : w.heap.size ≤ g1 := Nat.le_of_eq f1.at_
      have bl1 := f1.bel
      clear f1
      have l3 := le_tr (Below.refl _ _) bl1
      clear bl1
      have c4 : V1.cell? ⟨g1, 1, none⟩ = some (.int .u8 (n.mb)) := CB.cell n1 1
      have c5 : V1.cell? ⟨g1, 0, none⟩ = some (.int .i64 (n.kd)) := CB.cell n1 0
      have c6 : V1.cell? ⟨g1, 2, none⟩ = some (.int .i64 (n.tx)) := CB.cell n1 2
      have c7 : V1.cell? ⟨g1, 3, none⟩ = some (.int .i64 (n.ep)) := CB.cell n1 3
      have c8 : V1.cell? ⟨g1, 4, none⟩ = some (.int .i64 (n.vl)) := CB.cell n1 4
      go_wp2_with fail
      go_ret
      exact ⟨ret_bool H.out.symm, l3⟩
    have q2 : (n.vl == 0) = true := by simp [e2]
    by_cases e3 : MsgN n
    rotate_left
    · skip
      have H := Lib.hid (show decide (RightN n) = false by rw [decide_eq_false_iff_not]; simp only [RightN, MsgN, NoMsg, KindN, EpN] at *; omega)
      have q3 : decide (MsgN n) = false := decide_eq_false e3
      clear d0 d1 d2 d3 e0 e1 e2 e3
      simp only [q3] at C1
      go_enter Try.func15, Try.ntmps15
      go_wp2_with (first | ((with_reducible refine st_box 25 _ (ntA n) ?_ ?_); exact rfl))
      refine ⟨fun V1 g1 n1 f1 => ?_⟩
      have up1 : w.heap.size ≤ g1 := Nat.le_of_eq f1.at_
      have bl1 := f1.bel
      clear f1
      have l3 := le_tr (Below.refl _ _) bl1
      clear bl1
      have c4 : V1.cell? ⟨g1, 1, none⟩ = some (.int .u8 (n.mb)) := CB.cell n1 1
      have c5 : V1.cell? ⟨g1, 0, none⟩ = some (.int .i64 (n.kd)) := CB.cell n1 0
      have c6 : V1.cell? ⟨g1, 2, none⟩ = some (.int .i64 (n.tx)) := CB.cell n1 2
      have c7 : V1.cell? ⟨g1, 3, none⟩ = some (.int .i64 (n.ep)) := CB.cell n1 3
      have c8 : V1.cell? ⟨g1, 4, none⟩ = some (.int .i64 (n.vl)) := CB.cell n1 4
      go_wp2_with (first | (first | ((with_reducible refine st_part 23 _ g1 5 ?_ (pt := mgA n) n1 ?_ Try.underlying23 ?_ ?_ ?_); exact rfl; exact ntA_pmr _; exact rfl; exact Try.zMr) | ((with_reducible refine st_partG 23 _ g1 5 ?_ (pt := mgA n) n1 ?_ Try.underlying23 ?_ ?_ ?_ ?_); exact rfl; exact ntA_pmr _; exact rfl; exact Try.zMr; exact rfl)))
      (with_reducible refine (C1 _).mono ?_)
      rintro e w9 ⟨rfl, b9⟩
      clear c4 c5 c6 c7 c8
      have r11_n := le_on n1 b9
      have l11 := le_tr l3 b9
      clear n1 l3
      clear b9
      go_wp2_with fail
      go_ret
      exact ⟨ret_bool H.out.symm, l11⟩
    have q3 : decide (MsgN n) = true := decide_eq_true e3
    have H := Lib.hid (show decide (RightN n) = true by rw [decide_eq_true_iff]; simp only [RightN, MsgN, NoMsg, KindN, EpN] at *; omega)
    clear d0 d1 d2 d3 e0 e1 e2 e3
    simp only [q3] at C1
    go_enter Try.func15, Try.ntmps15
    go_wp2_with (first | ((with_reducible refine st_box 25 _ (ntA n) ?_ ?_); exact rfl))
    refine ⟨fun V1 g1 n1 f1 => ?_⟩
    have up1 : w.heap.size ≤ g1 := Nat.le_of_eq f1.at_
    have bl1 := f1.bel
    clear f1
    have l3 := le_tr (Below.refl _ _) bl1
    clear bl1
    have c4 : V1.cell? ⟨g1, 1, none⟩ = some (.int .u8 (n.mb)) := CB.cell n1 1
    have c5 : V1.cell? ⟨g1, 0, none⟩ = some (.int .i64 (n.kd)) := CB.cell n1 0
    have c6 : V1.cell? ⟨g1, 2, none⟩ = some (.int .i64 (n.tx)) := CB.cell n1 2
    have c7 : V1.cell? ⟨g1, 3, none⟩ = some (.int .i64 (n.ep)) := CB.cell n1 3
    have c8 : V1.cell? ⟨g1, 4, none⟩ = some (.int .i64 (n.vl)) := CB.cell n1 4
    go_wp2_with (first | (first | ((with_reducible refine st_part 23 _ g1 5 ?_ (pt := mgA n) n1 ?_ Try.underlying23 ?_ ?_ ?_); exact rfl; exact ntA_pmr _; exact rfl; exact Try.zMr) | ((with_reducible refine st_partG 23 _ g1 5 ?_ (pt := mgA n) n1 ?_ Try.underlying23 ?_ ?_ ?_ ?_); exact rfl; exact ntA_pmr _; exact rfl; exact Try.zMr; exact rfl)))
    (with_reducible refine (C1 _).mono ?_)
    rintro e w9 ⟨rfl, b9⟩
    clear c4 c5 c6 c7 c8
    have r11_n := le_on n1 b9
    have l11 := le_tr l3 b9
    clear n1 l3
    clear b9
    go_wp2_with fail
    go_ret
    exact ⟨ret_bool H.out.symm, l11⟩
  have z3 : (n.kd == 1) = false := by simp [d3]
  have E : ∀ V : World, (Op.equalIn 10000 23 (.agg (mgA n)) (.agg #[.int .i64 0, .int .u8 0, .int .u8 0, .int .i64 0, .string ⟨#[]⟩])).run Try.prog V = .ok (decide (NoMsg n)) V := fun V => by have := eq_mr n zN 9998 V; rw [eqM_zero] at this; exact this
  by_cases e0 : NoMsg n
  rotate_left
  · skip
    have q0 : decide (NoMsg n) = false := decide_eq_false e0
    simp only [q0] at E
    have H := Lib.hid (show decide (RightN n) = false by rw [decide_eq_false_iff_not]; simp only [RightN, MsgN, NoMsg, KindN, EpN] at *; omega)
    clear e0 d0 d1 d2 d3
    go_enter Try.func15, Try.ntmps15
    go_wp2_with (first | ((with_reducible refine st_box 25 _ (ntA n) ?_ ?_); exact rfl))
    refine ⟨fun V1 g1 n1 f1 => ?_⟩
    have up1 : w.heap.size ≤ g1 := Nat.le_of_eq f1.at_
    have bl1 := f1.bel
    clear f1
    have l3 := le_tr (Below.refl _ _) bl1
    clear bl1
    have c4 : V1.cell? ⟨g1, 1, none⟩ = some (.int .u8 (n.mb)) := CB.cell n1 1
    have c5 : V1.cell? ⟨g1, 0, none⟩ = some (.int .i64 (n.kd)) := CB.cell n1 0
    have c6 : V1.cell? ⟨g1, 2, none⟩ = some (.int .i64 (n.tx)) := CB.cell n1 2
    have c7 : V1.cell? ⟨g1, 3, none⟩ = some (.int .i64 (n.ep)) := CB.cell n1 3
    have c8 : V1.cell? ⟨g1, 4, none⟩ = some (.int .i64 (n.vl)) := CB.cell n1 4
    go_wp2_with (first | ((with_reducible refine st_builtk0 23  ?_ ?_); exact built_q0) | (first | ((with_reducible refine st_part 23 _ g1 5 ?_ (pt := mgA n) n1 ?_ Try.underlying23 ?_ ?_ ?_); exact rfl; exact ntA_pmr _; exact rfl; exact Try.zMr) | ((with_reducible refine st_partG 23 _ g1 5 ?_ (pt := mgA n) n1 ?_ Try.underlying23 ?_ ?_ ?_ ?_); exact rfl; exact ntA_pmr _; exact rfl; exact Try.zMr; exact rfl)))
    go_ret
    exact ⟨ret_bool H.out.symm, l3⟩
  have q0 : decide (NoMsg n) = true := decide_eq_true e0
  simp only [q0] at E
  by_cases k2 : n.kd = 2
  · skip
    have y2 : (n.kd == 2) = true := by simp [k2]
    have C1 := fun W => ep_r n.ep W
    by_cases v1 : n.vl = 1
    · skip
      have q5 : (n.vl == 1) = true := by simp [v1]
      by_cases f0 : EpN n.ep
      rotate_left
      · skip
        have H := Lib.hid (show decide (RightN n) = false by rw [decide_eq_false_iff_not]; simp only [RightN, MsgN, NoMsg, KindN, EpN] at *; omega)
        have q1 : decide (EpN n.ep) = false := decide_eq_false f0
        clear d0 d1 d2 d3 e0 k2 v1 f0
        simp only [q1] at C1
        go_enter Try.func15, Try.ntmps15
        go_wp2_with (first | ((with_reducible refine st_box 25 _ (ntA n) ?_ ?_); exact rfl))
        refine ⟨fun V1 g1 n1 f1 => ?_⟩
        have up1 : w.heap.size ≤ g1 := Nat.le_of_eq f1.at_
        have bl1 := f1.bel
        clear f1
        have l3 := le_tr (Below.refl _ _) bl1
        clear bl1
        have c4 : V1.cell? ⟨g1, 1, none⟩ = some (.int .u8 (n.mb)) := CB.cell n1 1
        have c5 : V1.cell? ⟨g1, 0, none⟩ = some (.int .i64 (n.kd)) := CB.cell n1 0
        have c6 : V1.cell? ⟨g1, 2, none⟩ = some (.int .i64 (n.tx)) := CB.cell n1 2
        have c7 : V1.cell? ⟨g1, 3, none⟩ = some (.int .i64 (n.ep)) := CB.cell n1 3
        have c8 : V1.cell? ⟨g1, 4, none⟩ = some (.int .i64 (n.vl)) := CB.cell n1 4
        go_wp2_with (first | ((with_reducible refine st_builtk0 23  ?_ ?_); exact built_q0) | (first | ((with_reducible refine st_part 23 _ g1 5 ?_ (pt := mgA n) n1 ?_ Try.underlying23 ?_ ?_ ?_); exact rfl; exact ntA_pmr _; exact rfl; exact Try.zMr) | ((with_reducible refine st_partG 23 _ g1 5 ?_ (pt := mgA n) n1 ?_ Try.underlying23 ?_ ?_ ?_ ?_); exact rfl; exact ntA_pmr _; exact rfl; exact Try.zMr; exact rfl)))
        (with_reducible refine (C1 _).mono ?_)
        rintro e w9 ⟨rfl, b9⟩
        clear c4 c5 c6 c7 c8
        have r11_n := le_on n1 b9
        have l11 := le_tr l3 b9
        clear n1 l3
        clear b9
        have c12 : w9.cell? ⟨g1, 1, none⟩ = some (.int .u8 (n.mb)) := CB.cell r11_n 1
        have c13 : w9.cell? ⟨g1, 0, none⟩ = some (.int .i64 (n.kd)) := CB.cell r11_n 0
        have c14 : w9.cell? ⟨g1, 2, none⟩ = some (.int .i64 (n.tx)) := CB.cell r11_n 2
        have c15 : w9.cell? ⟨g1, 3, none⟩ = some (.int .i64 (n.ep)) := CB.cell r11_n 3
        have c16 : w9.cell? ⟨g1, 4, none⟩ = some (.int .i64 (n.vl)) := CB.cell r11_n 4
        go_wp2_with (first | ((with_reducible refine st_builtk0 23  ?_ ?_); exact built_q0) | (first | ((with_reducible refine st_part 23 _ g1 5 ?_ (pt := mgA n) n1 ?_ Try.underlying23 ?_ ?_ ?_); exact rfl; exact ntA_pmr _; exact rfl; exact Try.zMr) | ((with_reducible refine st_partG 23 _ g1 5 ?_ (pt := mgA n) n1 ?_ Try.underlying23 ?_ ?_ ?_ ?_); exact rfl; exact ntA_pmr _; exact rfl; exact Try.zMr; exact rfl)))
        go_ret
        exact ⟨ret_bool H.out.symm, l11⟩
      have q1 : decide (EpN n.ep) = true := decide_eq_true f0
      have H := Lib.hid (show decide (RightN n) = true by rw [decide_eq_true_iff]; simp only [RightN, MsgN, NoMsg, KindN, EpN] at *; omega)
      clear d0 d1 d2 d3 e0 k2 v1 f0
      simp only [q1] at C1
      go_enter Try.func15, Try.ntmps15
      go_wp2_with (first | ((with_reducible refine st_box 25 _ (ntA n) ?_ ?_); exact rfl))
      refine ⟨fun V1 g1 n1 f1 => ?_⟩
      have up1 : w.heap.size ≤ g1 := Nat.le_of_eq f1.at_
      have bl1 := f1.bel
      clear f1
      have l3 := le_tr (Below.refl _ _) bl1
      clear bl1
      have c4 : V1.cell? ⟨g1, 1, none⟩ = some (.int .u8 (n.mb)) := CB.cell n1 1
      have c5 : V1.cell? ⟨g1, 0, none⟩ = some (.int .i64 (n.kd)) := CB.cell n1 0
      have c6 : V1.cell? ⟨g1, 2, none⟩ = some (.int .i64 (n.tx)) := CB.cell n1 2
      have c7 : V1.cell? ⟨g1, 3, none⟩ = some (.int .i64 (n.ep)) := CB.cell n1 3
      have c8 : V1.cell? ⟨g1, 4, none⟩ = some (.int .i64 (n.vl)) := CB.cell n1 4
      go_wp2_with (first | ((with_reducible refine st_builtk0 23  ?_ ?_); exact built_q0) | (first | ((with_reducible refine st_part 23 _ g1 5 ?_ (pt := mgA n) n1 ?_ Try.underlying23 ?_ ?_ ?_); exact rfl; exact ntA_pmr _; exact rfl; exact Try.zMr) | ((with_reducible refine st_partG 23 _ g1 5 ?_ (pt := mgA n) n1 ?_ Try.underlying23 ?_ ?_ ?_ ?_); exact rfl; exact ntA_pmr _; exact rfl; exact Try.zMr; exact rfl)))
      (with_reducible refine (C1 _).mono ?_)
      rintro e w9 ⟨rfl, b9⟩
      clear c4 c5 c6 c7 c8
      have r11_n := le_on n1 b9
      have l11 := le_tr l3 b9
      clear n1 l3
      clear b9
      have c12 : w9.cell? ⟨g1, 1, none⟩ = some (.int .u8 (n.mb)) := CB.cell r11_n 1
      have c13 : w9.cell? ⟨g1, 0, none⟩ = some (.int .i64 (n.kd)) := CB.cell r11_n 0
      have c14 : w9.cell? ⟨g1, 2, none⟩ = some (.int .i64 (n.tx)) := CB.cell r11_n 2
      have c15 : w9.cell? ⟨g1, 3, none⟩ = some (.int .i64 (n.ep)) := CB.cell r11_n 3
      have c16 : w9.cell? ⟨g1, 4, none⟩ = some (.int .i64 (n.vl)) := CB.cell r11_n 4
      go_wp2_with (first | ((with_reducible refine st_builtk0 23  ?_ ?_); exact built_q0) | (first | ((with_reducible refine st_part 23 _ g1 5 ?_ (pt := mgA n) n1 ?_ Try.underlying23 ?_ ?_ ?_); exact rfl; exact ntA_pmr _; exact rfl; exact Try.zMr) | ((with_reducible refine st_partG 23 _ g1 5 ?_ (pt := mgA n) n1 ?_ Try.underlying23 ?_ ?_ ?_ ?_); exact rfl; exact ntA_pmr _; exact rfl; exact Try.zMr; exact rfl)))
      go_ret
      exact ⟨ret_bool H.out.symm, l11⟩
    have q5 : (n.vl == 1) = false := by simp [v1]
    by_cases f0 : EpN n.ep
    rotate_left
    · skip
      have H := Lib.hid (show decide (RightN n) = false by rw [decide_eq_false_iff_not]; simp only [RightN, MsgN, NoMsg, KindN, EpN] at *; omega)
      have q1 : decide (EpN n.ep) = false := decide_eq_false f0
      clear d0 d1 d2 d3 e0 k2 v1 f0
      simp only [q1] at C1
      go_enter Try.func15, Try.ntmps15
      go_wp2_with (first | ((with_reducible refine st_box 25 _ (ntA n) ?_ ?_); exact rfl))
      refine ⟨fun V1 g1 n1 f1 => ?_⟩
      have up1 : w.heap.size ≤ g1 := Nat.le_of_eq f1.at_
      have bl1 := f1.bel
      clear f1
      have l3 := le_tr (Below.refl _ _) bl1
      clear bl1
      have c4 : V1.cell? ⟨g1, 1, none⟩ = some (.int .u8 (n.mb)) := CB.cell n1 1
      have c5 : V1.cell? ⟨g1, 0, none⟩ = some (.int .i64 (n.kd)) := CB.cell n1 0
      have c6 : V1.cell? ⟨g1, 2, none⟩ = some (.int .i64 (n.tx)) := CB.cell n1 2
      have c7 : V1.cell? ⟨g1, 3, none⟩ = some (.int .i64 (n.ep)) := CB.cell n1 3
      have c8 : V1.cell? ⟨g1, 4, none⟩ = some (.int .i64 (n.vl)) := CB.cell n1 4
      go_wp2_with (first | ((with_reducible refine st_builtk0 23  ?_ ?_); exact built_q0) | (first | ((with_reducible refine st_part 23 _ g1 5 ?_ (pt := mgA n) n1 ?_ Try.underlying23 ?_ ?_ ?_); exact rfl; exact ntA_pmr _; exact rfl; exact Try.zMr) | ((with_reducible refine st_partG 23 _ g1 5 ?_ (pt := mgA n) n1 ?_ Try.underlying23 ?_ ?_ ?_ ?_); exact rfl; exact ntA_pmr _; exact rfl; exact Try.zMr; exact rfl)))
      (with_reducible refine (C1 _).mono ?_)
      rintro e w9 ⟨rfl, b9⟩
      clear c4 c5 c6 c7 c8
      have r11_n := le_on n1 b9
      have l11 := le_tr l3 b9
      clear n1 l3
      clear b9
      have c12 : w9.cell? ⟨g1, 1, none⟩ = some (.int .u8 (n.mb)) := CB.cell r11_n 1
      have c13 : w9.cell? ⟨g1, 0, none⟩ = some (.int .i64 (n.kd)) := CB.cell r11_n 0
      have c14 : w9.cell? ⟨g1, 2, none⟩ = some (.int .i64 (n.tx)) := CB.cell r11_n 2
      have c15 : w9.cell? ⟨g1, 3, none⟩ = some (.int .i64 (n.ep)) := CB.cell r11_n 3
      have c16 : w9.cell? ⟨g1, 4, none⟩ = some (.int .i64 (n.vl)) := CB.cell r11_n 4
      go_wp2_with (first | ((with_reducible refine st_builtk0 23  ?_ ?_); exact built_q0) | (first | ((with_reducible refine st_part 23 _ g1 5 ?_ (pt := mgA n) n1 ?_ Try.underlying23 ?_ ?_ ?_); exact rfl; exact ntA_pmr _; exact rfl; exact Try.zMr) | ((with_reducible refine st_partG 23 _ g1 5 ?_ (pt := mgA n) n1 ?_ Try.underlying23 ?_ ?_ ?_ ?_); exact rfl; exact ntA_pmr _; exact rfl; exact Try.zMr; exact rfl)))
      go_ret
      exact ⟨ret_bool H.out.symm, l11⟩
    have q1 : decide (EpN n.ep) = true := decide_eq_true f0
    by_cases f1 : n.vl = 2
    rotate_left
    · skip
      have H := Lib.hid (show decide (RightN n) = false by rw [decide_eq_false_iff_not]; simp only [RightN, MsgN, NoMsg, KindN, EpN] at *; omega)
      have q6 : (n.vl == 2) = false := by simp [f1]
      clear d0 d1 d2 d3 e0 k2 v1 f0 f1
      simp only [q1] at C1
      go_enter Try.func15, Try.ntmps15
      go_wp2_with (first | ((with_reducible refine st_box 25 _ (ntA n) ?_ ?_); exact rfl))
      refine ⟨fun V1 g1 n1 f1 => ?_⟩
      have up1 : w.heap.size ≤ g1 := Nat.le_of_eq f1.at_
      have bl1 := f1.bel
      clear f1
      have l3 := le_tr (Below.refl _ _) bl1
      clear bl1
      have c4 : V1.cell? ⟨g1, 1, none⟩ = some (.int .u8 (n.mb)) := CB.cell n1 1
      have c5 : V1.cell? ⟨g1, 0, none⟩ = some (.int .i64 (n.kd)) := CB.cell n1 0
      have c6 : V1.cell? ⟨g1, 2, none⟩ = some (.int .i64 (n.tx)) := CB.cell n1 2
      have c7 : V1.cell? ⟨g1, 3, none⟩ = some (.int .i64 (n.ep)) := CB.cell n1 3
      have c8 : V1.cell? ⟨g1, 4, none⟩ = some (.int .i64 (n.vl)) := CB.cell n1 4
      go_wp2_with (first | ((with_reducible refine st_builtk0 23  ?_ ?_); exact built_q0) | (first | ((with_reducible refine st_part 23 _ g1 5 ?_ (pt := mgA n) n1 ?_ Try.underlying23 ?_ ?_ ?_); exact rfl; exact ntA_pmr _; exact rfl; exact Try.zMr) | ((with_reducible refine st_partG 23 _ g1 5 ?_ (pt := mgA n) n1 ?_ Try.underlying23 ?_ ?_ ?_ ?_); exact rfl; exact ntA_pmr _; exact rfl; exact Try.zMr; exact rfl)))
      (with_reducible refine (C1 _).mono ?_)
      rintro e w9 ⟨rfl, b9⟩
      clear c4 c5 c6 c7 c8
      have r11_n := le_on n1 b9
      have l11 := le_tr l3 b9
      clear n1 l3
      clear b9
      have c12 : w9.cell? ⟨g1, 1, none⟩ = some (.int .u8 (n.mb)) := CB.cell r11_n 1
      have c13 : w9.cell? ⟨g1, 0, none⟩ = some (.int .i64 (n.kd)) := CB.cell r11_n 0
      have c14 : w9.cell? ⟨g1, 2, none⟩ = some (.int .i64 (n.tx)) := CB.cell r11_n 2
      have c15 : w9.cell? ⟨g1, 3, none⟩ = some (.int .i64 (n.ep)) := CB.cell r11_n 3
      have c16 : w9.cell? ⟨g1, 4, none⟩ = some (.int .i64 (n.vl)) := CB.cell r11_n 4
      go_wp2_with (first | ((with_reducible refine st_builtk0 23  ?_ ?_); exact built_q0) | (first | ((with_reducible refine st_part 23 _ g1 5 ?_ (pt := mgA n) n1 ?_ Try.underlying23 ?_ ?_ ?_); exact rfl; exact ntA_pmr _; exact rfl; exact Try.zMr) | ((with_reducible refine st_partG 23 _ g1 5 ?_ (pt := mgA n) n1 ?_ Try.underlying23 ?_ ?_ ?_ ?_); exact rfl; exact ntA_pmr _; exact rfl; exact Try.zMr; exact rfl)))
      go_ret
      exact ⟨ret_bool H.out.symm, l11⟩
    have q6 : (n.vl == 2) = true := by simp [f1]
    have H := Lib.hid (show decide (RightN n) = true by rw [decide_eq_true_iff]; simp only [RightN, MsgN, NoMsg, KindN, EpN] at *; omega)
    clear d0 d1 d2 d3 e0 k2 v1 f0 f1
    simp only [q1] at C1
    go_enter Try.func15, Try.ntmps15
    go_wp2_with (first | ((with_reducible refine st_box 25 _ (ntA n) ?_ ?_); exact rfl))
    refine ⟨fun V1 g1 n1 f1 => ?_⟩
    have up1 : w.heap.size ≤ g1 := Nat.le_of_eq f1.at_
    have bl1 := f1.bel
    clear f1
    have l3 := le_tr (Below.refl _ _) bl1
    clear bl1
    have c4 : V1.cell? ⟨g1, 1, none⟩ = some (.int .u8 (n.mb)) := CB.cell n1 1
    have c5 : V1.cell? ⟨g1, 0, none⟩ = some (.int .i64 (n.kd)) := CB.cell n1 0
    have c6 : V1.cell? ⟨g1, 2, none⟩ = some (.int .i64 (n.tx)) := CB.cell n1 2
    have c7 : V1.cell? ⟨g1, 3, none⟩ = some (.int .i64 (n.ep)) := CB.cell n1 3
    have c8 : V1.cell? ⟨g1, 4, none⟩ = some (.int .i64 (n.vl)) := CB.cell n1 4
    go_wp2_with (first | ((with_reducible refine st_builtk0 23  ?_ ?_); exact built_q0) | (first | ((with_reducible refine st_part 23 _ g1 5 ?_ (pt := mgA n) n1 ?_ Try.underlying23 ?_ ?_ ?_); exact rfl; exact ntA_pmr _; exact rfl; exact Try.zMr) | ((with_reducible refine st_partG 23 _ g1 5 ?_ (pt := mgA n) n1 ?_ Try.underlying23 ?_ ?_ ?_ ?_); exact rfl; exact ntA_pmr _; exact rfl; exact Try.zMr; exact rfl)))
    (with_reducible refine (C1 _).mono ?_)
    rintro e w9 ⟨rfl, b9⟩
    clear c4 c5 c6 c7 c8
    have r11_n := le_on n1 b9
    have l11 := le_tr l3 b9
    clear n1 l3
    clear b9
    have c12 : w9.cell? ⟨g1, 1, none⟩ = some (.int .u8 (n.mb)) := CB.cell r11_n 1
    have c13 : w9.cell? ⟨g1, 0, none⟩ = some (.int .i64 (n.kd)) := CB.cell r11_n 0
    have c14 : w9.cell? ⟨g1, 2, none⟩ = some (.int .i64 (n.tx)) := CB.cell r11_n 2
    have c15 : w9.cell? ⟨g1, 3, none⟩ = some (.int .i64 (n.ep)) := CB.cell r11_n 3
    have c16 : w9.cell? ⟨g1, 4, none⟩ = some (.int .i64 (n.vl)) := CB.cell r11_n 4
    go_wp2_with (first | ((with_reducible refine st_builtk0 23  ?_ ?_); exact built_q0) | (first | ((with_reducible refine st_part 23 _ g1 5 ?_ (pt := mgA n) n1 ?_ Try.underlying23 ?_ ?_ ?_); exact rfl; exact ntA_pmr _; exact rfl; exact Try.zMr) | ((with_reducible refine st_partG 23 _ g1 5 ?_ (pt := mgA n) n1 ?_ Try.underlying23 ?_ ?_ ?_ ?_); exact rfl; exact ntA_pmr _; exact rfl; exact Try.zMr; exact rfl)))
    go_ret
    exact ⟨ret_bool H.out.symm, l11⟩
  have y2 : (n.kd == 2) = false := by simp [k2]
  by_cases k3 : n.kd = 3
  · skip
    have y3 : (n.kd == 3) = true := by simp [k3]
    have C1 := fun W => ep_r n.ep W
    by_cases f0 : EpN n.ep
    rotate_left
    · skip
      have H := Lib.hid (show decide (RightN n) = false by rw [decide_eq_false_iff_not]; simp only [RightN, MsgN, NoMsg, KindN, EpN] at *; omega)
      have q1 : decide (EpN n.ep) = false := decide_eq_false f0
      clear d0 d1 d2 d3 e0 k2 k3 f0
      simp only [q1] at C1
      go_enter Try.func15, Try.ntmps15
      go_wp2_with (first | ((with_reducible refine st_box 25 _ (ntA n) ?_ ?_); exact rfl))
      refine ⟨fun V1 g1 n1 f1 => ?_⟩
      have up1 : w.heap.size ≤ g1 := Nat.le_of_eq f1.at_
      have bl1 := f1.bel
      clear f1
      have l3 := le_tr (Below.refl _ _) bl1
      clear bl1
      have c4 : V1.cell? ⟨g1, 1, none⟩ = some (.int .u8 (n.mb)) := CB.cell n1 1
      have c5 : V1.cell? ⟨g1, 0, none⟩ = some (.int .i64 (n.kd)) := CB.cell n1 0
      have c6 : V1.cell? ⟨g1, 2, none⟩ = some (.int .i64 (n.tx)) := CB.cell n1 2
      have c7 : V1.cell? ⟨g1, 3, none⟩ = some (.int .i64 (n.ep)) := CB.cell n1 3
      have c8 : V1.cell? ⟨g1, 4, none⟩ = some (.int .i64 (n.vl)) := CB.cell n1 4
      go_wp2_with (first | ((with_reducible refine st_builtk0 23  ?_ ?_); exact built_q0) | (first | ((with_reducible refine st_part 23 _ g1 5 ?_ (pt := mgA n) n1 ?_ Try.underlying23 ?_ ?_ ?_); exact rfl; exact ntA_pmr _; exact rfl; exact Try.zMr) | ((with_reducible refine st_partG 23 _ g1 5 ?_ (pt := mgA n) n1 ?_ Try.underlying23 ?_ ?_ ?_ ?_); exact rfl; exact ntA_pmr _; exact rfl; exact Try.zMr; exact rfl)))
      (with_reducible refine (C1 _).mono ?_)
      rintro e w9 ⟨rfl, b9⟩
      clear c4 c5 c6 c7 c8
      have r11_n := le_on n1 b9
      have l11 := le_tr l3 b9
      clear n1 l3
      clear b9
      have c12 : w9.cell? ⟨g1, 1, none⟩ = some (.int .u8 (n.mb)) := CB.cell r11_n 1
      have c13 : w9.cell? ⟨g1, 0, none⟩ = some (.int .i64 (n.kd)) := CB.cell r11_n 0
      have c14 : w9.cell? ⟨g1, 2, none⟩ = some (.int .i64 (n.tx)) := CB.cell r11_n 2
      have c15 : w9.cell? ⟨g1, 3, none⟩ = some (.int .i64 (n.ep)) := CB.cell r11_n 3
      have c16 : w9.cell? ⟨g1, 4, none⟩ = some (.int .i64 (n.vl)) := CB.cell r11_n 4
      go_wp2_with (first | ((with_reducible refine st_builtk0 23  ?_ ?_); exact built_q0) | (first | ((with_reducible refine st_part 23 _ g1 5 ?_ (pt := mgA n) n1 ?_ Try.underlying23 ?_ ?_ ?_); exact rfl; exact ntA_pmr _; exact rfl; exact Try.zMr) | ((with_reducible refine st_partG 23 _ g1 5 ?_ (pt := mgA n) n1 ?_ Try.underlying23 ?_ ?_ ?_ ?_); exact rfl; exact ntA_pmr _; exact rfl; exact Try.zMr; exact rfl)))
      go_ret
      exact ⟨ret_bool H.out.symm, l11⟩
    have q1 : decide (EpN n.ep) = true := decide_eq_true f0
    by_cases f1 : n.vl = 0
    rotate_left
    · skip
      have H := Lib.hid (show decide (RightN n) = false by rw [decide_eq_false_iff_not]; simp only [RightN, MsgN, NoMsg, KindN, EpN] at *; omega)
      have q6 : (n.vl == 0) = false := by simp [f1]
      clear d0 d1 d2 d3 e0 k2 k3 f0 f1
      simp only [q1] at C1
      go_enter Try.func15, Try.ntmps15
      go_wp2_with (first | ((with_reducible refine st_box 25 _ (ntA n) ?_ ?_); exact rfl))
      refine ⟨fun V1 g1 n1 f1 => ?_⟩
      have up1 : w.heap.size ≤ g1 := Nat.le_of_eq f1.at_
      have bl1 := f1.bel
      clear f1
      have l3 := le_tr (Below.refl _ _) bl1
      clear bl1
      have c4 : V1.cell? ⟨g1, 1, none⟩ = some (.int .u8 (n.mb)) := CB.cell n1 1
      have c5 : V1.cell? ⟨g1, 0, none⟩ = some (.int .i64 (n.kd)) := CB.cell n1 0
      have c6 : V1.cell? ⟨g1, 2, none⟩ = some (.int .i64 (n.tx)) := CB.cell n1 2
      have c7 : V1.cell? ⟨g1, 3, none⟩ = some (.int .i64 (n.ep)) := CB.cell n1 3
      have c8 : V1.cell? ⟨g1, 4, none⟩ = some (.int .i64 (n.vl)) := CB.cell n1 4
      go_wp2_with (first | ((with_reducible refine st_builtk0 23  ?_ ?_); exact built_q0) | (first | ((with_reducible refine st_part 23 _ g1 5 ?_ (pt := mgA n) n1 ?_ Try.underlying23 ?_ ?_ ?_); exact rfl; exact ntA_pmr _; exact rfl; exact Try.zMr) | ((with_reducible refine st_partG 23 _ g1 5 ?_ (pt := mgA n) n1 ?_ Try.underlying23 ?_ ?_ ?_ ?_); exact rfl; exact ntA_pmr _; exact rfl; exact Try.zMr; exact rfl)))
      (with_reducible refine (C1 _).mono ?_)
      rintro e w9 ⟨rfl, b9⟩
      clear c4 c5 c6 c7 c8
      have r11_n := le_on n1 b9
      have l11 := le_tr l3 b9
      clear n1 l3
      clear b9
      have c12 : w9.cell? ⟨g1, 1, none⟩ = some (.int .u8 (n.mb)) := CB.cell r11_n 1
      have c13 : w9.cell? ⟨g1, 0, none⟩ = some (.int .i64 (n.kd)) := CB.cell r11_n 0
      have c14 : w9.cell? ⟨g1, 2, none⟩ = some (.int .i64 (n.tx)) := CB.cell r11_n 2
      have c15 : w9.cell? ⟨g1, 3, none⟩ = some (.int .i64 (n.ep)) := CB.cell r11_n 3
      have c16 : w9.cell? ⟨g1, 4, none⟩ = some (.int .i64 (n.vl)) := CB.cell r11_n 4
      go_wp2_with (first | ((with_reducible refine st_builtk0 23  ?_ ?_); exact built_q0) | (first | ((with_reducible refine st_part 23 _ g1 5 ?_ (pt := mgA n) n1 ?_ Try.underlying23 ?_ ?_ ?_); exact rfl; exact ntA_pmr _; exact rfl; exact Try.zMr) | ((with_reducible refine st_partG 23 _ g1 5 ?_ (pt := mgA n) n1 ?_ Try.underlying23 ?_ ?_ ?_ ?_); exact rfl; exact ntA_pmr _; exact rfl; exact Try.zMr; exact rfl)))
      go_ret
      exact ⟨ret_bool H.out.symm, l11⟩
    have q6 : (n.vl == 0) = true := by simp [f1]
    have H := Lib.hid (show decide (RightN n) = true by rw [decide_eq_true_iff]; simp only [RightN, MsgN, NoMsg, KindN, EpN] at *; omega)
    clear d0 d1 d2 d3 e0 k2 k3 f0 f1
    simp only [q1] at C1
    go_enter Try.func15, Try.ntmps15
    go_wp2_with (first | ((with_reducible refine st_box 25 _ (ntA n) ?_ ?_); exact rfl))
    refine ⟨fun V1 g1 n1 f1 => ?_⟩
    have up1 : w.heap.size ≤ g1 := Nat.le_of_eq f1.at_
    have bl1 := f1.bel
    clear f1
    have l3 := le_tr (Below.refl _ _) bl1
    clear bl1
    have c4 : V1.cell? ⟨g1, 1, none⟩ = some (.int .u8 (n.mb)) := CB.cell n1 1
    have c5 : V1.cell? ⟨g1, 0, none⟩ = some (.int .i64 (n.kd)) := CB.cell n1 0
    have c6 : V1.cell? ⟨g1, 2, none⟩ = some (.int .i64 (n.tx)) := CB.cell n1 2
    have c7 : V1.cell? ⟨g1, 3, none⟩ = some (.int .i64 (n.ep)) := CB.cell n1 3
    have c8 : V1.cell? ⟨g1, 4, none⟩ = some (.int .i64 (n.vl)) := CB.cell n1 4
    go_wp2_with (first | ((with_reducible refine st_builtk0 23  ?_ ?_); exact built_q0) | (first | ((with_reducible refine st_part 23 _ g1 5 ?_ (pt := mgA n) n1 ?_ Try.underlying23 ?_ ?_ ?_); exact rfl; exact ntA_pmr _; exact rfl; exact Try.zMr) | ((with_reducible refine st_partG 23 _ g1 5 ?_ (pt := mgA n) n1 ?_ Try.underlying23 ?_ ?_ ?_ ?_); exact rfl; exact ntA_pmr _; exact rfl; exact Try.zMr; exact rfl)))
    (with_reducible refine (C1 _).mono ?_)
    rintro e w9 ⟨rfl, b9⟩
    clear c4 c5 c6 c7 c8
    have r11_n := le_on n1 b9
    have l11 := le_tr l3 b9
    clear n1 l3
    clear b9
    have c12 : w9.cell? ⟨g1, 1, none⟩ = some (.int .u8 (n.mb)) := CB.cell r11_n 1
    have c13 : w9.cell? ⟨g1, 0, none⟩ = some (.int .i64 (n.kd)) := CB.cell r11_n 0
    have c14 : w9.cell? ⟨g1, 2, none⟩ = some (.int .i64 (n.tx)) := CB.cell r11_n 2
    have c15 : w9.cell? ⟨g1, 3, none⟩ = some (.int .i64 (n.ep)) := CB.cell r11_n 3
    have c16 : w9.cell? ⟨g1, 4, none⟩ = some (.int .i64 (n.vl)) := CB.cell r11_n 4
    go_wp2_with (first | ((with_reducible refine st_builtk0 23  ?_ ?_); exact built_q0) | (first | ((with_reducible refine st_part 23 _ g1 5 ?_ (pt := mgA n) n1 ?_ Try.underlying23 ?_ ?_ ?_); exact rfl; exact ntA_pmr _; exact rfl; exact Try.zMr) | ((with_reducible refine st_partG 23 _ g1 5 ?_ (pt := mgA n) n1 ?_ Try.underlying23 ?_ ?_ ?_ ?_); exact rfl; exact ntA_pmr _; exact rfl; exact Try.zMr; exact rfl)))
    go_ret
    exact ⟨ret_bool H.out.symm, l11⟩
  have y3 : (n.kd == 3) = false := by simp [k3]
  by_cases k4 : n.kd = 4
  · skip
    have y4 : (n.kd == 4) = true := by simp [k4]
    by_cases f0 : n.ep = 0
    rotate_left
    · skip
      have H := Lib.hid (show decide (RightN n) = false by rw [decide_eq_false_iff_not]; simp only [RightN, MsgN, NoMsg, KindN, EpN] at *; omega)
      have q1 : (n.ep == 0) = false := by simp [f0]
      clear d0 d1 d2 d3 e0 k2 k3 k4 f0
      go_enter Try.func15, Try.ntmps15
      go_wp2_with (first | ((with_reducible refine st_box 25 _ (ntA n) ?_ ?_); exact rfl))
      refine ⟨fun V1 g1 n1 f1 => ?_⟩
      have up1 : w.heap.size ≤ g1 := Nat.le_of_eq f1.at_
      have bl1 := f1.bel
      clear f1
      have l3 := le_tr (Below.refl _ _) bl1
      clear bl1
      have c4 : V1.cell? ⟨g1, 1, none⟩ = some (.int .u8 (n.mb)) := CB.cell n1 1
      have c5 : V1.cell? ⟨g1, 0, none⟩ = some (.int .i64 (n.kd)) := CB.cell n1 0
      have c6 : V1.cell? ⟨g1, 2, none⟩ = some (.int .i64 (n.tx)) := CB.cell n1 2
      have c7 : V1.cell? ⟨g1, 3, none⟩ = some (.int .i64 (n.ep)) := CB.cell n1 3
      have c8 : V1.cell? ⟨g1, 4, none⟩ = some (.int .i64 (n.vl)) := CB.cell n1 4
      go_wp2_with (first | ((with_reducible refine st_builtk0 23  ?_ ?_); exact built_q0) | (first | ((with_reducible refine st_part 23 _ g1 5 ?_ (pt := mgA n) n1 ?_ Try.underlying23 ?_ ?_ ?_); exact rfl; exact ntA_pmr _; exact rfl; exact Try.zMr) | ((with_reducible refine st_partG 23 _ g1 5 ?_ (pt := mgA n) n1 ?_ Try.underlying23 ?_ ?_ ?_ ?_); exact rfl; exact ntA_pmr _; exact rfl; exact Try.zMr; exact rfl)))
      go_ret
      exact ⟨ret_bool H.out.symm, l3⟩
    have q1 : (n.ep == 0) = true := by simp [f0]
    by_cases f1 : n.vl = 0
    rotate_left
    · skip
      have H := Lib.hid (show decide (RightN n) = false by rw [decide_eq_false_iff_not]; simp only [RightN, MsgN, NoMsg, KindN, EpN] at *; omega)
      have q6 : (n.vl == 0) = false := by simp [f1]
      clear d0 d1 d2 d3 e0 k2 k3 k4 f0 f1
      go_enter Try.func15, Try.ntmps15
      go_wp2_with (first | ((with_reducible refine st_box 25 _ (ntA n) ?_ ?_); exact rfl))
      refine ⟨fun V1 g1 n1 f1 => ?_⟩
      have up1 : w.heap.size ≤ g1 := Nat.le_of_eq f1.at_
      have bl1 := f1.bel
      clear f1
      have l3 := le_tr (Below.refl _ _) bl1
      clear bl1
      have c4 : V1.cell? ⟨g1, 1, none⟩ = some (.int .u8 (n.mb)) := CB.cell n1 1
      have c5 : V1.cell? ⟨g1, 0, none⟩ = some (.int .i64 (n.kd)) := CB.cell n1 0
      have c6 : V1.cell? ⟨g1, 2, none⟩ = some (.int .i64 (n.tx)) := CB.cell n1 2
      have c7 : V1.cell? ⟨g1, 3, none⟩ = some (.int .i64 (n.ep)) := CB.cell n1 3
      have c8 : V1.cell? ⟨g1, 4, none⟩ = some (.int .i64 (n.vl)) := CB.cell n1 4
      go_wp2_with (first | ((with_reducible refine st_builtk0 23  ?_ ?_); exact built_q0) | (first | ((with_reducible refine st_part 23 _ g1 5 ?_ (pt := mgA n) n1 ?_ Try.underlying23 ?_ ?_ ?_); exact rfl; exact ntA_pmr _; exact rfl; exact Try.zMr) | ((with_reducible refine st_partG 23 _ g1 5 ?_ (pt := mgA n) n1 ?_ Try.underlying23 ?_ ?_ ?_ ?_); exact rfl; exact ntA_pmr _; exact rfl; exact Try.zMr; exact rfl)))
      go_ret
      exact ⟨ret_bool H.out.symm, l3⟩
    have q6 : (n.vl == 0) = true := by simp [f1]
    have H := Lib.hid (show decide (RightN n) = true by rw [decide_eq_true_iff]; simp only [RightN, MsgN, NoMsg, KindN, EpN] at *; omega)
    clear d0 d1 d2 d3 e0 k2 k3 k4 f0 f1
    go_enter Try.func15, Try.ntmps15
    go_wp2_with (first | ((with_reducible refine st_box 25 _ (ntA n) ?_ ?_); exact rfl))
    refine ⟨fun V1 g1 n1 f1 => ?_⟩
    have up1 : w.heap.size ≤ g1 := Nat.le_of_eq f1.at_
    have bl1 := f1.bel
    clear f1
    have l3 := le_tr (Below.refl _ _) bl1
    clear bl1
    have c4 : V1.cell? ⟨g1, 1, none⟩ = some (.int .u8 (n.mb)) := CB.cell n1 1
    have c5 : V1.cell? ⟨g1, 0, none⟩ = some (.int .i64 (n.kd)) := CB.cell n1 0
    have c6 : V1.cell? ⟨g1, 2, none⟩ = some (.int .i64 (n.tx)) := CB.cell n1 2
    have c7 : V1.cell? ⟨g1, 3, none⟩ = some (.int .i64 (n.ep)) := CB.cell n1 3
    have c8 : V1.cell? ⟨g1, 4, none⟩ = some (.int .i64 (n.vl)) := CB.cell n1 4
    go_wp2_with (first | ((with_reducible refine st_builtk0 23  ?_ ?_); exact built_q0) | (first | ((with_reducible refine st_part 23 _ g1 5 ?_ (pt := mgA n) n1 ?_ Try.underlying23 ?_ ?_ ?_); exact rfl; exact ntA_pmr _; exact rfl; exact Try.zMr) | ((with_reducible refine st_partG 23 _ g1 5 ?_ (pt := mgA n) n1 ?_ Try.underlying23 ?_ ?_ ?_ ?_); exact rfl; exact ntA_pmr _; exact rfl; exact Try.zMr; exact rfl)))
    go_ret
    exact ⟨ret_bool H.out.symm, l3⟩
  have y4 : (n.kd == 4) = false := by simp [k4]
  by_cases k5 : n.kd = 5
  · skip
    have y5 : (n.kd == 5) = true := by simp [k5]
    by_cases f0 : n.ep = 0
    rotate_left
    · skip
      have H := Lib.hid (show decide (RightN n) = false by rw [decide_eq_false_iff_not]; simp only [RightN, MsgN, NoMsg, KindN, EpN] at *; omega)
      have q1 : (n.ep == 0) = false := by simp [f0]
      clear d0 d1 d2 d3 e0 k2 k3 k4 k5 f0
      go_enter Try.func15, Try.ntmps15
      go_wp2_with (first | ((with_reducible refine st_box 25 _ (ntA n) ?_ ?_); exact rfl))
      refine ⟨fun V1 g1 n1 f1 => ?_⟩
      have up1 : w.heap.size ≤ g1 := Nat.le_of_eq f1.at_
      have bl1 := f1.bel
      clear f1
      have l3 := le_tr (Below.refl _ _) bl1
      clear bl1
      have c4 : V1.cell? ⟨g1, 1, none⟩ = some (.int .u8 (n.mb)) := CB.cell n1 1
      have c5 : V1.cell? ⟨g1, 0, none⟩ = some (.int .i64 (n.kd)) := CB.cell n1 0
      have c6 : V1.cell? ⟨g1, 2, none⟩ = some (.int .i64 (n.tx)) := CB.cell n1 2
      have c7 : V1.cell? ⟨g1, 3, none⟩ = some (.int .i64 (n.ep)) := CB.cell n1 3
      have c8 : V1.cell? ⟨g1, 4, none⟩ = some (.int .i64 (n.vl)) := CB.cell n1 4
      go_wp2_with (first | ((with_reducible refine st_builtk0 23  ?_ ?_); exact built_q0) | (first | ((with_reducible refine st_part 23 _ g1 5 ?_ (pt := mgA n) n1 ?_ Try.underlying23 ?_ ?_ ?_); exact rfl; exact ntA_pmr _; exact rfl; exact Try.zMr) | ((with_reducible refine st_partG 23 _ g1 5 ?_ (pt := mgA n) n1 ?_ Try.underlying23 ?_ ?_ ?_ ?_); exact rfl; exact ntA_pmr _; exact rfl; exact Try.zMr; exact rfl)))
      go_ret
      exact ⟨ret_bool H.out.symm, l3⟩
    have q1 : (n.ep == 0) = true := by simp [f0]
    by_cases f1 : 0 ≤ n.vl
    rotate_left
    · skip
      have H := Lib.hid (show decide (RightN n) = false by rw [decide_eq_false_iff_not]; simp only [RightN, MsgN, NoMsg, KindN, EpN] at *; omega)
      have q6 : decide (0 ≤ n.vl) = false := decide_eq_false f1
      clear d0 d1 d2 d3 e0 k2 k3 k4 k5 f0 f1
      go_enter Try.func15, Try.ntmps15
      go_wp2_with (first | ((with_reducible refine st_box 25 _ (ntA n) ?_ ?_); exact rfl))
      refine ⟨fun V1 g1 n1 f1 => ?_⟩
      have up1 : w.heap.size ≤ g1 := Nat.le_of_eq f1.at_
      have bl1 := f1.bel
      clear f1
      have l3 := le_tr (Below.refl _ _) bl1
      clear bl1
      have c4 : V1.cell? ⟨g1, 1, none⟩ = some (.int .u8 (n.mb)) := CB.cell n1 1
      have c5 : V1.cell? ⟨g1, 0, none⟩ = some (.int .i64 (n.kd)) := CB.cell n1 0
      have c6 : V1.cell? ⟨g1, 2, none⟩ = some (.int .i64 (n.tx)) := CB.cell n1 2
      have c7 : V1.cell? ⟨g1, 3, none⟩ = some (.int .i64 (n.ep)) := CB.cell n1 3
      have c8 : V1.cell? ⟨g1, 4, none⟩ = some (.int .i64 (n.vl)) := CB.cell n1 4
      go_wp2_with (first | ((with_reducible refine st_builtk0 23  ?_ ?_); exact built_q0) | (first | ((with_reducible refine st_part 23 _ g1 5 ?_ (pt := mgA n) n1 ?_ Try.underlying23 ?_ ?_ ?_); exact rfl; exact ntA_pmr _; exact rfl; exact Try.zMr) | ((with_reducible refine st_partG 23 _ g1 5 ?_ (pt := mgA n) n1 ?_ Try.underlying23 ?_ ?_ ?_ ?_); exact rfl; exact ntA_pmr _; exact rfl; exact Try.zMr; exact rfl)))
      go_ret
      exact ⟨ret_bool H.out.symm, l3⟩
    have q6 : decide (0 ≤ n.vl) = true := decide_eq_true f1
    by_cases f2 : n.vl ≤ 2
    rotate_left
    · skip
      have H := Lib.hid (show decide (RightN n) = false by rw [decide_eq_false_iff_not]; simp only [RightN, MsgN, NoMsg, KindN, EpN] at *; omega)
      have q7 : decide (n.vl ≤ 2) = false := decide_eq_false f2
      clear d0 d1 d2 d3 e0 k2 k3 k4 k5 f0 f1 f2
      go_enter Try.func15, Try.ntmps15
      go_wp2_with (first | ((with_reducible refine st_box 25 _ (ntA n) ?_ ?_); exact rfl))
      refine ⟨fun V1 g1 n1 f1 => ?_⟩
      have up1 : w.heap.size ≤ g1 := Nat.le_of_eq f1.at_
      have bl1 := f1.bel
      clear f1
      have l3 := le_tr (Below.refl _ _) bl1
      clear bl1
      have c4 : V1.cell? ⟨g1, 1, none⟩ = some (.int .u8 (n.mb)) := CB.cell n1 1
      have c5 : V1.cell? ⟨g1, 0, none⟩ = some (.int .i64 (n.kd)) := CB.cell n1 0
      have c6 : V1.cell? ⟨g1, 2, none⟩ = some (.int .i64 (n.tx)) := CB.cell n1 2
      have c7 : V1.cell? ⟨g1, 3, none⟩ = some (.int .i64 (n.ep)) := CB.cell n1 3
      have c8 : V1.cell? ⟨g1, 4, none⟩ = some (.int .i64 (n.vl)) := CB.cell n1 4
      go_wp2_with (first | ((with_reducible refine st_builtk0 23  ?_ ?_); exact built_q0) | (first | ((with_reducible refine st_part 23 _ g1 5 ?_ (pt := mgA n) n1 ?_ Try.underlying23 ?_ ?_ ?_); exact rfl; exact ntA_pmr _; exact rfl; exact Try.zMr) | ((with_reducible refine st_partG 23 _ g1 5 ?_ (pt := mgA n) n1 ?_ Try.underlying23 ?_ ?_ ?_ ?_); exact rfl; exact ntA_pmr _; exact rfl; exact Try.zMr; exact rfl)))
      go_ret
      exact ⟨ret_bool H.out.symm, l3⟩
    have q7 : decide (n.vl ≤ 2) = true := decide_eq_true f2
    have H := Lib.hid (show decide (RightN n) = true by rw [decide_eq_true_iff]; simp only [RightN, MsgN, NoMsg, KindN, EpN] at *; omega)
    clear d0 d1 d2 d3 e0 k2 k3 k4 k5 f0 f1 f2
    go_enter Try.func15, Try.ntmps15
    go_wp2_with (first | ((with_reducible refine st_box 25 _ (ntA n) ?_ ?_); exact rfl))
    refine ⟨fun V1 g1 n1 f1 => ?_⟩
    have up1 : w.heap.size ≤ g1 := Nat.le_of_eq f1.at_
    have bl1 := f1.bel
    clear f1
    have l3 := le_tr (Below.refl _ _) bl1
    clear bl1
    have c4 : V1.cell? ⟨g1, 1, none⟩ = some (.int .u8 (n.mb)) := CB.cell n1 1
    have c5 : V1.cell? ⟨g1, 0, none⟩ = some (.int .i64 (n.kd)) := CB.cell n1 0
    have c6 : V1.cell? ⟨g1, 2, none⟩ = some (.int .i64 (n.tx)) := CB.cell n1 2
    have c7 : V1.cell? ⟨g1, 3, none⟩ = some (.int .i64 (n.ep)) := CB.cell n1 3
    have c8 : V1.cell? ⟨g1, 4, none⟩ = some (.int .i64 (n.vl)) := CB.cell n1 4
    go_wp2_with (first | ((with_reducible refine st_builtk0 23  ?_ ?_); exact built_q0) | (first | ((with_reducible refine st_part 23 _ g1 5 ?_ (pt := mgA n) n1 ?_ Try.underlying23 ?_ ?_ ?_); exact rfl; exact ntA_pmr _; exact rfl; exact Try.zMr) | ((with_reducible refine st_partG 23 _ g1 5 ?_ (pt := mgA n) n1 ?_ Try.underlying23 ?_ ?_ ?_ ?_); exact rfl; exact ntA_pmr _; exact rfl; exact Try.zMr; exact rfl)))
    go_ret
    exact ⟨ret_bool H.out.symm, l3⟩
  have y5 : (n.kd == 5) = false := by simp [k5]
  have H := Lib.hid (show decide (RightN n) = false by rw [decide_eq_false_iff_not]; simp only [RightN, MsgN, NoMsg, KindN, EpN] at *; omega)
  clear d0 d1 d2 d3 e0 k2 k3 k4 k5
  go_enter Try.func15, Try.ntmps15
  go_wp2_with (first | ((with_reducible refine st_box 25 _ (ntA n) ?_ ?_); exact rfl))
  refine ⟨fun V1 g1 n1 f1 => ?_⟩
  have up1 : w.heap.size ≤ g1 := Nat.le_of_eq f1.at_
  have bl1 := f1.bel
  clear f1
  have l3 := le_tr (Below.refl _ _) bl1
  clear bl1
  have c4 : V1.cell? ⟨g1, 1, none⟩ = some (.int .u8 (n.mb)) := CB.cell n1 1
  have c5 : V1.cell? ⟨g1, 0, none⟩ = some (.int .i64 (n.kd)) := CB.cell n1 0
  have c6 : V1.cell? ⟨g1, 2, none⟩ = some (.int .i64 (n.tx)) := CB.cell n1 2
  have c7 : V1.cell? ⟨g1, 3, none⟩ = some (.int .i64 (n.ep)) := CB.cell n1 3
  have c8 : V1.cell? ⟨g1, 4, none⟩ = some (.int .i64 (n.vl)) := CB.cell n1 4
  go_wp2_with (first | ((with_reducible refine st_builtk0 23  ?_ ?_); exact built_q0) | (first | ((with_reducible refine st_part 23 _ g1 5 ?_ (pt := mgA n) n1 ?_ Try.underlying23 ?_ ?_ ?_); exact rfl; exact ntA_pmr _; exact rfl; exact Try.zMr) | ((with_reducible refine st_partG 23 _ g1 5 ?_ (pt := mgA n) n1 ?_ Try.underlying23 ?_ ?_ ?_ ?_); exact rfl; exact ntA_pmr _; exact rfl; exact Try.zMr; exact rfl)))
  go_ret
  exact ⟨ret_bool H.out.symm, l3⟩
end Go.Proofs.Ytbkfepgcnijlfaa
