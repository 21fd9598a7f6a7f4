/-
  The walk of LedgerGroup: it returns true. Condition: the deltas can be read and are such as a program can have.
-/
import Derived.Test.YtdekijaognfjcaaLgH
set_option linter.unusedVariables false
set_option linter.unusedSimpArgs false
namespace Go.Proofs.Ytdekijaognfjcaa
open Go.RowKit

set_option maxRecDepth 100000 in
set_option maxHeartbeats 4000000 in
theorem group_walk (A : Option Addr) (n c : Nat) (A' : Option Addr) (n' c' : Nat) (A'' : Option Addr) (n'' c'' : Nat) (L M K : List Dl) (w : World) (h : DR w A n c L) (h' : DR w A' n' c' M) (h'' : DR w A'' n'' c'' K) (wL : WfL L) (wM : WfL M) (wK : WfL K) :
    Calls Try.prog 5 #[.slice A n c, .slice A' n' c', .slice A'' n'' c''] w fun e w' => e = .returned (.bool true) ∧ Below w.heap.size w w' := by
  have WL := Lib.hid wL
  have WM := Lib.hid wM
  have WK := Lib.hid wK
  have hmx : n ≤ maxLen := Nat.le_trans h.cap h.max
  have hmx' : n' ≤ maxLen := Nat.le_trans h'.cap h'.max
  have hmx'' : n'' ≤ maxLen := Nat.le_trans h''.cap h''.max
  simp only [maxLen] at hmx hmx' hmx''
  clear wL wM wK
  go_enter Try.func5, Try.ntmps5
  have hc := alive_c w
  go_wp2_with fail
  refine hc.mono ?_
  rintro e w1 ⟨rfl, b1⟩
  have r1_a := h.on b1
  have r1_b := h'.on b1
  have r1_c := h''.on b1
  have l1 := b1
  clear hc b1 
  by_cases hbign : 100 < n
  · have hbi : (100 : Int) < (n : Int) := by omega
    go_wp2_with fail
    go_ret
    exact ⟨rfl, l1⟩
  have hbin : ¬ (100 : Int) < (n : Int) := by omega
  have hnn : n ≤ 100000 := by omega
  by_cases hbign_ : 100 < n'
  · have hbi : (100 : Int) < (n' : Int) := by omega
    go_wp2_with fail
    go_ret
    exact ⟨rfl, l1⟩
  have hbin_ : ¬ (100 : Int) < (n' : Int) := by omega
  have hnn_ : n' ≤ 100000 := by omega
  by_cases hbign__ : 100 < n''
  · have hbi : (100 : Int) < (n'' : Int) := by omega
    go_wp2_with fail
    go_ret
    exact ⟨rfl, l1⟩
  have hbin__ : ¬ (100 : Int) < (n'' : Int) := by omega
  have hnn__ : n'' ≤ 100000 := by omega
  have hc := rightR_c A n c L w1 r1_a hnn
  go_wp2_with fail
  refine hc.mono ?_
  rintro e w2 ⟨rfl, b2⟩
  have r2_a := r1_a.on b2
  have r2_b := r1_b.on b2
  have r2_c := r1_c.on b2
  have l2 := bel2 l1 b2
  clear hc b2 r1_a r1_b r1_c l1
  rcases (show rightB L = false ∨ rightB L = true by cases rightB L <;> simp) with hg | hg
  · rw [hg]
    go_wp2_with fail
    go_ret
    exact ⟨rfl, l2⟩
  rw [hg]
  have RL := Lib.hid (rightB_iff.1 hg)
  clear hg
  have hc := rightR_c A' n' c' M w2 r2_b hnn_
  go_wp2_with fail
  refine hc.mono ?_
  rintro e w3 ⟨rfl, b3⟩
  have r3_a := r2_a.on b3
  have r3_b := r2_b.on b3
  have r3_c := r2_c.on b3
  have l3 := bel2 l2 b3
  clear hc b3 r2_a r2_b r2_c l2
  rcases (show rightB M = false ∨ rightB M = true by cases rightB M <;> simp) with hg | hg
  · rw [hg]
    go_wp2_with fail
    go_ret
    exact ⟨rfl, l3⟩
  rw [hg]
  have RM := Lib.hid (rightB_iff.1 hg)
  clear hg
  have hc := rightR_c A'' n'' c'' K w3 r3_c hnn__
  go_wp2_with fail
  refine hc.mono ?_
  rintro e w4 ⟨rfl, b4⟩
  have r4_a := r3_a.on b4
  have r4_b := r3_b.on b4
  have r4_c := r3_c.on b4
  have l4 := bel2 l3 b4
  clear hc b4 r3_a r3_b r3_c l3
  rcases (show rightB K = false ∨ rightB K = true by cases rightB K <;> simp) with hg | hg
  · rw [hg]
    go_wp2_with fail
    go_ret
    exact ⟨rfl, l4⟩
  rw [hg]
  have RK := Lib.hid (rightB_iff.1 hg)
  clear hg
  have hc := sum_c A n c L A' n' c' M w4 r4_a r4_b hnn hnn_ WL.out WM.out
  rw [(sum_ok RL.out RM.out).1] at hc
  rw [(sum_ok RL.out RM.out).2] at hc
  go_wp2_with fail
  refine hc.mono ?_
  rintro e w5 ⟨A5, n5, c5, rfl, x5, b5⟩
  have r5_a := r4_a.on b5
  have r5_b := r4_b.on b5
  have r5_c := r4_c.on b5
  have l5 := bel2 l4 b5
  have m5 : n5 ≤ 100000 := by rw [← x5.len]; exact Nat.le_trans (len_of _) (by omega)
  clear hc b5 r4_a r4_b r4_c l4
  have hc := sum_c A' n' c' M A n c L w5 r5_b r5_a hnn_ hnn WM.out WL.out
  rw [(sum_ok RM.out RL.out).1] at hc
  rw [(sum_ok RM.out RL.out).2] at hc
  go_wp2_with fail
  refine hc.mono ?_
  rintro e w6 ⟨A6, n6, c6, rfl, x6, b6⟩
  have r6_a := r5_a.on b6
  have r6_b := r5_b.on b6
  have r6_c := r5_c.on b6
  have r6_ab := x5.on b6
  have l6 := bel2 l5 b6
  have m6 : n6 ≤ 100000 := by rw [← x6.len]; exact Nat.le_trans (len_of _) (by omega)
  clear hc b6 r5_a r5_b r5_c x5 l5
  have hc := sum_c A' n' c' M A'' n'' c'' K w6 r6_b r6_c hnn_ hnn__ WM.out WK.out
  rw [(sum_ok RM.out RK.out).1] at hc
  rw [(sum_ok RM.out RK.out).2] at hc
  go_wp2_with fail
  refine hc.mono ?_
  rintro e w7 ⟨A7, n7, c7, rfl, x7, b7⟩
  have r7_a := r6_a.on b7
  have r7_b := r6_b.on b7
  have r7_c := r6_c.on b7
  have r7_ab := r6_ab.on b7
  have r7_ba := x6.on b7
  have l7 := bel2 l6 b7
  have m7 : n7 ≤ 100000 := by rw [← x7.len]; exact Nat.le_trans (len_of _) (by omega)
  clear hc b7 r6_a r6_b r6_c r6_ab x6 l6
  have hc := sum_c A5 n5 c5 (ofD (L ++ M)) A'' n'' c'' K w7 r7_ab r7_c m5 hnn__ (wf_of _) WK.out
  rw [(sum_ok (right_of _) RK.out).1] at hc
  rw [(sum_ok (right_of _) RK.out).2] at hc
  go_wp2_with fail
  refine hc.mono ?_
  rintro e w8 ⟨A8, n8, c8, rfl, x8, b8⟩
  have r8_a := r7_a.on b8
  have r8_b := r7_b.on b8
  have r8_c := r7_c.on b8
  have r8_ab := r7_ab.on b8
  have r8_ba := r7_ba.on b8
  have r8_bc := x7.on b8
  have l8 := bel2 l7 b8
  have m8 : n8 ≤ 100000 := by rw [← x8.len]; exact Nat.le_trans (len_of _) (by omega)
  clear hc b8 r7_a r7_b r7_c r7_ab r7_ba x7 l7
  have hc := sum_c A n c L A7 n7 c7 (ofD (M ++ K)) w8 r8_a r8_bc hnn m7 WL.out (wf_of _)
  rw [(sum_ok RL.out (right_of _)).1] at hc
  rw [(sum_ok RL.out (right_of _)).2] at hc
  go_wp2_with fail
  refine hc.mono ?_
  rintro e w9 ⟨A9, n9, c9, rfl, x9, b9⟩
  have r9_a := r8_a.on b9
  have r9_b := r8_b.on b9
  have r9_c := r8_c.on b9
  have r9_ab := r8_ab.on b9
  have r9_ba := r8_ba.on b9
  have r9_bc := r8_bc.on b9
  have r9_x := x8.on b9
  have l9 := bel2 l8 b9
  have m9 : n9 ≤ 100000 := by rw [← x9.len]; exact Nat.le_trans (len_of _) (by omega)
  clear hc b9 r8_a r8_b r8_c r8_ab r8_ba r8_bc x8 l8
  have hc := less_c A n c L w9 r9_a hnn
  rw [(less_ok RL.out).1] at hc
  rw [(less_ok RL.out).2] at hc
  go_wp2_with fail
  refine hc.mono ?_
  rintro e w10 ⟨A10, n10, c10, rfl, x10, b10⟩
  have r10_a := r9_a.on b10
  have r10_b := r9_b.on b10
  have r10_c := r9_c.on b10
  have r10_ab := r9_ab.on b10
  have r10_ba := r9_ba.on b10
  have r10_bc := r9_bc.on b10
  have r10_x := r9_x.on b10
  have r10_y := x9.on b10
  have l10 := bel2 l9 b10
  have m10 : n10 ≤ 100000 := by rw [← x10.len]; exact (by rw [List.length_map, r9_a.len]; exact hnn)
  clear hc b10 r9_a r9_b r9_c r9_ab r9_ba r9_bc r9_x x9 l9
  have hc := sum_c A n c L A10 n10 c10 (L.map negD) w10 r10_a x10 hnn m10 WL.out (wf_neg WL.out)
  rw [(sum_ok RL.out (right_neg RL.out WL.out)).1] at hc
  rw [(sum_ok RL.out (right_neg RL.out WL.out)).2] at hc
  go_wp2_with fail
  refine hc.mono ?_
  rintro e w11 ⟨A11, n11, c11, rfl, x11, b11⟩
  have r11_a := r10_a.on b11
  have r11_b := r10_b.on b11
  have r11_c := r10_c.on b11
  have r11_ab := r10_ab.on b11
  have r11_ba := r10_ba.on b11
  have r11_bc := r10_bc.on b11
  have r11_x := r10_x.on b11
  have r11_y := r10_y.on b11
  have r11_m := x10.on b11
  have l11 := bel2 l10 b11
  have m11 : n11 ≤ 100000 := by rw [← x11.len]; exact Nat.le_trans (len_of _) (by omega)
  clear hc b11 r10_a r10_b r10_c r10_ab r10_ba r10_bc r10_x r10_y x10 l10
  rw [of_opp] at x11
  obtain rfl : n11 = 0 := x11.len.symm
  rw [of_comm] at r11_ba
  rw [of_left, List.append_assoc] at r11_x
  rw [of_right] at r11_y
  have hc := same_c A5 A6 n5 c5 n6 c6 _ w11 r11_ab r11_ba
  go_wp2_with fail
  refine hc.mono ?_
  rintro e w12 ⟨rfl, b12⟩
  have r12_a := r11_a.on b12
  have r12_b := r11_b.on b12
  have r12_c := r11_c.on b12
  have r12_ab := r11_ab.on b12
  have r12_ba := r11_ba.on b12
  have r12_bc := r11_bc.on b12
  have r12_x := r11_x.on b12
  have r12_y := r11_y.on b12
  have r12_m := r11_m.on b12
  have r12_z := x11.on b12
  have l12 := bel2 l11 b12
  clear hc b12 r11_a r11_b r11_c r11_ab r11_ba r11_bc r11_x r11_y r11_m x11 l11
  have hc := same_c A8 A9 n8 c8 n9 c9 _ w12 r12_x r12_y
  go_wp2_with fail
  refine hc.mono ?_
  rintro e w13 ⟨rfl, b13⟩
  have r13_a := r12_a.on b13
  have r13_b := r12_b.on b13
  have r13_c := r12_c.on b13
  have r13_ab := r12_ab.on b13
  have r13_ba := r12_ba.on b13
  have r13_bc := r12_bc.on b13
  have r13_x := r12_x.on b13
  have r13_y := r12_y.on b13
  have r13_m := r12_m.on b13
  have r13_z := r12_z.on b13
  have l13 := bel2 l12 b13
  clear hc b13 r12_a r12_b r12_c r12_ab r12_ba r12_bc r12_x r12_y r12_m r12_z l12
  go_wp2_with fail
  go_ret
  exact ⟨rfl, l13⟩
end Go.Proofs.Ytdekijaognfjcaa
