/-
  The walk of LedgerGets: it returns true. Condition: the deltas can be read and are such as a program can have.
-/
import Derived.Test.YtdekijaognfjcaaLgH
set_option linter.unusedVariables false
set_option linter.unusedSimpArgs false
namespace Go.Proofs.Ytdekijaognfjcaa
open Go.RowKit

set_option maxRecDepth 100000 in
set_option maxHeartbeats 4000000 in
theorem gets_walk (A : Option Addr) (n c : Nat) (A' : Option Addr) (n' c' : Nat) (key : Int) (L M : List Dl) (w : World) (h : DR w A n c L) (h' : DR w A' n' c' M) (wL : WfL L) (wM : WfL M) :
    Calls Try.prog 7 #[.slice A n c, .slice A' n' c', .int .u8 key] w fun e w' => e = .returned (.bool true) ∧ Below w.heap.size w w' := by
  have WL := Lib.hid wL
  have WM := Lib.hid wM
  have hmx : n ≤ maxLen := Nat.le_trans h.cap h.max
  have hmx' : n' ≤ maxLen := Nat.le_trans h'.cap h'.max
  simp only [maxLen] at hmx hmx'
  clear wL wM
  go_enter Try.func7, Try.ntmps7
  have hc := alive_c w
  go_wp2_with fail
  refine hc.mono ?_
  rintro e w1 ⟨rfl, b1⟩
  have r1_a := h.on b1
  have r1_b := h'.on b1
  have l1 := b1
  clear hc b1 
  by_cases hbign : 100 < n
  · have hbi : (100 : Int) < (n : Int) := by omega
    go_wp2_with fail
    go_ret
    exact ⟨rfl, l1⟩
  have hbin : ¬ (100 : Int) < (n : Int) := by omega
  have hnn : n ≤ 100000 := by omega
  by_cases hbign_ : 100 < n'
  · have hbi : (100 : Int) < (n' : Int) := by omega
    go_wp2_with fail
    go_ret
    exact ⟨rfl, l1⟩
  have hbin_ : ¬ (100 : Int) < (n' : Int) := by omega
  have hnn_ : n' ≤ 100000 := by omega
  have hc := rightR_c A n c L w1 r1_a hnn
  go_wp2_with fail
  refine hc.mono ?_
  rintro e w2 ⟨rfl, b2⟩
  have r2_a := r1_a.on b2
  have r2_b := r1_b.on b2
  have l2 := bel2 l1 b2
  clear hc b2 r1_a r1_b l1
  rcases (show rightB L = false ∨ rightB L = true by cases rightB L <;> simp) with hg | hg
  · rw [hg]
    go_wp2_with fail
    go_ret
    exact ⟨rfl, l2⟩
  rw [hg]
  have RL := Lib.hid (rightB_iff.1 hg)
  clear hg
  have hc := rightR_c A' n' c' M w2 r2_b hnn_
  go_wp2_with fail
  refine hc.mono ?_
  rintro e w3 ⟨rfl, b3⟩
  have r3_a := r2_a.on b3
  have r3_b := r2_b.on b3
  have l3 := bel2 l2 b3
  clear hc b3 r2_a r2_b l2
  rcases (show rightB M = false ∨ rightB M = true by cases rightB M <;> simp) with hg | hg
  · rw [hg]
    go_wp2_with fail
    go_ret
    exact ⟨rfl, l3⟩
  rw [hg]
  have RM := Lib.hid (rightB_iff.1 hg)
  clear hg
  have hc := sum_c A n c L A' n' c' M w3 r3_a r3_b hnn hnn_ WL.out WM.out
  rw [(sum_ok RL.out RM.out).1] at hc
  rw [(sum_ok RL.out RM.out).2] at hc
  go_wp2_with fail
  refine hc.mono ?_
  rintro e w4 ⟨A4, n4, c4, rfl, x4, b4⟩
  have r4_a := r3_a.on b4
  have r4_b := r3_b.on b4
  have l4 := bel2 l3 b4
  have m4 : n4 ≤ 100000 := by rw [← x4.len]; exact Nat.le_trans (len_of _) (by omega)
  clear hc b4 r3_a r3_b l3
  have hc := less_c A n c L w4 r4_a hnn
  rw [(less_ok RL.out).1] at hc
  rw [(less_ok RL.out).2] at hc
  go_wp2_with fail
  refine hc.mono ?_
  rintro e w5 ⟨A5, n5, c5, rfl, x5, b5⟩
  have r5_a := r4_a.on b5
  have r5_b := r4_b.on b5
  have r5_s := x4.on b5
  have l5 := bel2 l4 b5
  have m5 : n5 ≤ 100000 := by rw [← x5.len]; exact (by rw [List.length_map, r4_a.len]; exact hnn)
  clear hc b5 r4_a r4_b x4 l4
  have Gs := Lib.hid (get_sum RL.out RM.out WL.out WM.out key)
  have Gl := Lib.hid (get_less RL.out WL.out key)
  have Rs := Lib.hid (rightB_iff.2 (right_of (L ++ M)))
  have Rl := Lib.hid (rightB_iff.2 (right_neg RL.out WL.out))
  obtain ⟨x, hx⟩ : ∃ x, getD L key = x := ⟨_, rfl⟩
  obtain ⟨y, hy⟩ : ∃ y, getD M key = y := ⟨_, rfl⟩
  have Hx := Lib.hid hx
  have Hy := Lib.hid hy
  clear hx hy
  rw [Hx.out, Hy.out] at Gs
  rw [Hx.out] at Gl
  have hee : (wrap64 (x + y) == wrap64 (x + y)) = true := by simp
  have hff : (wrap64 (-x) == wrap64 (-x)) = true := by simp
  have hc := get_c A4 n4 c4 key _ w5 r5_s m4
  rw [Gs.out] at hc
  go_wp2_with fail
  refine hc.mono ?_
  rintro e w6 ⟨rfl, b6⟩
  have r6_a := r5_a.on b6
  have r6_b := r5_b.on b6
  have r6_s := r5_s.on b6
  have r6_m := x5.on b6
  have l6 := bel2 l5 b6
  clear hc b6 r5_a r5_b r5_s x5 l5
  have hc := get_c A n c key _ w6 r6_a hnn
  rw [Hx.out] at hc
  go_wp2_with fail
  refine hc.mono ?_
  rintro e w7 ⟨rfl, b7⟩
  have r7_a := r6_a.on b7
  have r7_b := r6_b.on b7
  have r7_s := r6_s.on b7
  have r7_m := r6_m.on b7
  have l7 := bel2 l6 b7
  clear hc b7 r6_a r6_b r6_s r6_m l6
  have hc := get_c A' n' c' key _ w7 r7_b hnn_
  rw [Hy.out] at hc
  go_wp2_with fail
  refine hc.mono ?_
  rintro e w8 ⟨rfl, b8⟩
  have r8_a := r7_a.on b8
  have r8_b := r7_b.on b8
  have r8_s := r7_s.on b8
  have r8_m := r7_m.on b8
  have l8 := bel2 l7 b8
  clear hc b8 r7_a r7_b r7_s r7_m l7
  have hc := get_c A5 n5 c5 key _ w8 r8_m m5
  rw [Gl.out] at hc
  go_wp2_with fail
  refine hc.mono ?_
  rintro e w9 ⟨rfl, b9⟩
  have r9_a := r8_a.on b9
  have r9_b := r8_b.on b9
  have r9_s := r8_s.on b9
  have r9_m := r8_m.on b9
  have l9 := bel2 l8 b9
  clear hc b9 r8_a r8_b r8_s r8_m l8
  have hc := get_c A n c key _ w9 r9_a hnn
  rw [Hx.out] at hc
  go_wp2_with fail
  refine hc.mono ?_
  rintro e w10 ⟨rfl, b10⟩
  have r10_a := r9_a.on b10
  have r10_b := r9_b.on b10
  have r10_s := r9_s.on b10
  have r10_m := r9_m.on b10
  have l10 := bel2 l9 b10
  clear hc b10 r9_a r9_b r9_s r9_m l9
  have hc := right_c A4 n4 c4 _ w10 r10_s m4
  rw [Rs.out] at hc
  go_wp2_with fail
  refine hc.mono ?_
  rintro e w11 ⟨rfl, b11⟩
  have r11_a := r10_a.on b11
  have r11_b := r10_b.on b11
  have r11_s := r10_s.on b11
  have r11_m := r10_m.on b11
  have l11 := bel2 l10 b11
  clear hc b11 r10_a r10_b r10_s r10_m l10
  have hc := right_c A5 n5 c5 _ w11 r11_m m5
  rw [Rl.out] at hc
  go_wp2_with fail
  refine hc.mono ?_
  rintro e w12 ⟨rfl, b12⟩
  have r12_a := r11_a.on b12
  have r12_b := r11_b.on b12
  have r12_s := r11_s.on b12
  have r12_m := r11_m.on b12
  have l12 := bel2 l11 b12
  clear hc b12 r11_a r11_b r11_s r11_m l11
  go_wp2_with fail
  go_ret
  exact ⟨rfl, l12⟩
end Go.Proofs.Ytdekijaognfjcaa
