/-
  The walk of the law TermsBegin: it returns true and leaves all memory that was there. Condition: the numbers can be read.
-/
import Derived.Test.YtgmkjpkbkiimdaaTeD
import Derived.Test.YtgmkjpkbkiimdaaTeE
set_option linter.unusedVariables false
set_option linter.unusedSimpArgs false
namespace Go.Proofs.Ytgmkjpkbkiimdaa
open Go.RowKit

set_option maxRecDepth 100000 in
set_option maxHeartbeats 8000000 in
theorem begin_walk (a b m : Int) (A : Option Addr) (n c : Nat) (l : List Int) (w : World) (h : RR w ic 1 A n c l) : Calls Try.prog 4 #[.agg #[.int .i64 a, .int .i64 b], .int .i64 m, .slice A n c] w fun r w' => r = .returned (.bool true) ∧ Below w.heap.size w w' := by
  have hmx : n ≤ maxLen := Nat.le_trans h.cap h.max
  simp only [maxLen] at hmx
  obtain ⟨⟨p1, p2, p3, p4⟩, hs1⟩ : ∃ s, sNew a b m = s := ⟨_, rfl⟩
  obtain ⟨k1, hk1⟩ : ∃ k, eNew a b m = k := ⟨_, rfl⟩
  obtain ⟨v1, hv1⟩ : ∃ k, vAgr l a b = k := ⟨_, rfl⟩
  obtain ⟨k2, hk2⟩ : ∃ k, eAgr l a b = k := ⟨_, rfl⟩
  have N1 := fun W => new_c a b m W
  have N2 := fun W => new_r a b m W
  have A1 := fun W => agree_c A n c l a b W
  have A2 := fun W => agree_r A n c l a b W
  simp only [hs1, hk1] at N1 N2
  simp only [hv1, hk2] at A1 A2
  have e1 : ((k1 : Int) == (k1 : Int)) = true := beq_self_eq_true _
  have e2 : ((k2 : Int) == (k2 : Int)) = true := beq_self_eq_true _
  have e4 : ((v1 : Int) == v1) = true := beq_self_eq_true _
  have e5 : ((p1 : Int) == p1) = true := beq_self_eq_true _
  have e6 : ((p2 : Int) == p2) = true := beq_self_eq_true _
  have e7 : ((p3 : Int) == p3) = true := beq_self_eq_true _
  have e8 : ((p4 : Int) == p4) = true := beq_self_eq_true _
  clear hs1 hk1 hv1 hk2
  by_cases hn : 200 < n
  · skip
    have hn' : decide ((200 : Int) < (n : Int)) = true := by simp; omega
    clear hn
    obtain ⟨W1, hW1⟩ : ∃ V, w.alloc (.cells #[.int .i64 a, .int .i64 b] 37) = V := ⟨_, rfl⟩
    have nW1_v : CB W1 (w.heap.size) 37 #[.int .i64 a, .int .i64 b] := by
      rw [← hW1]
      have := (CB.new w 37 #[.int .i64 a, .int .i64 b])
      simpa using this
    have lW1 : Below w.heap.size w W1 := by rw [← hW1]; exact le_al _ _
    have HW1 := Lib.hid hW1
    clear hW1
    have r1_h := (h).on lW1
    go_enter Try.func4, Try.ntmps4
    go_wp2_with fail
    rw [HW1.out]
    refine (alive_c _).mono ?_
    rintro e w2 ⟨rfl, b2⟩
    have r3_v := le_on nW1_v b2
    have r3_h := (r1_h).on b2
    have l3 := le_tr lW1 b2
    clear nW1_v r1_h lW1
    clear b2
    go_wp2_with fail
    go_ret
    exact ⟨rfl, l3⟩
  · skip
    have hn' : decide ((200 : Int) < (n : Int)) = false := by simp; omega
    clear hn
    obtain ⟨W1, hW1⟩ : ∃ V, w.alloc (.cells #[.int .i64 a, .int .i64 b] 37) = V := ⟨_, rfl⟩
    have nW1_v : CB W1 (w.heap.size) 37 #[.int .i64 a, .int .i64 b] := by
      rw [← hW1]
      have := (CB.new w 37 #[.int .i64 a, .int .i64 b])
      simpa using this
    have lW1 : Below w.heap.size w W1 := by rw [← hW1]; exact le_al _ _
    have HW1 := Lib.hid hW1
    clear hW1
    have r1_h := (h).on lW1
    go_enter Try.func4, Try.ntmps4
    go_wp2_with fail
    rw [HW1.out]
    refine (alive_c _).mono ?_
    rintro e w2 ⟨rfl, b2⟩
    have r3_v := le_on nW1_v b2
    have r3_h := (r1_h).on b2
    have l3 := le_tr lW1 b2
    clear nW1_v r1_h lW1
    clear b2
    have f3_v0 : w2.cell? ⟨w.heap.size, 0, none⟩ = some (.int .i64 a) := CB.cell r3_v 0
    have f3_v1 : w2.cell? ⟨w.heap.size, 1, none⟩ = some (.int .i64 b) := CB.cell r3_v 1
    go_wp2_with fail
    refine (N1 _).mono ?_
    rintro e w4 ⟨rfl, b4⟩
    clear f3_v0 f3_v1
    have r5_v := le_on r3_v b4
    have r5_h := (r3_h).on b4
    have l5 := le_tr l3 b4
    clear r3_v r3_h l3
    clear b4
    have av_x : w.heap.size ≤ w4.heap.size := by have := l5.size; omega
    obtain ⟨W6, hW6⟩ : ∃ V, w4.alloc (.cells #[.int .i64 p1, .int .i64 p2, .int .i64 p3, .int .i64 p4] 25) = V := ⟨_, rfl⟩
    have zW6 : w4.heap.size = w4.heap.size := by rfl
    have nW6 : CB W6 (w4.heap.size) 25 #[.int .i64 p1, .int .i64 p2, .int .i64 p3, .int .i64 p4] := by rw [← zW6, ← hW6]; exact CB.new _ _ _
    have bW6 : Below w4.heap.size w4 W6 := by rw [← hW6]; exact le_al _ _
    have neW6_v : w.heap.size ≠ w4.heap.size := by have := CB.lt r5_v; omega
    have HW6 := Lib.hid hW6
    clear hW6 zW6
    have r7_v := le_on r5_v bW6
    have r7_h := (r5_h).on bW6
    have l7 := le_tr l5 bW6
    clear r5_v r5_h l5
    clear bW6
    have f7_v0 : (w4.alloc (.cells #[.int .i64 p1, .int .i64 p2, .int .i64 p3, .int .i64 p4] 25)).cell? ⟨w.heap.size, 0, none⟩ = some (.int .i64 a) := by rw [HW6.out]; exact CB.cell r7_v 0
    have f7_v1 : (w4.alloc (.cells #[.int .i64 p1, .int .i64 p2, .int .i64 p3, .int .i64 p4] 25)).cell? ⟨w.heap.size, 1, none⟩ = some (.int .i64 b) := by rw [HW6.out]; exact CB.cell r7_v 1
    go_wp2_with fail
    rw [HW6.out]
    refine (N2 _).mono ?_
    rintro e w8 ⟨rfl, b8⟩
    clear f7_v0 f7_v1
    have r9_v := le_on r7_v b8
    have r9_x := le_on nW6 b8
    have r9_h := (r7_h).on b8
    have l9 := le_tr l7 b8
    clear r7_v nW6 r7_h l7
    clear b8
    have av_y : w.heap.size ≤ w8.heap.size := by have := l9.size; omega
    obtain ⟨W10, hW10⟩ : ∃ V, w8.alloc (.cells #[.int .i64 p1, .int .i64 p2, .int .i64 p3, .int .i64 p4] 23) = V := ⟨_, rfl⟩
    have zW10 : w8.heap.size = w8.heap.size := by rfl
    have nW10 : CB W10 (w8.heap.size) 23 #[.int .i64 p1, .int .i64 p2, .int .i64 p3, .int .i64 p4] := by rw [← zW10, ← hW10]; exact CB.new _ _ _
    have bW10 : Below w8.heap.size w8 W10 := by rw [← hW10]; exact le_al _ _
    have neW10_v : w.heap.size ≠ w8.heap.size := by have := CB.lt r9_v; omega
    have neW10_x : w4.heap.size ≠ w8.heap.size := by have := CB.lt r9_x; omega
    have HW10 := Lib.hid hW10
    clear hW10 zW10
    have r11_v := le_on r9_v bW10
    have r11_x := le_on r9_x bW10
    have r11_h := (r9_h).on bW10
    have l11 := le_tr l9 bW10
    clear r9_v r9_x r9_h l9
    clear bW10
    have f11_v0 : (w8.alloc (.cells #[.int .i64 p1, .int .i64 p2, .int .i64 p3, .int .i64 p4] 23)).cell? ⟨w.heap.size, 0, none⟩ = some (.int .i64 a) := by rw [HW10.out]; exact CB.cell r11_v 0
    have f11_v1 : (w8.alloc (.cells #[.int .i64 p1, .int .i64 p2, .int .i64 p3, .int .i64 p4] 23)).cell? ⟨w.heap.size, 1, none⟩ = some (.int .i64 b) := by rw [HW10.out]; exact CB.cell r11_v 1
    go_wp2_with fail
    rw [HW10.out]
    refine (A1 _ r11_h).mono ?_
    rintro e w12 ⟨rfl, b12⟩
    clear f11_v0 f11_v1
    have r13_v := le_on r11_v b12
    have r13_x := le_on r11_x b12
    have r13_y := le_on nW10 b12
    have r13_h := (r11_h).on b12
    have l13 := le_tr l11 b12
    clear r11_v r11_x nW10 r11_h l11
    clear b12
    have f13_v0 : w12.cell? ⟨w.heap.size, 0, none⟩ = some (.int .i64 a) := CB.cell r13_v 0
    have f13_v1 : w12.cell? ⟨w.heap.size, 1, none⟩ = some (.int .i64 b) := CB.cell r13_v 1
    go_wp2_with fail
    refine (A2 _ r13_h).mono ?_
    rintro e w14 ⟨rfl, b14⟩
    clear f13_v0 f13_v1
    have r15_v := le_on r13_v b14
    have r15_x := le_on r13_x b14
    have r15_y := le_on r13_y b14
    have r15_h := (r13_h).on b14
    have l15 := le_tr l13 b14
    clear r13_v r13_x r13_y r13_h l13
    clear b14
    have f15_x0 : w14.cell? ⟨w4.heap.size, 0, none⟩ = some (.int .i64 p1) := CB.cell r15_x 0
    have f15_x1 : w14.cell? ⟨w4.heap.size, 1, none⟩ = some (.int .i64 p2) := CB.cell r15_x 1
    have f15_x2 : w14.cell? ⟨w4.heap.size, 2, none⟩ = some (.int .i64 p3) := CB.cell r15_x 2
    have f15_x3 : w14.cell? ⟨w4.heap.size, 3, none⟩ = some (.int .i64 p4) := CB.cell r15_x 3
    have f15_y0 : w14.cell? ⟨w8.heap.size, 0, none⟩ = some (.int .i64 p1) := CB.cell r15_y 0
    have f15_y1 : w14.cell? ⟨w8.heap.size, 1, none⟩ = some (.int .i64 p2) := CB.cell r15_y 1
    have f15_y2 : w14.cell? ⟨w8.heap.size, 2, none⟩ = some (.int .i64 p3) := CB.cell r15_y 2
    have f15_y3 : w14.cell? ⟨w8.heap.size, 3, none⟩ = some (.int .i64 p4) := CB.cell r15_y 3
    go_wp2_with fail
    go_ret
    exact ⟨rfl, l15⟩
end Go.Proofs.Ytgmkjpkbkiimdaa
