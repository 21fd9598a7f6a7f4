/-
  The walk of the law TermsOver: it returns true and leaves all memory that was there. Condition: the numbers are in the range of their types.
-/
import Derived.Test.YtgmkjpkbkiimdaaTeB
import Derived.Test.YtgmkjpkbkiimdaaTeE
set_option linter.unusedVariables false
set_option linter.unusedSimpArgs false
namespace Go.Proofs.Ytgmkjpkbkiimdaa
open Go.RowKit

set_option maxRecDepth 100000 in
set_option maxHeartbeats 8000000 in
theorem over_walk (dl sp us cp x b : Int) (w : World) (hx : -9223372036854775808 ≤ x ∧ x ≤ 9223372036854775807) (hb : 0 ≤ b ∧ b ≤ 4294967295) : Calls Try.prog 7 #[.agg #[.int .i64 dl, .int .i64 sp, .int .i64 us, .int .i64 cp], .int .i64 x, .int .u32 b] w fun r w' => r = .returned (.bool true) ∧ Below w.heap.size w w' := by
  have cb : IntKind.i64.wrap b = b := IntWalk.i64_in _ (by omega)
  cases hrt : rightT ⟨dl, sp, us, cp⟩ with
  | false =>
    have O0 : overT ⟨dl, sp, us, cp⟩ x = false := by unfold overT; rw [hrt]; rfl
    have O1 := fun W => over_c dl sp us cp x W
    have R1 := fun W => right_r dl sp us cp W
    simp only [O0] at O1
    simp only [hrt] at R1
    clear O0 hrt hb hx
    obtain ⟨W1, hW1⟩ : ∃ V, w.alloc (.cells #[.int .i64 dl, .int .i64 sp, .int .i64 us, .int .i64 cp] 23) = V := ⟨_, rfl⟩
    have nW1_t : CB W1 (w.heap.size) 23 #[.int .i64 dl, .int .i64 sp, .int .i64 us, .int .i64 cp] := by
      rw [← hW1]
      have := (CB.new w 23 #[.int .i64 dl, .int .i64 sp, .int .i64 us, .int .i64 cp])
      simpa using this
    have lW1 : Below w.heap.size w W1 := by rw [← hW1]; exact le_al _ _
    have HW1 := Lib.hid hW1
    clear hW1
    go_enter Try.func7, Try.ntmps7
    go_wp2_with fail
    rw [HW1.out]
    refine (alive_c _).mono ?_
    rintro e w2 ⟨rfl, b2⟩
    have r3_t := le_on nW1_t b2
    have l3 := le_tr lW1 b2
    clear nW1_t lW1
    clear b2
    have f3_t0 : w2.cell? ⟨w.heap.size, 0, none⟩ = some (.int .i64 dl) := CB.cell r3_t 0
    have f3_t1 : w2.cell? ⟨w.heap.size, 1, none⟩ = some (.int .i64 sp) := CB.cell r3_t 1
    have f3_t2 : w2.cell? ⟨w.heap.size, 2, none⟩ = some (.int .i64 us) := CB.cell r3_t 2
    have f3_t3 : w2.cell? ⟨w.heap.size, 3, none⟩ = some (.int .i64 cp) := CB.cell r3_t 3
    go_wp2_with fail
    refine (R1 _).mono ?_
    rintro e w4 ⟨rfl, b4⟩
    clear f3_t0 f3_t1 f3_t2 f3_t3
    have r5_t := le_on r3_t b4
    have l5 := le_tr l3 b4
    clear r3_t l3
    clear b4
    have f5_t0 : w4.cell? ⟨w.heap.size, 0, none⟩ = some (.int .i64 dl) := CB.cell r5_t 0
    have f5_t1 : w4.cell? ⟨w.heap.size, 1, none⟩ = some (.int .i64 sp) := CB.cell r5_t 1
    have f5_t2 : w4.cell? ⟨w.heap.size, 2, none⟩ = some (.int .i64 us) := CB.cell r5_t 2
    have f5_t3 : w4.cell? ⟨w.heap.size, 3, none⟩ = some (.int .i64 cp) := CB.cell r5_t 3
    go_wp2_with fail
    refine (O1 _).mono ?_
    rintro e w6 ⟨rfl, b6⟩
    clear f5_t0 f5_t1 f5_t2 f5_t3
    have r7_t := le_on r5_t b6
    have l7 := le_tr l5 b6
    clear r5_t l5
    clear b6
    go_wp2_with fail
    go_ret
    exact ⟨rfl, l7⟩
  | true =>
    by_cases hv : dl ≤ x
    · have He := eExt_11 (t := ⟨dl, sp, us, cp⟩) (x := x) hrt hv
      have Hs := sExt_n (t := ⟨dl, sp, us, cp⟩) (x := x) (by rw [He]; decide)
      by_cases hq : x ≤ 1152921504606846976
      · skip
        have O0 : overT ⟨dl, sp, us, cp⟩ x = true := by unfold overT; rw [hrt]; simp; omega
        have O1 := fun W => over_c dl sp us cp x W
        have R1 := fun W => right_r dl sp us cp W
        have E1 := fun W => extend_c dl sp us cp x W
        simp only [O0] at O1
        simp only [hrt] at R1
        simp only [He, Hs] at E1
        have hq' : decide (x ≤ 1152921504606846976) = true := by simp; omega
        have c1 : IntKind.i64.wrap (x + b) = x + b := IntWalk.i64_in _ (by omega)
        have O9 : overT ⟨dl, sp, us, cp⟩ (x + b) = true := by unfold overT; rw [hrt]; simp; omega
        have O2 := fun W => over_c dl sp us cp (x + b) W
        simp only [O9] at O2
        clear O9
        clear O0 hrt hv He Hs hq hb hx
        obtain ⟨W1, hW1⟩ : ∃ V, w.alloc (.cells #[.int .i64 dl, .int .i64 sp, .int .i64 us, .int .i64 cp] 23) = V := ⟨_, rfl⟩
        have nW1_t : CB W1 (w.heap.size) 23 #[.int .i64 dl, .int .i64 sp, .int .i64 us, .int .i64 cp] := by
          rw [← hW1]
          have := (CB.new w 23 #[.int .i64 dl, .int .i64 sp, .int .i64 us, .int .i64 cp])
          simpa using this
        have lW1 : Below w.heap.size w W1 := by rw [← hW1]; exact le_al _ _
        have HW1 := Lib.hid hW1
        clear hW1
        go_enter Try.func7, Try.ntmps7
        go_wp2_with fail
        rw [HW1.out]
        refine (alive_c _).mono ?_
        rintro e w2 ⟨rfl, b2⟩
        have r3_t := le_on nW1_t b2
        have l3 := le_tr lW1 b2
        clear nW1_t lW1
        clear b2
        have f3_t0 : w2.cell? ⟨w.heap.size, 0, none⟩ = some (.int .i64 dl) := CB.cell r3_t 0
        have f3_t1 : w2.cell? ⟨w.heap.size, 1, none⟩ = some (.int .i64 sp) := CB.cell r3_t 1
        have f3_t2 : w2.cell? ⟨w.heap.size, 2, none⟩ = some (.int .i64 us) := CB.cell r3_t 2
        have f3_t3 : w2.cell? ⟨w.heap.size, 3, none⟩ = some (.int .i64 cp) := CB.cell r3_t 3
        go_wp2_with fail
        refine (R1 _).mono ?_
        rintro e w4 ⟨rfl, b4⟩
        clear f3_t0 f3_t1 f3_t2 f3_t3
        have r5_t := le_on r3_t b4
        have l5 := le_tr l3 b4
        clear r3_t l3
        clear b4
        have f5_t0 : w4.cell? ⟨w.heap.size, 0, none⟩ = some (.int .i64 dl) := CB.cell r5_t 0
        have f5_t1 : w4.cell? ⟨w.heap.size, 1, none⟩ = some (.int .i64 sp) := CB.cell r5_t 1
        have f5_t2 : w4.cell? ⟨w.heap.size, 2, none⟩ = some (.int .i64 us) := CB.cell r5_t 2
        have f5_t3 : w4.cell? ⟨w.heap.size, 3, none⟩ = some (.int .i64 cp) := CB.cell r5_t 3
        have av_x : w.heap.size ≤ w4.heap.size := by have := l5.size; omega
        obtain ⟨W6, hW6⟩ : ∃ V, w4.alloc (.cells #[.int .i64 dl, .int .i64 sp, .int .i64 us, .int .i64 cp] 25) = V := ⟨_, rfl⟩
        have zW6 : w4.heap.size = w4.heap.size := by rfl
        have nW6 : CB W6 (w4.heap.size) 25 #[.int .i64 dl, .int .i64 sp, .int .i64 us, .int .i64 cp] := by rw [← zW6, ← hW6]; exact CB.new _ _ _
        have bW6 : Below w4.heap.size w4 W6 := by rw [← hW6]; exact le_al _ _
        have neW6_t : w.heap.size ≠ w4.heap.size := by have := CB.lt r5_t; omega
        have HW6 := Lib.hid hW6
        clear hW6 zW6
        have r7_t := le_on r5_t bW6
        have l7 := le_tr l5 bW6
        clear r5_t l5
        clear bW6
        have f7_t0 : (w4.alloc (.cells #[.int .i64 dl, .int .i64 sp, .int .i64 us, .int .i64 cp] 25)).cell? ⟨w.heap.size, 0, none⟩ = some (.int .i64 dl) := by rw [HW6.out]; exact CB.cell r7_t 0
        have f7_t1 : (w4.alloc (.cells #[.int .i64 dl, .int .i64 sp, .int .i64 us, .int .i64 cp] 25)).cell? ⟨w.heap.size, 1, none⟩ = some (.int .i64 sp) := by rw [HW6.out]; exact CB.cell r7_t 1
        have f7_t2 : (w4.alloc (.cells #[.int .i64 dl, .int .i64 sp, .int .i64 us, .int .i64 cp] 25)).cell? ⟨w.heap.size, 2, none⟩ = some (.int .i64 us) := by rw [HW6.out]; exact CB.cell r7_t 2
        have f7_t3 : (w4.alloc (.cells #[.int .i64 dl, .int .i64 sp, .int .i64 us, .int .i64 cp] 25)).cell? ⟨w.heap.size, 3, none⟩ = some (.int .i64 cp) := by rw [HW6.out]; exact CB.cell r7_t 3
        have f7_x0 : (w4.alloc (.cells #[.int .i64 dl, .int .i64 sp, .int .i64 us, .int .i64 cp] 25)).cell? ⟨w4.heap.size, 0, none⟩ = some (.int .i64 dl) := by rw [HW6.out]; exact CB.cell nW6 0
        have f7_x1 : (w4.alloc (.cells #[.int .i64 dl, .int .i64 sp, .int .i64 us, .int .i64 cp] 25)).cell? ⟨w4.heap.size, 1, none⟩ = some (.int .i64 sp) := by rw [HW6.out]; exact CB.cell nW6 1
        have f7_x2 : (w4.alloc (.cells #[.int .i64 dl, .int .i64 sp, .int .i64 us, .int .i64 cp] 25)).cell? ⟨w4.heap.size, 2, none⟩ = some (.int .i64 us) := by rw [HW6.out]; exact CB.cell nW6 2
        have f7_x3 : (w4.alloc (.cells #[.int .i64 dl, .int .i64 sp, .int .i64 us, .int .i64 cp] 25)).cell? ⟨w4.heap.size, 3, none⟩ = some (.int .i64 cp) := by rw [HW6.out]; exact CB.cell nW6 3
        go_wp2_with fail
        rw [HW6.out]
        refine (O1 _).mono ?_
        rintro e w8 ⟨rfl, b8⟩
        clear f5_t0 f5_t1 f5_t2 f5_t3 f7_t0 f7_t1 f7_t2 f7_t3 f7_x0 f7_x1 f7_x2 f7_x3
        have r9_t := le_on r7_t b8
        have r9_x := le_on nW6 b8
        have l9 := le_tr l7 b8
        clear r7_t nW6 l7
        clear b8
        have f9_t0 : w8.cell? ⟨w.heap.size, 0, none⟩ = some (.int .i64 dl) := CB.cell r9_t 0
        have f9_t1 : w8.cell? ⟨w.heap.size, 1, none⟩ = some (.int .i64 sp) := CB.cell r9_t 1
        have f9_t2 : w8.cell? ⟨w.heap.size, 2, none⟩ = some (.int .i64 us) := CB.cell r9_t 2
        have f9_t3 : w8.cell? ⟨w.heap.size, 3, none⟩ = some (.int .i64 cp) := CB.cell r9_t 3
        have f9_x0 : w8.cell? ⟨w4.heap.size, 0, none⟩ = some (.int .i64 dl) := CB.cell r9_x 0
        have f9_x1 : w8.cell? ⟨w4.heap.size, 1, none⟩ = some (.int .i64 sp) := CB.cell r9_x 1
        have f9_x2 : w8.cell? ⟨w4.heap.size, 2, none⟩ = some (.int .i64 us) := CB.cell r9_x 2
        have f9_x3 : w8.cell? ⟨w4.heap.size, 3, none⟩ = some (.int .i64 cp) := CB.cell r9_x 3
        go_wp2_with fail
        refine (E1 _).mono ?_
        rintro e w10 ⟨rfl, b10⟩
        clear f9_t0 f9_t1 f9_t2 f9_t3 f9_x0 f9_x1 f9_x2 f9_x3
        have r11_t := le_on r9_t b10
        have r11_x := le_on r9_x b10
        have l11 := le_tr l9 b10
        clear r9_t r9_x l9
        clear b10
        have av_y : w.heap.size ≤ w10.heap.size := by have := l11.size; omega
        obtain ⟨W12, hW12⟩ : ∃ V, w10.alloc (.cells #[.int .i64 dl, .int .i64 sp, .int .i64 us, .int .i64 cp] 25) = V := ⟨_, rfl⟩
        have zW12 : w10.heap.size = w10.heap.size := by rfl
        have nW12 : CB W12 (w10.heap.size) 25 #[.int .i64 dl, .int .i64 sp, .int .i64 us, .int .i64 cp] := by rw [← zW12, ← hW12]; exact CB.new _ _ _
        have bW12 : Below w10.heap.size w10 W12 := by rw [← hW12]; exact le_al _ _
        have neW12_t : w.heap.size ≠ w10.heap.size := by have := CB.lt r11_t; omega
        have neW12_x : w4.heap.size ≠ w10.heap.size := by have := CB.lt r11_x; omega
        have HW12 := Lib.hid hW12
        clear hW12 zW12
        have r13_t := le_on r11_t bW12
        have r13_x := le_on r11_x bW12
        have l13 := le_tr l11 bW12
        clear r11_t r11_x l11
        clear bW12
        have f13_t0 : (w10.alloc (.cells #[.int .i64 dl, .int .i64 sp, .int .i64 us, .int .i64 cp] 25)).cell? ⟨w.heap.size, 0, none⟩ = some (.int .i64 dl) := by rw [HW12.out]; exact CB.cell r13_t 0
        have f13_t1 : (w10.alloc (.cells #[.int .i64 dl, .int .i64 sp, .int .i64 us, .int .i64 cp] 25)).cell? ⟨w.heap.size, 1, none⟩ = some (.int .i64 sp) := by rw [HW12.out]; exact CB.cell r13_t 1
        have f13_t2 : (w10.alloc (.cells #[.int .i64 dl, .int .i64 sp, .int .i64 us, .int .i64 cp] 25)).cell? ⟨w.heap.size, 2, none⟩ = some (.int .i64 us) := by rw [HW12.out]; exact CB.cell r13_t 2
        have f13_t3 : (w10.alloc (.cells #[.int .i64 dl, .int .i64 sp, .int .i64 us, .int .i64 cp] 25)).cell? ⟨w.heap.size, 3, none⟩ = some (.int .i64 cp) := by rw [HW12.out]; exact CB.cell r13_t 3
        have f13_x0 : (w10.alloc (.cells #[.int .i64 dl, .int .i64 sp, .int .i64 us, .int .i64 cp] 25)).cell? ⟨w4.heap.size, 0, none⟩ = some (.int .i64 dl) := by rw [HW12.out]; exact CB.cell r13_x 0
        have f13_x1 : (w10.alloc (.cells #[.int .i64 dl, .int .i64 sp, .int .i64 us, .int .i64 cp] 25)).cell? ⟨w4.heap.size, 1, none⟩ = some (.int .i64 sp) := by rw [HW12.out]; exact CB.cell r13_x 1
        have f13_x2 : (w10.alloc (.cells #[.int .i64 dl, .int .i64 sp, .int .i64 us, .int .i64 cp] 25)).cell? ⟨w4.heap.size, 2, none⟩ = some (.int .i64 us) := by rw [HW12.out]; exact CB.cell r13_x 2
        have f13_x3 : (w10.alloc (.cells #[.int .i64 dl, .int .i64 sp, .int .i64 us, .int .i64 cp] 25)).cell? ⟨w4.heap.size, 3, none⟩ = some (.int .i64 cp) := by rw [HW12.out]; exact CB.cell r13_x 3
        go_wp2_with fail
        rw [HW12.out]
        refine (O2 _).mono ?_
        rintro e w14 ⟨rfl, b14⟩
        clear f13_t0 f13_t1 f13_t2 f13_t3 f13_x0 f13_x1 f13_x2 f13_x3
        have r15_t := le_on r13_t b14
        have r15_x := le_on r13_x b14
        have r15_y := le_on nW12 b14
        have l15 := le_tr l13 b14
        clear r13_t r13_x nW12 l13
        clear b14
        have f15_t0 : w14.cell? ⟨w.heap.size, 0, none⟩ = some (.int .i64 dl) := CB.cell r15_t 0
        have f15_t1 : w14.cell? ⟨w.heap.size, 1, none⟩ = some (.int .i64 sp) := CB.cell r15_t 1
        have f15_t2 : w14.cell? ⟨w.heap.size, 2, none⟩ = some (.int .i64 us) := CB.cell r15_t 2
        have f15_t3 : w14.cell? ⟨w.heap.size, 3, none⟩ = some (.int .i64 cp) := CB.cell r15_t 3
        have f15_x0 : w14.cell? ⟨w4.heap.size, 0, none⟩ = some (.int .i64 dl) := CB.cell r15_x 0
        have f15_x1 : w14.cell? ⟨w4.heap.size, 1, none⟩ = some (.int .i64 sp) := CB.cell r15_x 1
        have f15_x2 : w14.cell? ⟨w4.heap.size, 2, none⟩ = some (.int .i64 us) := CB.cell r15_x 2
        have f15_x3 : w14.cell? ⟨w4.heap.size, 3, none⟩ = some (.int .i64 cp) := CB.cell r15_x 3
        go_wp2_with fail
        go_ret
        exact ⟨rfl, l15⟩
      · skip
        have O0 : overT ⟨dl, sp, us, cp⟩ x = true := by unfold overT; rw [hrt]; simp; omega
        have O1 := fun W => over_c dl sp us cp x W
        have R1 := fun W => right_r dl sp us cp W
        have E1 := fun W => extend_c dl sp us cp x W
        simp only [O0] at O1
        simp only [hrt] at R1
        simp only [He, Hs] at E1
        have hq' : decide (x ≤ 1152921504606846976) = false := by simp; omega
        clear O0 hrt hv He Hs hq hb hx
        obtain ⟨W1, hW1⟩ : ∃ V, w.alloc (.cells #[.int .i64 dl, .int .i64 sp, .int .i64 us, .int .i64 cp] 23) = V := ⟨_, rfl⟩
        have nW1_t : CB W1 (w.heap.size) 23 #[.int .i64 dl, .int .i64 sp, .int .i64 us, .int .i64 cp] := by
          rw [← hW1]
          have := (CB.new w 23 #[.int .i64 dl, .int .i64 sp, .int .i64 us, .int .i64 cp])
          simpa using this
        have lW1 : Below w.heap.size w W1 := by rw [← hW1]; exact le_al _ _
        have HW1 := Lib.hid hW1
        clear hW1
        go_enter Try.func7, Try.ntmps7
        go_wp2_with fail
        rw [HW1.out]
        refine (alive_c _).mono ?_
        rintro e w2 ⟨rfl, b2⟩
        have r3_t := le_on nW1_t b2
        have l3 := le_tr lW1 b2
        clear nW1_t lW1
        clear b2
        have f3_t0 : w2.cell? ⟨w.heap.size, 0, none⟩ = some (.int .i64 dl) := CB.cell r3_t 0
        have f3_t1 : w2.cell? ⟨w.heap.size, 1, none⟩ = some (.int .i64 sp) := CB.cell r3_t 1
        have f3_t2 : w2.cell? ⟨w.heap.size, 2, none⟩ = some (.int .i64 us) := CB.cell r3_t 2
        have f3_t3 : w2.cell? ⟨w.heap.size, 3, none⟩ = some (.int .i64 cp) := CB.cell r3_t 3
        go_wp2_with fail
        refine (R1 _).mono ?_
        rintro e w4 ⟨rfl, b4⟩
        clear f3_t0 f3_t1 f3_t2 f3_t3
        have r5_t := le_on r3_t b4
        have l5 := le_tr l3 b4
        clear r3_t l3
        clear b4
        have f5_t0 : w4.cell? ⟨w.heap.size, 0, none⟩ = some (.int .i64 dl) := CB.cell r5_t 0
        have f5_t1 : w4.cell? ⟨w.heap.size, 1, none⟩ = some (.int .i64 sp) := CB.cell r5_t 1
        have f5_t2 : w4.cell? ⟨w.heap.size, 2, none⟩ = some (.int .i64 us) := CB.cell r5_t 2
        have f5_t3 : w4.cell? ⟨w.heap.size, 3, none⟩ = some (.int .i64 cp) := CB.cell r5_t 3
        have av_x : w.heap.size ≤ w4.heap.size := by have := l5.size; omega
        obtain ⟨W6, hW6⟩ : ∃ V, w4.alloc (.cells #[.int .i64 dl, .int .i64 sp, .int .i64 us, .int .i64 cp] 25) = V := ⟨_, rfl⟩
        have zW6 : w4.heap.size = w4.heap.size := by rfl
        have nW6 : CB W6 (w4.heap.size) 25 #[.int .i64 dl, .int .i64 sp, .int .i64 us, .int .i64 cp] := by rw [← zW6, ← hW6]; exact CB.new _ _ _
        have bW6 : Below w4.heap.size w4 W6 := by rw [← hW6]; exact le_al _ _
        have neW6_t : w.heap.size ≠ w4.heap.size := by have := CB.lt r5_t; omega
        have HW6 := Lib.hid hW6
        clear hW6 zW6
        have r7_t := le_on r5_t bW6
        have l7 := le_tr l5 bW6
        clear r5_t l5
        clear bW6
        have f7_t0 : (w4.alloc (.cells #[.int .i64 dl, .int .i64 sp, .int .i64 us, .int .i64 cp] 25)).cell? ⟨w.heap.size, 0, none⟩ = some (.int .i64 dl) := by rw [HW6.out]; exact CB.cell r7_t 0
        have f7_t1 : (w4.alloc (.cells #[.int .i64 dl, .int .i64 sp, .int .i64 us, .int .i64 cp] 25)).cell? ⟨w.heap.size, 1, none⟩ = some (.int .i64 sp) := by rw [HW6.out]; exact CB.cell r7_t 1
        have f7_t2 : (w4.alloc (.cells #[.int .i64 dl, .int .i64 sp, .int .i64 us, .int .i64 cp] 25)).cell? ⟨w.heap.size, 2, none⟩ = some (.int .i64 us) := by rw [HW6.out]; exact CB.cell r7_t 2
        have f7_t3 : (w4.alloc (.cells #[.int .i64 dl, .int .i64 sp, .int .i64 us, .int .i64 cp] 25)).cell? ⟨w.heap.size, 3, none⟩ = some (.int .i64 cp) := by rw [HW6.out]; exact CB.cell r7_t 3
        have f7_x0 : (w4.alloc (.cells #[.int .i64 dl, .int .i64 sp, .int .i64 us, .int .i64 cp] 25)).cell? ⟨w4.heap.size, 0, none⟩ = some (.int .i64 dl) := by rw [HW6.out]; exact CB.cell nW6 0
        have f7_x1 : (w4.alloc (.cells #[.int .i64 dl, .int .i64 sp, .int .i64 us, .int .i64 cp] 25)).cell? ⟨w4.heap.size, 1, none⟩ = some (.int .i64 sp) := by rw [HW6.out]; exact CB.cell nW6 1
        have f7_x2 : (w4.alloc (.cells #[.int .i64 dl, .int .i64 sp, .int .i64 us, .int .i64 cp] 25)).cell? ⟨w4.heap.size, 2, none⟩ = some (.int .i64 us) := by rw [HW6.out]; exact CB.cell nW6 2
        have f7_x3 : (w4.alloc (.cells #[.int .i64 dl, .int .i64 sp, .int .i64 us, .int .i64 cp] 25)).cell? ⟨w4.heap.size, 3, none⟩ = some (.int .i64 cp) := by rw [HW6.out]; exact CB.cell nW6 3
        go_wp2_with fail
        rw [HW6.out]
        refine (O1 _).mono ?_
        rintro e w8 ⟨rfl, b8⟩
        clear f5_t0 f5_t1 f5_t2 f5_t3 f7_t0 f7_t1 f7_t2 f7_t3 f7_x0 f7_x1 f7_x2 f7_x3
        have r9_t := le_on r7_t b8
        have r9_x := le_on nW6 b8
        have l9 := le_tr l7 b8
        clear r7_t nW6 l7
        clear b8
        have f9_t0 : w8.cell? ⟨w.heap.size, 0, none⟩ = some (.int .i64 dl) := CB.cell r9_t 0
        have f9_t1 : w8.cell? ⟨w.heap.size, 1, none⟩ = some (.int .i64 sp) := CB.cell r9_t 1
        have f9_t2 : w8.cell? ⟨w.heap.size, 2, none⟩ = some (.int .i64 us) := CB.cell r9_t 2
        have f9_t3 : w8.cell? ⟨w.heap.size, 3, none⟩ = some (.int .i64 cp) := CB.cell r9_t 3
        have f9_x0 : w8.cell? ⟨w4.heap.size, 0, none⟩ = some (.int .i64 dl) := CB.cell r9_x 0
        have f9_x1 : w8.cell? ⟨w4.heap.size, 1, none⟩ = some (.int .i64 sp) := CB.cell r9_x 1
        have f9_x2 : w8.cell? ⟨w4.heap.size, 2, none⟩ = some (.int .i64 us) := CB.cell r9_x 2
        have f9_x3 : w8.cell? ⟨w4.heap.size, 3, none⟩ = some (.int .i64 cp) := CB.cell r9_x 3
        go_wp2_with fail
        refine (E1 _).mono ?_
        rintro e w10 ⟨rfl, b10⟩
        clear f9_t0 f9_t1 f9_t2 f9_t3 f9_x0 f9_x1 f9_x2 f9_x3
        have r11_t := le_on r9_t b10
        have r11_x := le_on r9_x b10
        have l11 := le_tr l9 b10
        clear r9_t r9_x l9
        clear b10
        have av_y : w.heap.size ≤ w10.heap.size := by have := l11.size; omega
        obtain ⟨W12, hW12⟩ : ∃ V, w10.alloc (.cells #[.int .i64 dl, .int .i64 sp, .int .i64 us, .int .i64 cp] 25) = V := ⟨_, rfl⟩
        have zW12 : w10.heap.size = w10.heap.size := by rfl
        have nW12 : CB W12 (w10.heap.size) 25 #[.int .i64 dl, .int .i64 sp, .int .i64 us, .int .i64 cp] := by rw [← zW12, ← hW12]; exact CB.new _ _ _
        have bW12 : Below w10.heap.size w10 W12 := by rw [← hW12]; exact le_al _ _
        have neW12_t : w.heap.size ≠ w10.heap.size := by have := CB.lt r11_t; omega
        have neW12_x : w4.heap.size ≠ w10.heap.size := by have := CB.lt r11_x; omega
        have HW12 := Lib.hid hW12
        clear hW12 zW12
        have r13_t := le_on r11_t bW12
        have r13_x := le_on r11_x bW12
        have l13 := le_tr l11 bW12
        clear r11_t r11_x l11
        clear bW12
        have f13_t0 : (w10.alloc (.cells #[.int .i64 dl, .int .i64 sp, .int .i64 us, .int .i64 cp] 25)).cell? ⟨w.heap.size, 0, none⟩ = some (.int .i64 dl) := by rw [HW12.out]; exact CB.cell r13_t 0
        have f13_t1 : (w10.alloc (.cells #[.int .i64 dl, .int .i64 sp, .int .i64 us, .int .i64 cp] 25)).cell? ⟨w.heap.size, 1, none⟩ = some (.int .i64 sp) := by rw [HW12.out]; exact CB.cell r13_t 1
        have f13_t2 : (w10.alloc (.cells #[.int .i64 dl, .int .i64 sp, .int .i64 us, .int .i64 cp] 25)).cell? ⟨w.heap.size, 2, none⟩ = some (.int .i64 us) := by rw [HW12.out]; exact CB.cell r13_t 2
        have f13_t3 : (w10.alloc (.cells #[.int .i64 dl, .int .i64 sp, .int .i64 us, .int .i64 cp] 25)).cell? ⟨w.heap.size, 3, none⟩ = some (.int .i64 cp) := by rw [HW12.out]; exact CB.cell r13_t 3
        have f13_x0 : (w10.alloc (.cells #[.int .i64 dl, .int .i64 sp, .int .i64 us, .int .i64 cp] 25)).cell? ⟨w4.heap.size, 0, none⟩ = some (.int .i64 dl) := by rw [HW12.out]; exact CB.cell r13_x 0
        have f13_x1 : (w10.alloc (.cells #[.int .i64 dl, .int .i64 sp, .int .i64 us, .int .i64 cp] 25)).cell? ⟨w4.heap.size, 1, none⟩ = some (.int .i64 sp) := by rw [HW12.out]; exact CB.cell r13_x 1
        have f13_x2 : (w10.alloc (.cells #[.int .i64 dl, .int .i64 sp, .int .i64 us, .int .i64 cp] 25)).cell? ⟨w4.heap.size, 2, none⟩ = some (.int .i64 us) := by rw [HW12.out]; exact CB.cell r13_x 2
        have f13_x3 : (w10.alloc (.cells #[.int .i64 dl, .int .i64 sp, .int .i64 us, .int .i64 cp] 25)).cell? ⟨w4.heap.size, 3, none⟩ = some (.int .i64 cp) := by rw [HW12.out]; exact CB.cell r13_x 3
        go_wp2_with fail
        try rw [HW12.out]
        go_ret
        exact ⟨rfl, l13⟩
    · have hF := (right_iff.1 hrt).1.2.1
      simp only at hF
      by_cases hu : us = cp
      · skip
        have O0 : overT ⟨dl, sp, us, cp⟩ x = false := by unfold overT; rw [hrt]; simp; omega
        have O1 := fun W => over_c dl sp us cp x W
        have R1 := fun W => right_r dl sp us cp W
        have E1 := fun W => extend_c dl sp us cp x W
        simp only [O0] at O1
        simp only [hrt] at R1
        have He := eExt_12 (t := ⟨dl, sp, us, cp⟩) (x := x) hrt hv hu
        have Hs := sExt_n (t := ⟨dl, sp, us, cp⟩) (x := x) (by rw [He]; decide)
        simp only [He, Hs] at E1
        have hl : decide (us < cp) = false := by simp; omega
        clear O0 hrt hv He Hs hu hF hb hx
        obtain ⟨W1, hW1⟩ : ∃ V, w.alloc (.cells #[.int .i64 dl, .int .i64 sp, .int .i64 us, .int .i64 cp] 23) = V := ⟨_, rfl⟩
        have nW1_t : CB W1 (w.heap.size) 23 #[.int .i64 dl, .int .i64 sp, .int .i64 us, .int .i64 cp] := by
          rw [← hW1]
          have := (CB.new w 23 #[.int .i64 dl, .int .i64 sp, .int .i64 us, .int .i64 cp])
          simpa using this
        have lW1 : Below w.heap.size w W1 := by rw [← hW1]; exact le_al _ _
        have HW1 := Lib.hid hW1
        clear hW1
        go_enter Try.func7, Try.ntmps7
        go_wp2_with fail
        rw [HW1.out]
        refine (alive_c _).mono ?_
        rintro e w2 ⟨rfl, b2⟩
        have r3_t := le_on nW1_t b2
        have l3 := le_tr lW1 b2
        clear nW1_t lW1
        clear b2
        have f3_t0 : w2.cell? ⟨w.heap.size, 0, none⟩ = some (.int .i64 dl) := CB.cell r3_t 0
        have f3_t1 : w2.cell? ⟨w.heap.size, 1, none⟩ = some (.int .i64 sp) := CB.cell r3_t 1
        have f3_t2 : w2.cell? ⟨w.heap.size, 2, none⟩ = some (.int .i64 us) := CB.cell r3_t 2
        have f3_t3 : w2.cell? ⟨w.heap.size, 3, none⟩ = some (.int .i64 cp) := CB.cell r3_t 3
        go_wp2_with fail
        refine (R1 _).mono ?_
        rintro e w4 ⟨rfl, b4⟩
        clear f3_t0 f3_t1 f3_t2 f3_t3
        have r5_t := le_on r3_t b4
        have l5 := le_tr l3 b4
        clear r3_t l3
        clear b4
        have f5_t0 : w4.cell? ⟨w.heap.size, 0, none⟩ = some (.int .i64 dl) := CB.cell r5_t 0
        have f5_t1 : w4.cell? ⟨w.heap.size, 1, none⟩ = some (.int .i64 sp) := CB.cell r5_t 1
        have f5_t2 : w4.cell? ⟨w.heap.size, 2, none⟩ = some (.int .i64 us) := CB.cell r5_t 2
        have f5_t3 : w4.cell? ⟨w.heap.size, 3, none⟩ = some (.int .i64 cp) := CB.cell r5_t 3
        have av_x : w.heap.size ≤ w4.heap.size := by have := l5.size; omega
        obtain ⟨W6, hW6⟩ : ∃ V, w4.alloc (.cells #[.int .i64 dl, .int .i64 sp, .int .i64 us, .int .i64 cp] 25) = V := ⟨_, rfl⟩
        have zW6 : w4.heap.size = w4.heap.size := by rfl
        have nW6 : CB W6 (w4.heap.size) 25 #[.int .i64 dl, .int .i64 sp, .int .i64 us, .int .i64 cp] := by rw [← zW6, ← hW6]; exact CB.new _ _ _
        have bW6 : Below w4.heap.size w4 W6 := by rw [← hW6]; exact le_al _ _
        have neW6_t : w.heap.size ≠ w4.heap.size := by have := CB.lt r5_t; omega
        have HW6 := Lib.hid hW6
        clear hW6 zW6
        have r7_t := le_on r5_t bW6
        have l7 := le_tr l5 bW6
        clear r5_t l5
        clear bW6
        have f7_t0 : (w4.alloc (.cells #[.int .i64 dl, .int .i64 sp, .int .i64 us, .int .i64 cp] 25)).cell? ⟨w.heap.size, 0, none⟩ = some (.int .i64 dl) := by rw [HW6.out]; exact CB.cell r7_t 0
        have f7_t1 : (w4.alloc (.cells #[.int .i64 dl, .int .i64 sp, .int .i64 us, .int .i64 cp] 25)).cell? ⟨w.heap.size, 1, none⟩ = some (.int .i64 sp) := by rw [HW6.out]; exact CB.cell r7_t 1
        have f7_t2 : (w4.alloc (.cells #[.int .i64 dl, .int .i64 sp, .int .i64 us, .int .i64 cp] 25)).cell? ⟨w.heap.size, 2, none⟩ = some (.int .i64 us) := by rw [HW6.out]; exact CB.cell r7_t 2
        have f7_t3 : (w4.alloc (.cells #[.int .i64 dl, .int .i64 sp, .int .i64 us, .int .i64 cp] 25)).cell? ⟨w.heap.size, 3, none⟩ = some (.int .i64 cp) := by rw [HW6.out]; exact CB.cell r7_t 3
        have f7_x0 : (w4.alloc (.cells #[.int .i64 dl, .int .i64 sp, .int .i64 us, .int .i64 cp] 25)).cell? ⟨w4.heap.size, 0, none⟩ = some (.int .i64 dl) := by rw [HW6.out]; exact CB.cell nW6 0
        have f7_x1 : (w4.alloc (.cells #[.int .i64 dl, .int .i64 sp, .int .i64 us, .int .i64 cp] 25)).cell? ⟨w4.heap.size, 1, none⟩ = some (.int .i64 sp) := by rw [HW6.out]; exact CB.cell nW6 1
        have f7_x2 : (w4.alloc (.cells #[.int .i64 dl, .int .i64 sp, .int .i64 us, .int .i64 cp] 25)).cell? ⟨w4.heap.size, 2, none⟩ = some (.int .i64 us) := by rw [HW6.out]; exact CB.cell nW6 2
        have f7_x3 : (w4.alloc (.cells #[.int .i64 dl, .int .i64 sp, .int .i64 us, .int .i64 cp] 25)).cell? ⟨w4.heap.size, 3, none⟩ = some (.int .i64 cp) := by rw [HW6.out]; exact CB.cell nW6 3
        go_wp2_with fail
        rw [HW6.out]
        refine (O1 _).mono ?_
        rintro e w8 ⟨rfl, b8⟩
        clear f5_t0 f5_t1 f5_t2 f5_t3 f7_t0 f7_t1 f7_t2 f7_t3 f7_x0 f7_x1 f7_x2 f7_x3
        have r9_t := le_on r7_t b8
        have r9_x := le_on nW6 b8
        have l9 := le_tr l7 b8
        clear r7_t nW6 l7
        clear b8
        have f9_t0 : w8.cell? ⟨w.heap.size, 0, none⟩ = some (.int .i64 dl) := CB.cell r9_t 0
        have f9_t1 : w8.cell? ⟨w.heap.size, 1, none⟩ = some (.int .i64 sp) := CB.cell r9_t 1
        have f9_t2 : w8.cell? ⟨w.heap.size, 2, none⟩ = some (.int .i64 us) := CB.cell r9_t 2
        have f9_t3 : w8.cell? ⟨w.heap.size, 3, none⟩ = some (.int .i64 cp) := CB.cell r9_t 3
        have f9_x0 : w8.cell? ⟨w4.heap.size, 0, none⟩ = some (.int .i64 dl) := CB.cell r9_x 0
        have f9_x1 : w8.cell? ⟨w4.heap.size, 1, none⟩ = some (.int .i64 sp) := CB.cell r9_x 1
        have f9_x2 : w8.cell? ⟨w4.heap.size, 2, none⟩ = some (.int .i64 us) := CB.cell r9_x 2
        have f9_x3 : w8.cell? ⟨w4.heap.size, 3, none⟩ = some (.int .i64 cp) := CB.cell r9_x 3
        go_wp2_with fail
        refine (E1 _).mono ?_
        rintro e w10 ⟨rfl, b10⟩
        clear f9_t0 f9_t1 f9_t2 f9_t3 f9_x0 f9_x1 f9_x2 f9_x3
        have r11_t := le_on r9_t b10
        have r11_x := le_on r9_x b10
        have l11 := le_tr l9 b10
        clear r9_t r9_x l9
        clear b10
        have av_y : w.heap.size ≤ w10.heap.size := by have := l11.size; omega
        obtain ⟨W12, hW12⟩ : ∃ V, w10.alloc (.cells #[.int .i64 dl, .int .i64 sp, .int .i64 us, .int .i64 cp] 25) = V := ⟨_, rfl⟩
        have zW12 : w10.heap.size = w10.heap.size := by rfl
        have nW12 : CB W12 (w10.heap.size) 25 #[.int .i64 dl, .int .i64 sp, .int .i64 us, .int .i64 cp] := by rw [← zW12, ← hW12]; exact CB.new _ _ _
        have bW12 : Below w10.heap.size w10 W12 := by rw [← hW12]; exact le_al _ _
        have neW12_t : w.heap.size ≠ w10.heap.size := by have := CB.lt r11_t; omega
        have neW12_x : w4.heap.size ≠ w10.heap.size := by have := CB.lt r11_x; omega
        have HW12 := Lib.hid hW12
        clear hW12 zW12
        have r13_t := le_on r11_t bW12
        have r13_x := le_on r11_x bW12
        have l13 := le_tr l11 bW12
        clear r11_t r11_x l11
        clear bW12
        have f13_t0 : (w10.alloc (.cells #[.int .i64 dl, .int .i64 sp, .int .i64 us, .int .i64 cp] 25)).cell? ⟨w.heap.size, 0, none⟩ = some (.int .i64 dl) := by rw [HW12.out]; exact CB.cell r13_t 0
        have f13_t1 : (w10.alloc (.cells #[.int .i64 dl, .int .i64 sp, .int .i64 us, .int .i64 cp] 25)).cell? ⟨w.heap.size, 1, none⟩ = some (.int .i64 sp) := by rw [HW12.out]; exact CB.cell r13_t 1
        have f13_t2 : (w10.alloc (.cells #[.int .i64 dl, .int .i64 sp, .int .i64 us, .int .i64 cp] 25)).cell? ⟨w.heap.size, 2, none⟩ = some (.int .i64 us) := by rw [HW12.out]; exact CB.cell r13_t 2
        have f13_t3 : (w10.alloc (.cells #[.int .i64 dl, .int .i64 sp, .int .i64 us, .int .i64 cp] 25)).cell? ⟨w.heap.size, 3, none⟩ = some (.int .i64 cp) := by rw [HW12.out]; exact CB.cell r13_t 3
        have f13_x0 : (w10.alloc (.cells #[.int .i64 dl, .int .i64 sp, .int .i64 us, .int .i64 cp] 25)).cell? ⟨w4.heap.size, 0, none⟩ = some (.int .i64 dl) := by rw [HW12.out]; exact CB.cell r13_x 0
        have f13_x1 : (w10.alloc (.cells #[.int .i64 dl, .int .i64 sp, .int .i64 us, .int .i64 cp] 25)).cell? ⟨w4.heap.size, 1, none⟩ = some (.int .i64 sp) := by rw [HW12.out]; exact CB.cell r13_x 1
        have f13_x2 : (w10.alloc (.cells #[.int .i64 dl, .int .i64 sp, .int .i64 us, .int .i64 cp] 25)).cell? ⟨w4.heap.size, 2, none⟩ = some (.int .i64 us) := by rw [HW12.out]; exact CB.cell r13_x 2
        have f13_x3 : (w10.alloc (.cells #[.int .i64 dl, .int .i64 sp, .int .i64 us, .int .i64 cp] 25)).cell? ⟨w4.heap.size, 3, none⟩ = some (.int .i64 cp) := by rw [HW12.out]; exact CB.cell r13_x 3
        go_wp2_with fail
        try rw [HW12.out]
        go_ret
        exact ⟨rfl, l13⟩
      · skip
        have O0 : overT ⟨dl, sp, us, cp⟩ x = false := by unfold overT; rw [hrt]; simp; omega
        have O1 := fun W => over_c dl sp us cp x W
        have R1 := fun W => right_r dl sp us cp W
        have E1 := fun W => extend_c dl sp us cp x W
        simp only [O0] at O1
        simp only [hrt] at R1
        have He := eExt_0 (t := ⟨dl, sp, us, cp⟩) (x := x) hrt hv hu
        have Hs := sExt_z He
        simp only [He, Hs] at E1
        have hl : decide (us < cp) = true := by simp; omega
        clear O0 hrt hv He Hs hu hF hb hx
        obtain ⟨W1, hW1⟩ : ∃ V, w.alloc (.cells #[.int .i64 dl, .int .i64 sp, .int .i64 us, .int .i64 cp] 23) = V := ⟨_, rfl⟩
        have nW1_t : CB W1 (w.heap.size) 23 #[.int .i64 dl, .int .i64 sp, .int .i64 us, .int .i64 cp] := by
          rw [← hW1]
          have := (CB.new w 23 #[.int .i64 dl, .int .i64 sp, .int .i64 us, .int .i64 cp])
          simpa using this
        have lW1 : Below w.heap.size w W1 := by rw [← hW1]; exact le_al _ _
        have HW1 := Lib.hid hW1
        clear hW1
        go_enter Try.func7, Try.ntmps7
        go_wp2_with fail
        rw [HW1.out]
        refine (alive_c _).mono ?_
        rintro e w2 ⟨rfl, b2⟩
        have r3_t := le_on nW1_t b2
        have l3 := le_tr lW1 b2
        clear nW1_t lW1
        clear b2
        have f3_t0 : w2.cell? ⟨w.heap.size, 0, none⟩ = some (.int .i64 dl) := CB.cell r3_t 0
        have f3_t1 : w2.cell? ⟨w.heap.size, 1, none⟩ = some (.int .i64 sp) := CB.cell r3_t 1
        have f3_t2 : w2.cell? ⟨w.heap.size, 2, none⟩ = some (.int .i64 us) := CB.cell r3_t 2
        have f3_t3 : w2.cell? ⟨w.heap.size, 3, none⟩ = some (.int .i64 cp) := CB.cell r3_t 3
        go_wp2_with fail
        refine (R1 _).mono ?_
        rintro e w4 ⟨rfl, b4⟩
        clear f3_t0 f3_t1 f3_t2 f3_t3
        have r5_t := le_on r3_t b4
        have l5 := le_tr l3 b4
        clear r3_t l3
        clear b4
        have f5_t0 : w4.cell? ⟨w.heap.size, 0, none⟩ = some (.int .i64 dl) := CB.cell r5_t 0
        have f5_t1 : w4.cell? ⟨w.heap.size, 1, none⟩ = some (.int .i64 sp) := CB.cell r5_t 1
        have f5_t2 : w4.cell? ⟨w.heap.size, 2, none⟩ = some (.int .i64 us) := CB.cell r5_t 2
        have f5_t3 : w4.cell? ⟨w.heap.size, 3, none⟩ = some (.int .i64 cp) := CB.cell r5_t 3
        have av_x : w.heap.size ≤ w4.heap.size := by have := l5.size; omega
        obtain ⟨W6, hW6⟩ : ∃ V, w4.alloc (.cells #[.int .i64 dl, .int .i64 sp, .int .i64 us, .int .i64 cp] 25) = V := ⟨_, rfl⟩
        have zW6 : w4.heap.size = w4.heap.size := by rfl
        have nW6 : CB W6 (w4.heap.size) 25 #[.int .i64 dl, .int .i64 sp, .int .i64 us, .int .i64 cp] := by rw [← zW6, ← hW6]; exact CB.new _ _ _
        have bW6 : Below w4.heap.size w4 W6 := by rw [← hW6]; exact le_al _ _
        have neW6_t : w.heap.size ≠ w4.heap.size := by have := CB.lt r5_t; omega
        have HW6 := Lib.hid hW6
        clear hW6 zW6
        have r7_t := le_on r5_t bW6
        have l7 := le_tr l5 bW6
        clear r5_t l5
        clear bW6
        have f7_t0 : (w4.alloc (.cells #[.int .i64 dl, .int .i64 sp, .int .i64 us, .int .i64 cp] 25)).cell? ⟨w.heap.size, 0, none⟩ = some (.int .i64 dl) := by rw [HW6.out]; exact CB.cell r7_t 0
        have f7_t1 : (w4.alloc (.cells #[.int .i64 dl, .int .i64 sp, .int .i64 us, .int .i64 cp] 25)).cell? ⟨w.heap.size, 1, none⟩ = some (.int .i64 sp) := by rw [HW6.out]; exact CB.cell r7_t 1
        have f7_t2 : (w4.alloc (.cells #[.int .i64 dl, .int .i64 sp, .int .i64 us, .int .i64 cp] 25)).cell? ⟨w.heap.size, 2, none⟩ = some (.int .i64 us) := by rw [HW6.out]; exact CB.cell r7_t 2
        have f7_t3 : (w4.alloc (.cells #[.int .i64 dl, .int .i64 sp, .int .i64 us, .int .i64 cp] 25)).cell? ⟨w.heap.size, 3, none⟩ = some (.int .i64 cp) := by rw [HW6.out]; exact CB.cell r7_t 3
        have f7_x0 : (w4.alloc (.cells #[.int .i64 dl, .int .i64 sp, .int .i64 us, .int .i64 cp] 25)).cell? ⟨w4.heap.size, 0, none⟩ = some (.int .i64 dl) := by rw [HW6.out]; exact CB.cell nW6 0
        have f7_x1 : (w4.alloc (.cells #[.int .i64 dl, .int .i64 sp, .int .i64 us, .int .i64 cp] 25)).cell? ⟨w4.heap.size, 1, none⟩ = some (.int .i64 sp) := by rw [HW6.out]; exact CB.cell nW6 1
        have f7_x2 : (w4.alloc (.cells #[.int .i64 dl, .int .i64 sp, .int .i64 us, .int .i64 cp] 25)).cell? ⟨w4.heap.size, 2, none⟩ = some (.int .i64 us) := by rw [HW6.out]; exact CB.cell nW6 2
        have f7_x3 : (w4.alloc (.cells #[.int .i64 dl, .int .i64 sp, .int .i64 us, .int .i64 cp] 25)).cell? ⟨w4.heap.size, 3, none⟩ = some (.int .i64 cp) := by rw [HW6.out]; exact CB.cell nW6 3
        go_wp2_with fail
        rw [HW6.out]
        refine (O1 _).mono ?_
        rintro e w8 ⟨rfl, b8⟩
        clear f5_t0 f5_t1 f5_t2 f5_t3 f7_t0 f7_t1 f7_t2 f7_t3 f7_x0 f7_x1 f7_x2 f7_x3
        have r9_t := le_on r7_t b8
        have r9_x := le_on nW6 b8
        have l9 := le_tr l7 b8
        clear r7_t nW6 l7
        clear b8
        have f9_t0 : w8.cell? ⟨w.heap.size, 0, none⟩ = some (.int .i64 dl) := CB.cell r9_t 0
        have f9_t1 : w8.cell? ⟨w.heap.size, 1, none⟩ = some (.int .i64 sp) := CB.cell r9_t 1
        have f9_t2 : w8.cell? ⟨w.heap.size, 2, none⟩ = some (.int .i64 us) := CB.cell r9_t 2
        have f9_t3 : w8.cell? ⟨w.heap.size, 3, none⟩ = some (.int .i64 cp) := CB.cell r9_t 3
        have f9_x0 : w8.cell? ⟨w4.heap.size, 0, none⟩ = some (.int .i64 dl) := CB.cell r9_x 0
        have f9_x1 : w8.cell? ⟨w4.heap.size, 1, none⟩ = some (.int .i64 sp) := CB.cell r9_x 1
        have f9_x2 : w8.cell? ⟨w4.heap.size, 2, none⟩ = some (.int .i64 us) := CB.cell r9_x 2
        have f9_x3 : w8.cell? ⟨w4.heap.size, 3, none⟩ = some (.int .i64 cp) := CB.cell r9_x 3
        go_wp2_with fail
        refine (E1 _).mono ?_
        rintro e w10 ⟨rfl, b10⟩
        clear f9_t0 f9_t1 f9_t2 f9_t3 f9_x0 f9_x1 f9_x2 f9_x3
        have r11_t := le_on r9_t b10
        have r11_x := le_on r9_x b10
        have l11 := le_tr l9 b10
        clear r9_t r9_x l9
        clear b10
        have av_y : w.heap.size ≤ w10.heap.size := by have := l11.size; omega
        obtain ⟨W12, hW12⟩ : ∃ V, w10.alloc (.cells #[.int .i64 (dl + sp), .int .i64 sp, .int .i64 (us + 1), .int .i64 cp] 25) = V := ⟨_, rfl⟩
        have zW12 : w10.heap.size = w10.heap.size := by rfl
        have nW12 : CB W12 (w10.heap.size) 25 #[.int .i64 (dl + sp), .int .i64 sp, .int .i64 (us + 1), .int .i64 cp] := by rw [← zW12, ← hW12]; exact CB.new _ _ _
        have bW12 : Below w10.heap.size w10 W12 := by rw [← hW12]; exact le_al _ _
        have neW12_t : w.heap.size ≠ w10.heap.size := by have := CB.lt r11_t; omega
        have neW12_x : w4.heap.size ≠ w10.heap.size := by have := CB.lt r11_x; omega
        have HW12 := Lib.hid hW12
        clear hW12 zW12
        have r13_t := le_on r11_t bW12
        have r13_x := le_on r11_x bW12
        have l13 := le_tr l11 bW12
        clear r11_t r11_x l11
        clear bW12
        have f13_t0 : (w10.alloc (.cells #[.int .i64 (dl + sp), .int .i64 sp, .int .i64 (us + 1), .int .i64 cp] 25)).cell? ⟨w.heap.size, 0, none⟩ = some (.int .i64 dl) := by rw [HW12.out]; exact CB.cell r13_t 0
        have f13_t1 : (w10.alloc (.cells #[.int .i64 (dl + sp), .int .i64 sp, .int .i64 (us + 1), .int .i64 cp] 25)).cell? ⟨w.heap.size, 1, none⟩ = some (.int .i64 sp) := by rw [HW12.out]; exact CB.cell r13_t 1
        have f13_t2 : (w10.alloc (.cells #[.int .i64 (dl + sp), .int .i64 sp, .int .i64 (us + 1), .int .i64 cp] 25)).cell? ⟨w.heap.size, 2, none⟩ = some (.int .i64 us) := by rw [HW12.out]; exact CB.cell r13_t 2
        have f13_t3 : (w10.alloc (.cells #[.int .i64 (dl + sp), .int .i64 sp, .int .i64 (us + 1), .int .i64 cp] 25)).cell? ⟨w.heap.size, 3, none⟩ = some (.int .i64 cp) := by rw [HW12.out]; exact CB.cell r13_t 3
        have f13_x0 : (w10.alloc (.cells #[.int .i64 (dl + sp), .int .i64 sp, .int .i64 (us + 1), .int .i64 cp] 25)).cell? ⟨w4.heap.size, 0, none⟩ = some (.int .i64 dl) := by rw [HW12.out]; exact CB.cell r13_x 0
        have f13_x1 : (w10.alloc (.cells #[.int .i64 (dl + sp), .int .i64 sp, .int .i64 (us + 1), .int .i64 cp] 25)).cell? ⟨w4.heap.size, 1, none⟩ = some (.int .i64 sp) := by rw [HW12.out]; exact CB.cell r13_x 1
        have f13_x2 : (w10.alloc (.cells #[.int .i64 (dl + sp), .int .i64 sp, .int .i64 (us + 1), .int .i64 cp] 25)).cell? ⟨w4.heap.size, 2, none⟩ = some (.int .i64 us) := by rw [HW12.out]; exact CB.cell r13_x 2
        have f13_x3 : (w10.alloc (.cells #[.int .i64 (dl + sp), .int .i64 sp, .int .i64 (us + 1), .int .i64 cp] 25)).cell? ⟨w4.heap.size, 3, none⟩ = some (.int .i64 cp) := by rw [HW12.out]; exact CB.cell r13_x 3
        go_wp2_with fail
        try rw [HW12.out]
        go_ret
        exact ⟨rfl, l13⟩
end Go.Proofs.Ytgmkjpkbkiimdaa
