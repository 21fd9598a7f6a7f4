/-
  The walk of the law TermsCalls: it returns true and leaves all memory that was there. No condition.
-/
import Derived.Test.YtgmkjpkbkiimdaaTeB
import Derived.Test.YtgmkjpkbkiimdaaTeE
set_option linter.unusedVariables false
set_option linter.unusedSimpArgs false
namespace Go.Proofs.Ytgmkjpkbkiimdaa
open Go.RowKit

set_option maxRecDepth 100000 in
set_option maxHeartbeats 8000000 in
theorem calls_walk (dl sp us cp x : Int) (w : World) : Calls Try.prog 3 #[.agg #[.int .i64 dl, .int .i64 sp, .int .i64 us, .int .i64 cp], .int .i64 x] w fun r w' => r = .returned (.bool true) ∧ Below w.heap.size w w' := by
  obtain ⟨⟨p1, p2, p3, p4⟩, hs1⟩ : ∃ s, sExt ⟨dl, sp, us, cp⟩ x = s := ⟨_, rfl⟩
  obtain ⟨k1, hk1⟩ : ∃ k, eExt ⟨dl, sp, us, cp⟩ x = k := ⟨_, rfl⟩
  obtain ⟨rt, hrt⟩ : ∃ b, rightT ⟨dl, sp, us, cp⟩ = b := ⟨_, rfl⟩
  obtain ⟨ov, hov⟩ : ∃ b, overT ⟨dl, sp, us, cp⟩ x = b := ⟨_, rfl⟩
  obtain ⟨la, hla⟩ : ∃ b, lastR ⟨dl, sp, us, cp⟩ = b := ⟨_, rfl⟩
  have E1 := fun W => extend_c dl sp us cp x W
  have E2 := fun W => extend_r dl sp us cp x W
  have R1 := fun W => right_c dl sp us cp W
  have R2 := fun W => right_r dl sp us cp W
  have O1 := fun W => over_c dl sp us cp x W
  have O2 := fun W => over_r dl sp us cp x W
  have L1 := fun W => last_c dl sp us cp W
  have L2 := fun W => last_r dl sp us cp W
  simp only [hs1, hk1] at E1 E2
  simp only [hrt] at R1 R2
  simp only [hov] at O1 O2
  simp only [hla] at L1 L2
  have e1 : ((k1 : Int) == (k1 : Int)) = true := beq_self_eq_true _
  have e2 : (rt == rt) = true := beq_self_eq_true _
  have e3 : (ov == ov) = true := beq_self_eq_true _
  have e4 : ((la : Int) == la) = true := beq_self_eq_true _
  have e5 : ((p1 : Int) == p1) = true := beq_self_eq_true _
  have e6 : ((p2 : Int) == p2) = true := beq_self_eq_true _
  have e7 : ((p3 : Int) == p3) = true := beq_self_eq_true _
  have e8 : ((p4 : Int) == p4) = true := beq_self_eq_true _
  clear hs1 hk1 hrt hov hla
  obtain ⟨W1, hW1⟩ : ∃ V, w.alloc (.cells #[.int .i64 dl, .int .i64 sp, .int .i64 us, .int .i64 cp] 23) = V := ⟨_, rfl⟩
  have nW1_t : CB W1 (w.heap.size) 23 #[.int .i64 dl, .int .i64 sp, .int .i64 us, .int .i64 cp] := by
    rw [← hW1]
    have := (CB.new w 23 #[.int .i64 dl, .int .i64 sp, .int .i64 us, .int .i64 cp])
    simpa using this
  have lW1 : Below w.heap.size w W1 := by rw [← hW1]; exact le_al _ _
  have HW1 := Lib.hid hW1
  clear hW1
  go_enter Try.func3, Try.ntmps3
  go_wp2_with fail
  rw [HW1.out]
  refine (alive_c _).mono ?_
  rintro e w2 ⟨rfl, b2⟩
  have r3_t := le_on nW1_t b2
  have l3 := le_tr lW1 b2
  clear nW1_t lW1
  clear b2
  have f3_t0 : w2.cell? ⟨w.heap.size, 0, none⟩ = some (.int .i64 dl) := CB.cell r3_t 0
  have f3_t1 : w2.cell? ⟨w.heap.size, 1, none⟩ = some (.int .i64 sp) := CB.cell r3_t 1
  have f3_t2 : w2.cell? ⟨w.heap.size, 2, none⟩ = some (.int .i64 us) := CB.cell r3_t 2
  have f3_t3 : w2.cell? ⟨w.heap.size, 3, none⟩ = some (.int .i64 cp) := CB.cell r3_t 3
  go_wp2_with fail
  refine (E1 _).mono ?_
  rintro e w4 ⟨rfl, b4⟩
  clear f3_t0 f3_t1 f3_t2 f3_t3
  have r5_t := le_on r3_t b4
  have l5 := le_tr l3 b4
  clear r3_t l3
  clear b4
  have av_x : w.heap.size ≤ w4.heap.size := by have := l5.size; omega
  obtain ⟨W6, hW6⟩ : ∃ V, w4.alloc (.cells #[.int .i64 p1, .int .i64 p2, .int .i64 p3, .int .i64 p4] 25) = V := ⟨_, rfl⟩
  have zW6 : w4.heap.size = w4.heap.size := by rfl
  have nW6 : CB W6 (w4.heap.size) 25 #[.int .i64 p1, .int .i64 p2, .int .i64 p3, .int .i64 p4] := by rw [← zW6, ← hW6]; exact CB.new _ _ _
  have bW6 : Below w4.heap.size w4 W6 := by rw [← hW6]; exact le_al _ _
  have neW6_t : w.heap.size ≠ w4.heap.size := by have := CB.lt r5_t; omega
  have HW6 := Lib.hid hW6
  clear hW6 zW6
  have r7_t := le_on r5_t bW6
  have l7 := le_tr l5 bW6
  clear r5_t l5
  clear bW6
  have f7_t0 : (w4.alloc (.cells #[.int .i64 p1, .int .i64 p2, .int .i64 p3, .int .i64 p4] 25)).cell? ⟨w.heap.size, 0, none⟩ = some (.int .i64 dl) := by rw [HW6.out]; exact CB.cell r7_t 0
  have f7_t1 : (w4.alloc (.cells #[.int .i64 p1, .int .i64 p2, .int .i64 p3, .int .i64 p4] 25)).cell? ⟨w.heap.size, 1, none⟩ = some (.int .i64 sp) := by rw [HW6.out]; exact CB.cell r7_t 1
  have f7_t2 : (w4.alloc (.cells #[.int .i64 p1, .int .i64 p2, .int .i64 p3, .int .i64 p4] 25)).cell? ⟨w.heap.size, 2, none⟩ = some (.int .i64 us) := by rw [HW6.out]; exact CB.cell r7_t 2
  have f7_t3 : (w4.alloc (.cells #[.int .i64 p1, .int .i64 p2, .int .i64 p3, .int .i64 p4] 25)).cell? ⟨w.heap.size, 3, none⟩ = some (.int .i64 cp) := by rw [HW6.out]; exact CB.cell r7_t 3
  go_wp2_with fail
  rw [HW6.out]
  refine (E2 _).mono ?_
  rintro e w8 ⟨rfl, b8⟩
  clear f7_t0 f7_t1 f7_t2 f7_t3
  have r9_t := le_on r7_t b8
  have r9_x := le_on nW6 b8
  have l9 := le_tr l7 b8
  clear r7_t nW6 l7
  clear b8
  have av_y : w.heap.size ≤ w8.heap.size := by have := l9.size; omega
  obtain ⟨W10, hW10⟩ : ∃ V, w8.alloc (.cells #[.int .i64 p1, .int .i64 p2, .int .i64 p3, .int .i64 p4] 23) = V := ⟨_, rfl⟩
  have zW10 : w8.heap.size = w8.heap.size := by rfl
  have nW10 : CB W10 (w8.heap.size) 23 #[.int .i64 p1, .int .i64 p2, .int .i64 p3, .int .i64 p4] := by rw [← zW10, ← hW10]; exact CB.new _ _ _
  have bW10 : Below w8.heap.size w8 W10 := by rw [← hW10]; exact le_al _ _
  have neW10_t : w.heap.size ≠ w8.heap.size := by have := CB.lt r9_t; omega
  have neW10_x : w4.heap.size ≠ w8.heap.size := by have := CB.lt r9_x; omega
  have HW10 := Lib.hid hW10
  clear hW10 zW10
  have r11_t := le_on r9_t bW10
  have r11_x := le_on r9_x bW10
  have l11 := le_tr l9 bW10
  clear r9_t r9_x l9
  clear bW10
  go_wp2_with fail
  rw [HW10.out]
  have y12_0 := Lib.hid (show (fun V : World => V.cell? ⟨w.heap.size, 0, none⟩ = some (.int .i64 dl) ∧ V.cell? ⟨w.heap.size, 1, none⟩ = some (.int .i64 sp) ∧ V.cell? ⟨w.heap.size, 2, none⟩ = some (.int .i64 us) ∧ V.cell? ⟨w.heap.size, 3, none⟩ = some (.int .i64 cp) ∧ V.cell? ⟨w4.heap.size, 0, none⟩ = some (.int .i64 p1) ∧ V.cell? ⟨w4.heap.size, 1, none⟩ = some (.int .i64 p2) ∧ V.cell? ⟨w4.heap.size, 2, none⟩ = some (.int .i64 p3) ∧ V.cell? ⟨w4.heap.size, 3, none⟩ = some (.int .i64 p4) ∧ V.cell? ⟨w8.heap.size, 0, none⟩ = some (.int .i64 p1) ∧ V.cell? ⟨w8.heap.size, 1, none⟩ = some (.int .i64 p2) ∧ V.cell? ⟨w8.heap.size, 2, none⟩ = some (.int .i64 p3) ∧ V.cell? ⟨w8.heap.size, 3, none⟩ = some (.int .i64 p4)) W10 from ⟨CB.cell r11_t 0, CB.cell r11_t 1, CB.cell r11_t 2, CB.cell r11_t 3, CB.cell r11_x 0, CB.cell r11_x 1, CB.cell r11_x 2, CB.cell r11_x 3, CB.cell nW10 0, CB.cell nW10 1, CB.cell nW10 2, CB.cell nW10 3⟩)
  go_region_held3 (fun V : World => V.cell? ⟨w.heap.size, 0, none⟩ = some (.int .i64 dl) ∧ V.cell? ⟨w.heap.size, 1, none⟩ = some (.int .i64 sp) ∧ V.cell? ⟨w.heap.size, 2, none⟩ = some (.int .i64 us) ∧ V.cell? ⟨w.heap.size, 3, none⟩ = some (.int .i64 cp) ∧ V.cell? ⟨w4.heap.size, 0, none⟩ = some (.int .i64 p1) ∧ V.cell? ⟨w4.heap.size, 1, none⟩ = some (.int .i64 p2) ∧ V.cell? ⟨w4.heap.size, 2, none⟩ = some (.int .i64 p3) ∧ V.cell? ⟨w4.heap.size, 3, none⟩ = some (.int .i64 p4) ∧ V.cell? ⟨w8.heap.size, 0, none⟩ = some (.int .i64 p1) ∧ V.cell? ⟨w8.heap.size, 1, none⟩ = some (.int .i64 p2) ∧ V.cell? ⟨w8.heap.size, 2, none⟩ = some (.int .i64 p3) ∧ V.cell? ⟨w8.heap.size, 3, none⟩ = some (.int .i64 p4)) (first | exact y12_0.out | exact y12_1.out | exact y12_2.out | exact y12_3.out | exact y12_4.out | exact y12_5.out | exact y12_6.out) (first
    | (go_at_call 13; (with_reducible refine (R1 W10.drew).mono ?_); rintro e u12_1 ⟨rfl, b12_1⟩; have y12_1 := Lib.hid (show (fun V : World => V.cell? ⟨w.heap.size, 0, none⟩ = some (.int .i64 dl) ∧ V.cell? ⟨w.heap.size, 1, none⟩ = some (.int .i64 sp) ∧ V.cell? ⟨w.heap.size, 2, none⟩ = some (.int .i64 us) ∧ V.cell? ⟨w.heap.size, 3, none⟩ = some (.int .i64 cp) ∧ V.cell? ⟨w4.heap.size, 0, none⟩ = some (.int .i64 p1) ∧ V.cell? ⟨w4.heap.size, 1, none⟩ = some (.int .i64 p2) ∧ V.cell? ⟨w4.heap.size, 2, none⟩ = some (.int .i64 p3) ∧ V.cell? ⟨w4.heap.size, 3, none⟩ = some (.int .i64 p4) ∧ V.cell? ⟨w8.heap.size, 0, none⟩ = some (.int .i64 p1) ∧ V.cell? ⟨w8.heap.size, 1, none⟩ = some (.int .i64 p2) ∧ V.cell? ⟨w8.heap.size, 2, none⟩ = some (.int .i64 p3) ∧ V.cell? ⟨w8.heap.size, 3, none⟩ = some (.int .i64 p4)) u12_1 from ⟨CB.cell (le_on (r11_t).drew b12_1) 0, CB.cell (le_on (r11_t).drew b12_1) 1, CB.cell (le_on (r11_t).drew b12_1) 2, CB.cell (le_on (r11_t).drew b12_1) 3, CB.cell (le_on (r11_x).drew b12_1) 0, CB.cell (le_on (r11_x).drew b12_1) 1, CB.cell (le_on (r11_x).drew b12_1) 2, CB.cell (le_on (r11_x).drew b12_1) 3, CB.cell (le_on (nW10).drew b12_1) 0, CB.cell (le_on (nW10).drew b12_1) 1, CB.cell (le_on (nW10).drew b12_1) 2, CB.cell (le_on (nW10).drew b12_1) 3⟩))
    | (go_at_call 14; (with_reducible refine (R2 u12_1).mono ?_); rintro e u12_2 ⟨rfl, b12_2⟩; have y12_2 := Lib.hid (show (fun V : World => V.cell? ⟨w.heap.size, 0, none⟩ = some (.int .i64 dl) ∧ V.cell? ⟨w.heap.size, 1, none⟩ = some (.int .i64 sp) ∧ V.cell? ⟨w.heap.size, 2, none⟩ = some (.int .i64 us) ∧ V.cell? ⟨w.heap.size, 3, none⟩ = some (.int .i64 cp) ∧ V.cell? ⟨w4.heap.size, 0, none⟩ = some (.int .i64 p1) ∧ V.cell? ⟨w4.heap.size, 1, none⟩ = some (.int .i64 p2) ∧ V.cell? ⟨w4.heap.size, 2, none⟩ = some (.int .i64 p3) ∧ V.cell? ⟨w4.heap.size, 3, none⟩ = some (.int .i64 p4) ∧ V.cell? ⟨w8.heap.size, 0, none⟩ = some (.int .i64 p1) ∧ V.cell? ⟨w8.heap.size, 1, none⟩ = some (.int .i64 p2) ∧ V.cell? ⟨w8.heap.size, 2, none⟩ = some (.int .i64 p3) ∧ V.cell? ⟨w8.heap.size, 3, none⟩ = some (.int .i64 p4)) u12_2 from ⟨CB.cell (le_on (le_on (r11_t).drew b12_1) b12_2) 0, CB.cell (le_on (le_on (r11_t).drew b12_1) b12_2) 1, CB.cell (le_on (le_on (r11_t).drew b12_1) b12_2) 2, CB.cell (le_on (le_on (r11_t).drew b12_1) b12_2) 3, CB.cell (le_on (le_on (r11_x).drew b12_1) b12_2) 0, CB.cell (le_on (le_on (r11_x).drew b12_1) b12_2) 1, CB.cell (le_on (le_on (r11_x).drew b12_1) b12_2) 2, CB.cell (le_on (le_on (r11_x).drew b12_1) b12_2) 3, CB.cell (le_on (le_on (nW10).drew b12_1) b12_2) 0, CB.cell (le_on (le_on (nW10).drew b12_1) b12_2) 1, CB.cell (le_on (le_on (nW10).drew b12_1) b12_2) 2, CB.cell (le_on (le_on (nW10).drew b12_1) b12_2) 3⟩))
    | (go_at_call 15; (with_reducible refine (O1 u12_2).mono ?_); rintro e u12_3 ⟨rfl, b12_3⟩; have y12_3 := Lib.hid (show (fun V : World => V.cell? ⟨w.heap.size, 0, none⟩ = some (.int .i64 dl) ∧ V.cell? ⟨w.heap.size, 1, none⟩ = some (.int .i64 sp) ∧ V.cell? ⟨w.heap.size, 2, none⟩ = some (.int .i64 us) ∧ V.cell? ⟨w.heap.size, 3, none⟩ = some (.int .i64 cp) ∧ V.cell? ⟨w4.heap.size, 0, none⟩ = some (.int .i64 p1) ∧ V.cell? ⟨w4.heap.size, 1, none⟩ = some (.int .i64 p2) ∧ V.cell? ⟨w4.heap.size, 2, none⟩ = some (.int .i64 p3) ∧ V.cell? ⟨w4.heap.size, 3, none⟩ = some (.int .i64 p4) ∧ V.cell? ⟨w8.heap.size, 0, none⟩ = some (.int .i64 p1) ∧ V.cell? ⟨w8.heap.size, 1, none⟩ = some (.int .i64 p2) ∧ V.cell? ⟨w8.heap.size, 2, none⟩ = some (.int .i64 p3) ∧ V.cell? ⟨w8.heap.size, 3, none⟩ = some (.int .i64 p4)) u12_3 from ⟨CB.cell (le_on (le_on (le_on (r11_t).drew b12_1) b12_2) b12_3) 0, CB.cell (le_on (le_on (le_on (r11_t).drew b12_1) b12_2) b12_3) 1, CB.cell (le_on (le_on (le_on (r11_t).drew b12_1) b12_2) b12_3) 2, CB.cell (le_on (le_on (le_on (r11_t).drew b12_1) b12_2) b12_3) 3, CB.cell (le_on (le_on (le_on (r11_x).drew b12_1) b12_2) b12_3) 0, CB.cell (le_on (le_on (le_on (r11_x).drew b12_1) b12_2) b12_3) 1, CB.cell (le_on (le_on (le_on (r11_x).drew b12_1) b12_2) b12_3) 2, CB.cell (le_on (le_on (le_on (r11_x).drew b12_1) b12_2) b12_3) 3, CB.cell (le_on (le_on (le_on (nW10).drew b12_1) b12_2) b12_3) 0, CB.cell (le_on (le_on (le_on (nW10).drew b12_1) b12_2) b12_3) 1, CB.cell (le_on (le_on (le_on (nW10).drew b12_1) b12_2) b12_3) 2, CB.cell (le_on (le_on (le_on (nW10).drew b12_1) b12_2) b12_3) 3⟩))
    | (go_at_call 16; (with_reducible refine (O2 u12_3).mono ?_); rintro e u12_4 ⟨rfl, b12_4⟩; have y12_4 := Lib.hid (show (fun V : World => V.cell? ⟨w.heap.size, 0, none⟩ = some (.int .i64 dl) ∧ V.cell? ⟨w.heap.size, 1, none⟩ = some (.int .i64 sp) ∧ V.cell? ⟨w.heap.size, 2, none⟩ = some (.int .i64 us) ∧ V.cell? ⟨w.heap.size, 3, none⟩ = some (.int .i64 cp) ∧ V.cell? ⟨w4.heap.size, 0, none⟩ = some (.int .i64 p1) ∧ V.cell? ⟨w4.heap.size, 1, none⟩ = some (.int .i64 p2) ∧ V.cell? ⟨w4.heap.size, 2, none⟩ = some (.int .i64 p3) ∧ V.cell? ⟨w4.heap.size, 3, none⟩ = some (.int .i64 p4) ∧ V.cell? ⟨w8.heap.size, 0, none⟩ = some (.int .i64 p1) ∧ V.cell? ⟨w8.heap.size, 1, none⟩ = some (.int .i64 p2) ∧ V.cell? ⟨w8.heap.size, 2, none⟩ = some (.int .i64 p3) ∧ V.cell? ⟨w8.heap.size, 3, none⟩ = some (.int .i64 p4)) u12_4 from ⟨CB.cell (le_on (le_on (le_on (le_on (r11_t).drew b12_1) b12_2) b12_3) b12_4) 0, CB.cell (le_on (le_on (le_on (le_on (r11_t).drew b12_1) b12_2) b12_3) b12_4) 1, CB.cell (le_on (le_on (le_on (le_on (r11_t).drew b12_1) b12_2) b12_3) b12_4) 2, CB.cell (le_on (le_on (le_on (le_on (r11_t).drew b12_1) b12_2) b12_3) b12_4) 3, CB.cell (le_on (le_on (le_on (le_on (r11_x).drew b12_1) b12_2) b12_3) b12_4) 0, CB.cell (le_on (le_on (le_on (le_on (r11_x).drew b12_1) b12_2) b12_3) b12_4) 1, CB.cell (le_on (le_on (le_on (le_on (r11_x).drew b12_1) b12_2) b12_3) b12_4) 2, CB.cell (le_on (le_on (le_on (le_on (r11_x).drew b12_1) b12_2) b12_3) b12_4) 3, CB.cell (le_on (le_on (le_on (le_on (nW10).drew b12_1) b12_2) b12_3) b12_4) 0, CB.cell (le_on (le_on (le_on (le_on (nW10).drew b12_1) b12_2) b12_3) b12_4) 1, CB.cell (le_on (le_on (le_on (le_on (nW10).drew b12_1) b12_2) b12_3) b12_4) 2, CB.cell (le_on (le_on (le_on (le_on (nW10).drew b12_1) b12_2) b12_3) b12_4) 3⟩))
    | (go_at_call 17; (with_reducible refine (L1 u12_4).mono ?_); rintro e u12_5 ⟨rfl, b12_5⟩; have y12_5 := Lib.hid (show (fun V : World => V.cell? ⟨w.heap.size, 0, none⟩ = some (.int .i64 dl) ∧ V.cell? ⟨w.heap.size, 1, none⟩ = some (.int .i64 sp) ∧ V.cell? ⟨w.heap.size, 2, none⟩ = some (.int .i64 us) ∧ V.cell? ⟨w.heap.size, 3, none⟩ = some (.int .i64 cp) ∧ V.cell? ⟨w4.heap.size, 0, none⟩ = some (.int .i64 p1) ∧ V.cell? ⟨w4.heap.size, 1, none⟩ = some (.int .i64 p2) ∧ V.cell? ⟨w4.heap.size, 2, none⟩ = some (.int .i64 p3) ∧ V.cell? ⟨w4.heap.size, 3, none⟩ = some (.int .i64 p4) ∧ V.cell? ⟨w8.heap.size, 0, none⟩ = some (.int .i64 p1) ∧ V.cell? ⟨w8.heap.size, 1, none⟩ = some (.int .i64 p2) ∧ V.cell? ⟨w8.heap.size, 2, none⟩ = some (.int .i64 p3) ∧ V.cell? ⟨w8.heap.size, 3, none⟩ = some (.int .i64 p4)) u12_5 from ⟨CB.cell (le_on (le_on (le_on (le_on (le_on (r11_t).drew b12_1) b12_2) b12_3) b12_4) b12_5) 0, CB.cell (le_on (le_on (le_on (le_on (le_on (r11_t).drew b12_1) b12_2) b12_3) b12_4) b12_5) 1, CB.cell (le_on (le_on (le_on (le_on (le_on (r11_t).drew b12_1) b12_2) b12_3) b12_4) b12_5) 2, CB.cell (le_on (le_on (le_on (le_on (le_on (r11_t).drew b12_1) b12_2) b12_3) b12_4) b12_5) 3, CB.cell (le_on (le_on (le_on (le_on (le_on (r11_x).drew b12_1) b12_2) b12_3) b12_4) b12_5) 0, CB.cell (le_on (le_on (le_on (le_on (le_on (r11_x).drew b12_1) b12_2) b12_3) b12_4) b12_5) 1, CB.cell (le_on (le_on (le_on (le_on (le_on (r11_x).drew b12_1) b12_2) b12_3) b12_4) b12_5) 2, CB.cell (le_on (le_on (le_on (le_on (le_on (r11_x).drew b12_1) b12_2) b12_3) b12_4) b12_5) 3, CB.cell (le_on (le_on (le_on (le_on (le_on (nW10).drew b12_1) b12_2) b12_3) b12_4) b12_5) 0, CB.cell (le_on (le_on (le_on (le_on (le_on (nW10).drew b12_1) b12_2) b12_3) b12_4) b12_5) 1, CB.cell (le_on (le_on (le_on (le_on (le_on (nW10).drew b12_1) b12_2) b12_3) b12_4) b12_5) 2, CB.cell (le_on (le_on (le_on (le_on (le_on (nW10).drew b12_1) b12_2) b12_3) b12_4) b12_5) 3⟩))
    | (go_at_call 18; (with_reducible refine (L2 u12_5).mono ?_); rintro e u12_6 ⟨rfl, b12_6⟩; have y12_6 := Lib.hid (show (fun V : World => V.cell? ⟨w.heap.size, 0, none⟩ = some (.int .i64 dl) ∧ V.cell? ⟨w.heap.size, 1, none⟩ = some (.int .i64 sp) ∧ V.cell? ⟨w.heap.size, 2, none⟩ = some (.int .i64 us) ∧ V.cell? ⟨w.heap.size, 3, none⟩ = some (.int .i64 cp) ∧ V.cell? ⟨w4.heap.size, 0, none⟩ = some (.int .i64 p1) ∧ V.cell? ⟨w4.heap.size, 1, none⟩ = some (.int .i64 p2) ∧ V.cell? ⟨w4.heap.size, 2, none⟩ = some (.int .i64 p3) ∧ V.cell? ⟨w4.heap.size, 3, none⟩ = some (.int .i64 p4) ∧ V.cell? ⟨w8.heap.size, 0, none⟩ = some (.int .i64 p1) ∧ V.cell? ⟨w8.heap.size, 1, none⟩ = some (.int .i64 p2) ∧ V.cell? ⟨w8.heap.size, 2, none⟩ = some (.int .i64 p3) ∧ V.cell? ⟨w8.heap.size, 3, none⟩ = some (.int .i64 p4)) u12_6 from ⟨CB.cell (le_on (le_on (le_on (le_on (le_on (le_on (r11_t).drew b12_1) b12_2) b12_3) b12_4) b12_5) b12_6) 0, CB.cell (le_on (le_on (le_on (le_on (le_on (le_on (r11_t).drew b12_1) b12_2) b12_3) b12_4) b12_5) b12_6) 1, CB.cell (le_on (le_on (le_on (le_on (le_on (le_on (r11_t).drew b12_1) b12_2) b12_3) b12_4) b12_5) b12_6) 2, CB.cell (le_on (le_on (le_on (le_on (le_on (le_on (r11_t).drew b12_1) b12_2) b12_3) b12_4) b12_5) b12_6) 3, CB.cell (le_on (le_on (le_on (le_on (le_on (le_on (r11_x).drew b12_1) b12_2) b12_3) b12_4) b12_5) b12_6) 0, CB.cell (le_on (le_on (le_on (le_on (le_on (le_on (r11_x).drew b12_1) b12_2) b12_3) b12_4) b12_5) b12_6) 1, CB.cell (le_on (le_on (le_on (le_on (le_on (le_on (r11_x).drew b12_1) b12_2) b12_3) b12_4) b12_5) b12_6) 2, CB.cell (le_on (le_on (le_on (le_on (le_on (le_on (r11_x).drew b12_1) b12_2) b12_3) b12_4) b12_5) b12_6) 3, CB.cell (le_on (le_on (le_on (le_on (le_on (le_on (nW10).drew b12_1) b12_2) b12_3) b12_4) b12_5) b12_6) 0, CB.cell (le_on (le_on (le_on (le_on (le_on (le_on (nW10).drew b12_1) b12_2) b12_3) b12_4) b12_5) b12_6) 1, CB.cell (le_on (le_on (le_on (le_on (le_on (le_on (nW10).drew b12_1) b12_2) b12_3) b12_4) b12_5) b12_6) 2, CB.cell (le_on (le_on (le_on (le_on (le_on (le_on (nW10).drew b12_1) b12_2) b12_3) b12_4) b12_5) b12_6) 3⟩)))
  have b12 := le_tr (le_tr (le_tr (le_tr (le_tr (le_dr (W := W10) b12_1) b12_2) b12_3) b12_4) b12_5) b12_6
  have r13_t := le_on r11_t b12
  have r13_x := le_on r11_x b12
  have r13_y := le_on nW10 b12
  have l13 := le_tr l11 b12
  clear r11_t r11_x nW10 l11
  go_wp2_with fail
  go_ret
  exact ⟨rfl, l13⟩
end Go.Proofs.Ytgmkjpkbkiimdaa
