/-
  The walk of the law LeaseCalls: it returns true and leaves all memory that was there. No condition.
-/
import Derived.Test.YtpdjcbigbgoioaaLeD
import Derived.Test.YtpdjcbigbgoioaaLeE
set_option linter.unusedVariables false
set_option linter.unusedSimpArgs false
namespace Go.Proofs.Ytpdjcbigbgoioaa
open Go.RowKit

set_option maxRecDepth 100000 in
set_option maxHeartbeats 4000000 in
theorem calls_walk (ep st to : Int) (g : Bool) (x t : Int) (w : World) : Calls Try.prog 3 #[.agg #[.int .i64 ep, .int .i64 st, .int .u8 to], .agg #[.bool g, .int .i64 x, .int .u8 t]] w fun r w' => r = .returned (.bool true) ∧ Below w.heap.size w w' := by
  obtain ⟨⟨p1, p2, p3⟩, hs1⟩ : ∃ s, sTakeL ⟨ep, st, to⟩ x = s := ⟨_, rfl⟩
  obtain ⟨k1, hk1⟩ : ∃ k, eTakeL ⟨ep, st, to⟩ x = k := ⟨_, rfl⟩
  obtain ⟨⟨q1, q2, q3⟩, hs2⟩ : ∃ s, sGiveL ⟨ep, st, to⟩ t = s := ⟨_, rfl⟩
  obtain ⟨k2, hk2⟩ : ∃ k, eGiveL ⟨ep, st, to⟩ t = k := ⟨_, rfl⟩
  obtain ⟨rt, hrt⟩ : ∃ b, rightL ⟨ep, st, to⟩ = b := ⟨_, rfl⟩
  obtain ⟨sp, hsp⟩ : ∃ b, speaksL ⟨ep, st, to⟩ x = b := ⟨_, rfl⟩
  have T1 := fun W => take_c ep st to x W
  have T2 := fun W => take_r ep st to x W
  have G1 := fun W => give_c ep st to t W
  have G2 := fun W => give_r ep st to t W
  have R1 := fun W => right_c ep st to W
  have R2 := fun W => right_r ep st to W
  have S1 := fun W => speaks_c ep st to x W
  have S2 := fun W => speaks_r ep st to x W
  simp only [hs1, hk1] at T1 T2
  simp only [hs2, hk2] at G1 G2
  simp only [hrt] at R1 R2
  simp only [hsp] at S1 S2
  have e1 : ((k1 : Int) == (k1 : Int)) = true := beq_self_eq_true _
  have e2 : ((k2 : Int) == (k2 : Int)) = true := beq_self_eq_true _
  have e3 : (rt == rt) = true := beq_self_eq_true _
  have e4 : (sp == sp) = true := beq_self_eq_true _
  have e5 : ((p1 : Int) == p1) = true := beq_self_eq_true _
  have e6 : ((p2 : Int) == p2) = true := beq_self_eq_true _
  have e7 : ((p3 : Int) == p3) = true := beq_self_eq_true _
  have e8 : ((q1 : Int) == q1) = true := beq_self_eq_true _
  have e9 : ((q2 : Int) == q2) = true := beq_self_eq_true _
  have e10 : ((q3 : Int) == q3) = true := beq_self_eq_true _
  clear hs1 hk1 hs2 hk2 hrt hsp
  obtain ⟨W1, hW1⟩ : ∃ V, (w.alloc (.cells #[.int .i64 ep, .int .i64 st, .int .u8 to] 23)).alloc (.cells #[.bool g, .int .i64 x, .int .u8 t] 25) = V := ⟨_, rfl⟩
  have nW1_l : CB W1 (w.heap.size) 23 #[.int .i64 ep, .int .i64 st, .int .u8 to] := by
    rw [← hW1]
    have := ((CB.new w 23 #[.int .i64 ep, .int .i64 st, .int .u8 to]).alloc (.cells #[.bool g, .int .i64 x, .int .u8 t] 25))
    simpa using this
  have nW1_a : CB W1 (w.heap.size + 1) 25 #[.bool g, .int .i64 x, .int .u8 t] := by
    rw [← hW1]
    have := (CB.new (w.alloc (.cells #[.int .i64 ep, .int .i64 st, .int .u8 to] 23)) 25 #[.bool g, .int .i64 x, .int .u8 t])
    simpa using this
  have lW1 : Below w.heap.size w W1 := by rw [← hW1]; exact le_tr (le_al _ _) (le_al _ _)
  have HW1 := Lib.hid hW1
  clear hW1
  go_enter Try.func3, Try.ntmps3
  go_wp2_with fail
  rw [HW1.out]
  refine (alive_c _).mono ?_
  rintro e w2 ⟨rfl, b2⟩
  have r3_l := le_on nW1_l b2
  have r3_a := le_on nW1_a b2
  have l3 := le_tr lW1 b2
  clear nW1_l nW1_a lW1
  clear b2
  have f3_l0 : w2.cell? ⟨w.heap.size, 0, none⟩ = some (.int .i64 ep) := CB.cell r3_l 0
  have f3_l1 : w2.cell? ⟨w.heap.size, 1, none⟩ = some (.int .i64 st) := CB.cell r3_l 1
  have f3_l2 : w2.cell? ⟨w.heap.size, 2, none⟩ = some (.int .u8 to) := CB.cell r3_l 2
  have f3_a0 : w2.cell? ⟨w.heap.size + 1, 0, none⟩ = some (.bool g) := CB.cell r3_a 0
  have f3_a1 : w2.cell? ⟨w.heap.size + 1, 1, none⟩ = some (.int .i64 x) := CB.cell r3_a 1
  have f3_a2 : w2.cell? ⟨w.heap.size + 1, 2, none⟩ = some (.int .u8 t) := CB.cell r3_a 2
  go_wp2_with fail
  refine (T1 _).mono ?_
  rintro e w4 ⟨rfl, b4⟩
  clear f3_l0 f3_l1 f3_l2 f3_a0 f3_a1 f3_a2
  have r5_l := le_on r3_l b4
  have r5_a := le_on r3_a b4
  have l5 := le_tr l3 b4
  clear r3_l r3_a l3
  clear b4
  obtain ⟨W6, hW6⟩ : ∃ V, w4.alloc (.cells #[.int .i64 p1, .int .i64 p2, .int .u8 p3] 27) = V := ⟨_, rfl⟩
  have nW6 : CB W6 (w4.heap.size) 27 #[.int .i64 p1, .int .i64 p2, .int .u8 p3] := by rw [← hW6]; exact CB.new _ _ _
  have bW6 : Below w4.heap.size w4 W6 := by rw [← hW6]; exact le_al _ _
  have HW6 := Lib.hid hW6
  clear hW6
  have r7_l := le_on r5_l bW6
  have r7_a := le_on r5_a bW6
  have l7 := le_tr l5 bW6
  clear r5_l r5_a l5
  clear bW6
  have f7_l0 : (w4.alloc (.cells #[.int .i64 p1, .int .i64 p2, .int .u8 p3] 27)).cell? ⟨w.heap.size, 0, none⟩ = some (.int .i64 ep) := by rw [HW6.out]; exact CB.cell r7_l 0
  have f7_l1 : (w4.alloc (.cells #[.int .i64 p1, .int .i64 p2, .int .u8 p3] 27)).cell? ⟨w.heap.size, 1, none⟩ = some (.int .i64 st) := by rw [HW6.out]; exact CB.cell r7_l 1
  have f7_l2 : (w4.alloc (.cells #[.int .i64 p1, .int .i64 p2, .int .u8 p3] 27)).cell? ⟨w.heap.size, 2, none⟩ = some (.int .u8 to) := by rw [HW6.out]; exact CB.cell r7_l 2
  have f7_a0 : (w4.alloc (.cells #[.int .i64 p1, .int .i64 p2, .int .u8 p3] 27)).cell? ⟨w.heap.size + 1, 0, none⟩ = some (.bool g) := by rw [HW6.out]; exact CB.cell r7_a 0
  have f7_a1 : (w4.alloc (.cells #[.int .i64 p1, .int .i64 p2, .int .u8 p3] 27)).cell? ⟨w.heap.size + 1, 1, none⟩ = some (.int .i64 x) := by rw [HW6.out]; exact CB.cell r7_a 1
  have f7_a2 : (w4.alloc (.cells #[.int .i64 p1, .int .i64 p2, .int .u8 p3] 27)).cell? ⟨w.heap.size + 1, 2, none⟩ = some (.int .u8 t) := by rw [HW6.out]; exact CB.cell r7_a 2
  go_wp2_with fail
  rw [HW6.out]
  refine (T2 _).mono ?_
  rintro e w8 ⟨rfl, b8⟩
  clear f7_l0 f7_l1 f7_l2 f7_a0 f7_a1 f7_a2
  have r9_l := le_on r7_l b8
  have r9_a := le_on r7_a b8
  have r9_x := le_on nW6 b8
  have l9 := le_tr l7 b8
  clear r7_l r7_a nW6 l7
  clear b8
  obtain ⟨W10, hW10⟩ : ∃ V, w8.alloc (.cells #[.int .i64 p1, .int .i64 p2, .int .u8 p3] 23) = V := ⟨_, rfl⟩
  have nW10 : CB W10 (w8.heap.size) 23 #[.int .i64 p1, .int .i64 p2, .int .u8 p3] := by rw [← hW10]; exact CB.new _ _ _
  have bW10 : Below w8.heap.size w8 W10 := by rw [← hW10]; exact le_al _ _
  have HW10 := Lib.hid hW10
  clear hW10
  have r11_l := le_on r9_l bW10
  have r11_a := le_on r9_a bW10
  have r11_x := le_on r9_x bW10
  have l11 := le_tr l9 bW10
  clear r9_l r9_a r9_x l9
  clear bW10
  have f11_l0 : (w8.alloc (.cells #[.int .i64 p1, .int .i64 p2, .int .u8 p3] 23)).cell? ⟨w.heap.size, 0, none⟩ = some (.int .i64 ep) := by rw [HW10.out]; exact CB.cell r11_l 0
  have f11_l1 : (w8.alloc (.cells #[.int .i64 p1, .int .i64 p2, .int .u8 p3] 23)).cell? ⟨w.heap.size, 1, none⟩ = some (.int .i64 st) := by rw [HW10.out]; exact CB.cell r11_l 1
  have f11_l2 : (w8.alloc (.cells #[.int .i64 p1, .int .i64 p2, .int .u8 p3] 23)).cell? ⟨w.heap.size, 2, none⟩ = some (.int .u8 to) := by rw [HW10.out]; exact CB.cell r11_l 2
  have f11_a0 : (w8.alloc (.cells #[.int .i64 p1, .int .i64 p2, .int .u8 p3] 23)).cell? ⟨w.heap.size + 1, 0, none⟩ = some (.bool g) := by rw [HW10.out]; exact CB.cell r11_a 0
  have f11_a1 : (w8.alloc (.cells #[.int .i64 p1, .int .i64 p2, .int .u8 p3] 23)).cell? ⟨w.heap.size + 1, 1, none⟩ = some (.int .i64 x) := by rw [HW10.out]; exact CB.cell r11_a 1
  have f11_a2 : (w8.alloc (.cells #[.int .i64 p1, .int .i64 p2, .int .u8 p3] 23)).cell? ⟨w.heap.size + 1, 2, none⟩ = some (.int .u8 t) := by rw [HW10.out]; exact CB.cell r11_a 2
  go_wp2_with fail
  rw [HW10.out]
  refine (G1 _).mono ?_
  rintro e w12 ⟨rfl, b12⟩
  clear f11_l0 f11_l1 f11_l2 f11_a0 f11_a1 f11_a2
  have r13_l := le_on r11_l b12
  have r13_a := le_on r11_a b12
  have r13_x := le_on r11_x b12
  have r13_y := le_on nW10 b12
  have l13 := le_tr l11 b12
  clear r11_l r11_a r11_x nW10 l11
  clear b12
  obtain ⟨W14, hW14⟩ : ∃ V, w12.alloc (.cells #[.int .i64 q1, .int .i64 q2, .int .u8 q3] 27) = V := ⟨_, rfl⟩
  have nW14 : CB W14 (w12.heap.size) 27 #[.int .i64 q1, .int .i64 q2, .int .u8 q3] := by rw [← hW14]; exact CB.new _ _ _
  have bW14 : Below w12.heap.size w12 W14 := by rw [← hW14]; exact le_al _ _
  have HW14 := Lib.hid hW14
  clear hW14
  have r15_l := le_on r13_l bW14
  have r15_a := le_on r13_a bW14
  have r15_x := le_on r13_x bW14
  have r15_y := le_on r13_y bW14
  have l15 := le_tr l13 bW14
  clear r13_l r13_a r13_x r13_y l13
  clear bW14
  have f15_l0 : (w12.alloc (.cells #[.int .i64 q1, .int .i64 q2, .int .u8 q3] 27)).cell? ⟨w.heap.size, 0, none⟩ = some (.int .i64 ep) := by rw [HW14.out]; exact CB.cell r15_l 0
  have f15_l1 : (w12.alloc (.cells #[.int .i64 q1, .int .i64 q2, .int .u8 q3] 27)).cell? ⟨w.heap.size, 1, none⟩ = some (.int .i64 st) := by rw [HW14.out]; exact CB.cell r15_l 1
  have f15_l2 : (w12.alloc (.cells #[.int .i64 q1, .int .i64 q2, .int .u8 q3] 27)).cell? ⟨w.heap.size, 2, none⟩ = some (.int .u8 to) := by rw [HW14.out]; exact CB.cell r15_l 2
  have f15_a0 : (w12.alloc (.cells #[.int .i64 q1, .int .i64 q2, .int .u8 q3] 27)).cell? ⟨w.heap.size + 1, 0, none⟩ = some (.bool g) := by rw [HW14.out]; exact CB.cell r15_a 0
  have f15_a1 : (w12.alloc (.cells #[.int .i64 q1, .int .i64 q2, .int .u8 q3] 27)).cell? ⟨w.heap.size + 1, 1, none⟩ = some (.int .i64 x) := by rw [HW14.out]; exact CB.cell r15_a 1
  have f15_a2 : (w12.alloc (.cells #[.int .i64 q1, .int .i64 q2, .int .u8 q3] 27)).cell? ⟨w.heap.size + 1, 2, none⟩ = some (.int .u8 t) := by rw [HW14.out]; exact CB.cell r15_a 2
  go_wp2_with fail
  rw [HW14.out]
  refine (G2 _).mono ?_
  rintro e w16 ⟨rfl, b16⟩
  clear f15_l0 f15_l1 f15_l2 f15_a0 f15_a1 f15_a2
  have r17_l := le_on r15_l b16
  have r17_a := le_on r15_a b16
  have r17_x := le_on r15_x b16
  have r17_y := le_on r15_y b16
  have r17_z := le_on nW14 b16
  have l17 := le_tr l15 b16
  clear r15_l r15_a r15_x r15_y nW14 l15
  clear b16
  obtain ⟨W18, hW18⟩ : ∃ V, w16.alloc (.cells #[.int .i64 q1, .int .i64 q2, .int .u8 q3] 23) = V := ⟨_, rfl⟩
  have nW18 : CB W18 (w16.heap.size) 23 #[.int .i64 q1, .int .i64 q2, .int .u8 q3] := by rw [← hW18]; exact CB.new _ _ _
  have bW18 : Below w16.heap.size w16 W18 := by rw [← hW18]; exact le_al _ _
  have HW18 := Lib.hid hW18
  clear hW18
  have r19_l := le_on r17_l bW18
  have r19_a := le_on r17_a bW18
  have r19_x := le_on r17_x bW18
  have r19_y := le_on r17_y bW18
  have r19_z := le_on r17_z bW18
  have l19 := le_tr l17 bW18
  clear r17_l r17_a r17_x r17_y r17_z l17
  clear bW18
  go_wp2_with fail
  rw [HW18.out]
  have y20_0 := Lib.hid (show (fun V : World => V.cell? ⟨w.heap.size, 0, none⟩ = some (.int .i64 ep) ∧ V.cell? ⟨w.heap.size, 1, none⟩ = some (.int .i64 st) ∧ V.cell? ⟨w.heap.size, 2, none⟩ = some (.int .u8 to) ∧ V.cell? ⟨w.heap.size + 1, 0, none⟩ = some (.bool g) ∧ V.cell? ⟨w.heap.size + 1, 1, none⟩ = some (.int .i64 x) ∧ V.cell? ⟨w.heap.size + 1, 2, none⟩ = some (.int .u8 t) ∧ V.cell? ⟨w4.heap.size, 0, none⟩ = some (.int .i64 p1) ∧ V.cell? ⟨w4.heap.size, 1, none⟩ = some (.int .i64 p2) ∧ V.cell? ⟨w4.heap.size, 2, none⟩ = some (.int .u8 p3) ∧ V.cell? ⟨w8.heap.size, 0, none⟩ = some (.int .i64 p1) ∧ V.cell? ⟨w8.heap.size, 1, none⟩ = some (.int .i64 p2) ∧ V.cell? ⟨w8.heap.size, 2, none⟩ = some (.int .u8 p3) ∧ V.cell? ⟨w12.heap.size, 0, none⟩ = some (.int .i64 q1) ∧ V.cell? ⟨w12.heap.size, 1, none⟩ = some (.int .i64 q2) ∧ V.cell? ⟨w12.heap.size, 2, none⟩ = some (.int .u8 q3) ∧ V.cell? ⟨w16.heap.size, 0, none⟩ = some (.int .i64 q1) ∧ V.cell? ⟨w16.heap.size, 1, none⟩ = some (.int .i64 q2) ∧ V.cell? ⟨w16.heap.size, 2, none⟩ = some (.int .u8 q3)) W18 from ⟨CB.cell r19_l 0, CB.cell r19_l 1, CB.cell r19_l 2, CB.cell r19_a 0, CB.cell r19_a 1, CB.cell r19_a 2, CB.cell r19_x 0, CB.cell r19_x 1, CB.cell r19_x 2, CB.cell r19_y 0, CB.cell r19_y 1, CB.cell r19_y 2, CB.cell r19_z 0, CB.cell r19_z 1, CB.cell r19_z 2, CB.cell nW18 0, CB.cell nW18 1, CB.cell nW18 2⟩)
  go_region_held3 (fun V : World => V.cell? ⟨w.heap.size, 0, none⟩ = some (.int .i64 ep) ∧ V.cell? ⟨w.heap.size, 1, none⟩ = some (.int .i64 st) ∧ V.cell? ⟨w.heap.size, 2, none⟩ = some (.int .u8 to) ∧ V.cell? ⟨w.heap.size + 1, 0, none⟩ = some (.bool g) ∧ V.cell? ⟨w.heap.size + 1, 1, none⟩ = some (.int .i64 x) ∧ V.cell? ⟨w.heap.size + 1, 2, none⟩ = some (.int .u8 t) ∧ V.cell? ⟨w4.heap.size, 0, none⟩ = some (.int .i64 p1) ∧ V.cell? ⟨w4.heap.size, 1, none⟩ = some (.int .i64 p2) ∧ V.cell? ⟨w4.heap.size, 2, none⟩ = some (.int .u8 p3) ∧ V.cell? ⟨w8.heap.size, 0, none⟩ = some (.int .i64 p1) ∧ V.cell? ⟨w8.heap.size, 1, none⟩ = some (.int .i64 p2) ∧ V.cell? ⟨w8.heap.size, 2, none⟩ = some (.int .u8 p3) ∧ V.cell? ⟨w12.heap.size, 0, none⟩ = some (.int .i64 q1) ∧ V.cell? ⟨w12.heap.size, 1, none⟩ = some (.int .i64 q2) ∧ V.cell? ⟨w12.heap.size, 2, none⟩ = some (.int .u8 q3) ∧ V.cell? ⟨w16.heap.size, 0, none⟩ = some (.int .i64 q1) ∧ V.cell? ⟨w16.heap.size, 1, none⟩ = some (.int .i64 q2) ∧ V.cell? ⟨w16.heap.size, 2, none⟩ = some (.int .u8 q3)) (first | exact y20_0.out | exact y20_1.out | exact y20_2.out | exact y20_3.out | exact y20_4.out) (first
    | (go_at_call 14; (with_reducible refine (R1 W18.drew).mono ?_); rintro e u20_1 ⟨rfl, b20_1⟩; have y20_1 := Lib.hid (show (fun V : World => V.cell? ⟨w.heap.size, 0, none⟩ = some (.int .i64 ep) ∧ V.cell? ⟨w.heap.size, 1, none⟩ = some (.int .i64 st) ∧ V.cell? ⟨w.heap.size, 2, none⟩ = some (.int .u8 to) ∧ V.cell? ⟨w.heap.size + 1, 0, none⟩ = some (.bool g) ∧ V.cell? ⟨w.heap.size + 1, 1, none⟩ = some (.int .i64 x) ∧ V.cell? ⟨w.heap.size + 1, 2, none⟩ = some (.int .u8 t) ∧ V.cell? ⟨w4.heap.size, 0, none⟩ = some (.int .i64 p1) ∧ V.cell? ⟨w4.heap.size, 1, none⟩ = some (.int .i64 p2) ∧ V.cell? ⟨w4.heap.size, 2, none⟩ = some (.int .u8 p3) ∧ V.cell? ⟨w8.heap.size, 0, none⟩ = some (.int .i64 p1) ∧ V.cell? ⟨w8.heap.size, 1, none⟩ = some (.int .i64 p2) ∧ V.cell? ⟨w8.heap.size, 2, none⟩ = some (.int .u8 p3) ∧ V.cell? ⟨w12.heap.size, 0, none⟩ = some (.int .i64 q1) ∧ V.cell? ⟨w12.heap.size, 1, none⟩ = some (.int .i64 q2) ∧ V.cell? ⟨w12.heap.size, 2, none⟩ = some (.int .u8 q3) ∧ V.cell? ⟨w16.heap.size, 0, none⟩ = some (.int .i64 q1) ∧ V.cell? ⟨w16.heap.size, 1, none⟩ = some (.int .i64 q2) ∧ V.cell? ⟨w16.heap.size, 2, none⟩ = some (.int .u8 q3)) u20_1 from ⟨CB.cell (le_on (r19_l).drew b20_1) 0, CB.cell (le_on (r19_l).drew b20_1) 1, CB.cell (le_on (r19_l).drew b20_1) 2, CB.cell (le_on (r19_a).drew b20_1) 0, CB.cell (le_on (r19_a).drew b20_1) 1, CB.cell (le_on (r19_a).drew b20_1) 2, CB.cell (le_on (r19_x).drew b20_1) 0, CB.cell (le_on (r19_x).drew b20_1) 1, CB.cell (le_on (r19_x).drew b20_1) 2, CB.cell (le_on (r19_y).drew b20_1) 0, CB.cell (le_on (r19_y).drew b20_1) 1, CB.cell (le_on (r19_y).drew b20_1) 2, CB.cell (le_on (r19_z).drew b20_1) 0, CB.cell (le_on (r19_z).drew b20_1) 1, CB.cell (le_on (r19_z).drew b20_1) 2, CB.cell (le_on (nW18).drew b20_1) 0, CB.cell (le_on (nW18).drew b20_1) 1, CB.cell (le_on (nW18).drew b20_1) 2⟩))
    | (go_at_call 15; (with_reducible refine (R2 u20_1).mono ?_); rintro e u20_2 ⟨rfl, b20_2⟩; have y20_2 := Lib.hid (show (fun V : World => V.cell? ⟨w.heap.size, 0, none⟩ = some (.int .i64 ep) ∧ V.cell? ⟨w.heap.size, 1, none⟩ = some (.int .i64 st) ∧ V.cell? ⟨w.heap.size, 2, none⟩ = some (.int .u8 to) ∧ V.cell? ⟨w.heap.size + 1, 0, none⟩ = some (.bool g) ∧ V.cell? ⟨w.heap.size + 1, 1, none⟩ = some (.int .i64 x) ∧ V.cell? ⟨w.heap.size + 1, 2, none⟩ = some (.int .u8 t) ∧ V.cell? ⟨w4.heap.size, 0, none⟩ = some (.int .i64 p1) ∧ V.cell? ⟨w4.heap.size, 1, none⟩ = some (.int .i64 p2) ∧ V.cell? ⟨w4.heap.size, 2, none⟩ = some (.int .u8 p3) ∧ V.cell? ⟨w8.heap.size, 0, none⟩ = some (.int .i64 p1) ∧ V.cell? ⟨w8.heap.size, 1, none⟩ = some (.int .i64 p2) ∧ V.cell? ⟨w8.heap.size, 2, none⟩ = some (.int .u8 p3) ∧ V.cell? ⟨w12.heap.size, 0, none⟩ = some (.int .i64 q1) ∧ V.cell? ⟨w12.heap.size, 1, none⟩ = some (.int .i64 q2) ∧ V.cell? ⟨w12.heap.size, 2, none⟩ = some (.int .u8 q3) ∧ V.cell? ⟨w16.heap.size, 0, none⟩ = some (.int .i64 q1) ∧ V.cell? ⟨w16.heap.size, 1, none⟩ = some (.int .i64 q2) ∧ V.cell? ⟨w16.heap.size, 2, none⟩ = some (.int .u8 q3)) u20_2 from ⟨CB.cell (le_on (le_on (r19_l).drew b20_1) b20_2) 0, CB.cell (le_on (le_on (r19_l).drew b20_1) b20_2) 1, CB.cell (le_on (le_on (r19_l).drew b20_1) b20_2) 2, CB.cell (le_on (le_on (r19_a).drew b20_1) b20_2) 0, CB.cell (le_on (le_on (r19_a).drew b20_1) b20_2) 1, CB.cell (le_on (le_on (r19_a).drew b20_1) b20_2) 2, CB.cell (le_on (le_on (r19_x).drew b20_1) b20_2) 0, CB.cell (le_on (le_on (r19_x).drew b20_1) b20_2) 1, CB.cell (le_on (le_on (r19_x).drew b20_1) b20_2) 2, CB.cell (le_on (le_on (r19_y).drew b20_1) b20_2) 0, CB.cell (le_on (le_on (r19_y).drew b20_1) b20_2) 1, CB.cell (le_on (le_on (r19_y).drew b20_1) b20_2) 2, CB.cell (le_on (le_on (r19_z).drew b20_1) b20_2) 0, CB.cell (le_on (le_on (r19_z).drew b20_1) b20_2) 1, CB.cell (le_on (le_on (r19_z).drew b20_1) b20_2) 2, CB.cell (le_on (le_on (nW18).drew b20_1) b20_2) 0, CB.cell (le_on (le_on (nW18).drew b20_1) b20_2) 1, CB.cell (le_on (le_on (nW18).drew b20_1) b20_2) 2⟩))
    | (go_at_call 16; (with_reducible refine (S1 u20_2).mono ?_); rintro e u20_3 ⟨rfl, b20_3⟩; have y20_3 := Lib.hid (show (fun V : World => V.cell? ⟨w.heap.size, 0, none⟩ = some (.int .i64 ep) ∧ V.cell? ⟨w.heap.size, 1, none⟩ = some (.int .i64 st) ∧ V.cell? ⟨w.heap.size, 2, none⟩ = some (.int .u8 to) ∧ V.cell? ⟨w.heap.size + 1, 0, none⟩ = some (.bool g) ∧ V.cell? ⟨w.heap.size + 1, 1, none⟩ = some (.int .i64 x) ∧ V.cell? ⟨w.heap.size + 1, 2, none⟩ = some (.int .u8 t) ∧ V.cell? ⟨w4.heap.size, 0, none⟩ = some (.int .i64 p1) ∧ V.cell? ⟨w4.heap.size, 1, none⟩ = some (.int .i64 p2) ∧ V.cell? ⟨w4.heap.size, 2, none⟩ = some (.int .u8 p3) ∧ V.cell? ⟨w8.heap.size, 0, none⟩ = some (.int .i64 p1) ∧ V.cell? ⟨w8.heap.size, 1, none⟩ = some (.int .i64 p2) ∧ V.cell? ⟨w8.heap.size, 2, none⟩ = some (.int .u8 p3) ∧ V.cell? ⟨w12.heap.size, 0, none⟩ = some (.int .i64 q1) ∧ V.cell? ⟨w12.heap.size, 1, none⟩ = some (.int .i64 q2) ∧ V.cell? ⟨w12.heap.size, 2, none⟩ = some (.int .u8 q3) ∧ V.cell? ⟨w16.heap.size, 0, none⟩ = some (.int .i64 q1) ∧ V.cell? ⟨w16.heap.size, 1, none⟩ = some (.int .i64 q2) ∧ V.cell? ⟨w16.heap.size, 2, none⟩ = some (.int .u8 q3)) u20_3 from ⟨CB.cell (le_on (le_on (le_on (r19_l).drew b20_1) b20_2) b20_3) 0, CB.cell (le_on (le_on (le_on (r19_l).drew b20_1) b20_2) b20_3) 1, CB.cell (le_on (le_on (le_on (r19_l).drew b20_1) b20_2) b20_3) 2, CB.cell (le_on (le_on (le_on (r19_a).drew b20_1) b20_2) b20_3) 0, CB.cell (le_on (le_on (le_on (r19_a).drew b20_1) b20_2) b20_3) 1, CB.cell (le_on (le_on (le_on (r19_a).drew b20_1) b20_2) b20_3) 2, CB.cell (le_on (le_on (le_on (r19_x).drew b20_1) b20_2) b20_3) 0, CB.cell (le_on (le_on (le_on (r19_x).drew b20_1) b20_2) b20_3) 1, CB.cell (le_on (le_on (le_on (r19_x).drew b20_1) b20_2) b20_3) 2, CB.cell (le_on (le_on (le_on (r19_y).drew b20_1) b20_2) b20_3) 0, CB.cell (le_on (le_on (le_on (r19_y).drew b20_1) b20_2) b20_3) 1, CB.cell (le_on (le_on (le_on (r19_y).drew b20_1) b20_2) b20_3) 2, CB.cell (le_on (le_on (le_on (r19_z).drew b20_1) b20_2) b20_3) 0, CB.cell (le_on (le_on (le_on (r19_z).drew b20_1) b20_2) b20_3) 1, CB.cell (le_on (le_on (le_on (r19_z).drew b20_1) b20_2) b20_3) 2, CB.cell (le_on (le_on (le_on (nW18).drew b20_1) b20_2) b20_3) 0, CB.cell (le_on (le_on (le_on (nW18).drew b20_1) b20_2) b20_3) 1, CB.cell (le_on (le_on (le_on (nW18).drew b20_1) b20_2) b20_3) 2⟩))
    | (go_at_call 17; (with_reducible refine (S2 u20_3).mono ?_); rintro e u20_4 ⟨rfl, b20_4⟩; have y20_4 := Lib.hid (show (fun V : World => V.cell? ⟨w.heap.size, 0, none⟩ = some (.int .i64 ep) ∧ V.cell? ⟨w.heap.size, 1, none⟩ = some (.int .i64 st) ∧ V.cell? ⟨w.heap.size, 2, none⟩ = some (.int .u8 to) ∧ V.cell? ⟨w.heap.size + 1, 0, none⟩ = some (.bool g) ∧ V.cell? ⟨w.heap.size + 1, 1, none⟩ = some (.int .i64 x) ∧ V.cell? ⟨w.heap.size + 1, 2, none⟩ = some (.int .u8 t) ∧ V.cell? ⟨w4.heap.size, 0, none⟩ = some (.int .i64 p1) ∧ V.cell? ⟨w4.heap.size, 1, none⟩ = some (.int .i64 p2) ∧ V.cell? ⟨w4.heap.size, 2, none⟩ = some (.int .u8 p3) ∧ V.cell? ⟨w8.heap.size, 0, none⟩ = some (.int .i64 p1) ∧ V.cell? ⟨w8.heap.size, 1, none⟩ = some (.int .i64 p2) ∧ V.cell? ⟨w8.heap.size, 2, none⟩ = some (.int .u8 p3) ∧ V.cell? ⟨w12.heap.size, 0, none⟩ = some (.int .i64 q1) ∧ V.cell? ⟨w12.heap.size, 1, none⟩ = some (.int .i64 q2) ∧ V.cell? ⟨w12.heap.size, 2, none⟩ = some (.int .u8 q3) ∧ V.cell? ⟨w16.heap.size, 0, none⟩ = some (.int .i64 q1) ∧ V.cell? ⟨w16.heap.size, 1, none⟩ = some (.int .i64 q2) ∧ V.cell? ⟨w16.heap.size, 2, none⟩ = some (.int .u8 q3)) u20_4 from ⟨CB.cell (le_on (le_on (le_on (le_on (r19_l).drew b20_1) b20_2) b20_3) b20_4) 0, CB.cell (le_on (le_on (le_on (le_on (r19_l).drew b20_1) b20_2) b20_3) b20_4) 1, CB.cell (le_on (le_on (le_on (le_on (r19_l).drew b20_1) b20_2) b20_3) b20_4) 2, CB.cell (le_on (le_on (le_on (le_on (r19_a).drew b20_1) b20_2) b20_3) b20_4) 0, CB.cell (le_on (le_on (le_on (le_on (r19_a).drew b20_1) b20_2) b20_3) b20_4) 1, CB.cell (le_on (le_on (le_on (le_on (r19_a).drew b20_1) b20_2) b20_3) b20_4) 2, CB.cell (le_on (le_on (le_on (le_on (r19_x).drew b20_1) b20_2) b20_3) b20_4) 0, CB.cell (le_on (le_on (le_on (le_on (r19_x).drew b20_1) b20_2) b20_3) b20_4) 1, CB.cell (le_on (le_on (le_on (le_on (r19_x).drew b20_1) b20_2) b20_3) b20_4) 2, CB.cell (le_on (le_on (le_on (le_on (r19_y).drew b20_1) b20_2) b20_3) b20_4) 0, CB.cell (le_on (le_on (le_on (le_on (r19_y).drew b20_1) b20_2) b20_3) b20_4) 1, CB.cell (le_on (le_on (le_on (le_on (r19_y).drew b20_1) b20_2) b20_3) b20_4) 2, CB.cell (le_on (le_on (le_on (le_on (r19_z).drew b20_1) b20_2) b20_3) b20_4) 0, CB.cell (le_on (le_on (le_on (le_on (r19_z).drew b20_1) b20_2) b20_3) b20_4) 1, CB.cell (le_on (le_on (le_on (le_on (r19_z).drew b20_1) b20_2) b20_3) b20_4) 2, CB.cell (le_on (le_on (le_on (le_on (nW18).drew b20_1) b20_2) b20_3) b20_4) 0, CB.cell (le_on (le_on (le_on (le_on (nW18).drew b20_1) b20_2) b20_3) b20_4) 1, CB.cell (le_on (le_on (le_on (le_on (nW18).drew b20_1) b20_2) b20_3) b20_4) 2⟩)))
  have b20 := le_tr (le_tr (le_tr (le_dr (W := W18) b20_1) b20_2) b20_3) b20_4
  have r21_l := le_on r19_l b20
  have r21_a := le_on r19_a b20
  have r21_x := le_on r19_x b20
  have r21_y := le_on r19_y b20
  have r21_z := le_on r19_z b20
  have r21_u := le_on nW18 b20
  have l21 := le_tr l19 b20
  clear r19_l r19_a r19_x r19_y r19_z nW18 l19
  go_wp2_with fail
  go_ret
  exact ⟨rfl, l21⟩
end Go.Proofs.Ytpdjcbigbgoioaa
