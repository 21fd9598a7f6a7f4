/-
  The walk of the law LeaseBytes: it returns true and leaves all memory that was there. Conditions: the lease's numbers are in the range of their types; the bytes can be read.
-/
import Derived.Test.YtpdjcbigbgoioaaLeI
import Derived.Test.YtpdjcbigbgoioaaLeE
set_option linter.unusedVariables false
set_option linter.unusedSimpArgs false
namespace Go.Proofs.Ytpdjcbigbgoioaa
open Go.RowKit

theorem BR.onL {w w' : World} {A : Option Addr} {n c : Nat} {bs : List UInt8} (h : BR w w.heap.size A n c bs) (hb : Below w.heap.size w w') : BR w' w'.heap.size A n c bs := (h.below hb (Nat.le_refl _)).more hb.size

set_option maxRecDepth 100000 in
set_option maxHeartbeats 4000000 in
theorem bytes_walk (ep st to : Int) (A : Option Addr) (n cap : Nat) (bs : List UInt8) (w : World) (hl : inL ⟨ep, st, to⟩) (hb : BR w w.heap.size A n cap bs) : Calls Try.prog 4 #[.agg #[.int .i64 ep, .int .i64 st, .int .u8 to], .slice A n cap] w fun r w' => r = .returned (.bool true) ∧ Below w.heap.size w w' := by
  cases hrt : rightL ⟨ep, st, to⟩ with
  | false =>
    have E1 := fun W => encL_c ep st to W hl
    have E2 := fun W => encL_r ep st to W hl
    have hk : kLe ⟨ep, st, to⟩ = 2 := by unfold kLe; rw [hrt]; rfl
    obtain ⟨bx, hbx⟩ : ∃ b, bLe ⟨ep, st, to⟩ = b := ⟨_, rfl⟩
    simp only [hbx, hk] at E1 E2
    obtain ⟨⟨p1, p2, p3⟩, hs1⟩ : ∃ s, sDL bs = s := ⟨_, rfl⟩
    obtain ⟨k1, hk1⟩ : ∃ k, kDL bs = k := ⟨_, rfl⟩
    have D1 := fun W (h : BR W W.heap.size A n cap bs) => decL_c A n cap bs W h
    simp only [hs1, hk1] at D1
    have hee : ((mkS bx).toList == (mkS bx).toList) = true := beq_self_eq_true _
    have e1 : ((k1 : Int) == (k1 : Int)) = true := beq_self_eq_true _
    have e2 : (p1 == p1) = true := beq_self_eq_true _
    have e3 : (p2 == p2) = true := beq_self_eq_true _
    have e4 : (p3 == p3) = true := beq_self_eq_true _
    have f2 : (ep == ep) = true := beq_self_eq_true _
    have f3 : (st == st) = true := beq_self_eq_true _
    have f4 : (to == to) = true := beq_self_eq_true _
    clear hbx hk hrt
    obtain ⟨W1, hW1⟩ : ∃ V, w.alloc (.cells #[.int .i64 ep, .int .i64 st, .int .u8 to] 23) = V := ⟨_, rfl⟩
    have nW1_l : CB W1 (w.heap.size) 23 #[.int .i64 ep, .int .i64 st, .int .u8 to] := by
      rw [← hW1]
      have := (CB.new w 23 #[.int .i64 ep, .int .i64 st, .int .u8 to])
      simpa using this
    have lW1 : Below w.heap.size w W1 := by rw [← hW1]; exact le_al _ _
    have HW1 := Lib.hid hW1
    clear hW1
    have r1_b := (hb).onL lW1
    go_enter Try.func4, Try.ntmps4
    go_wp2_with fail
    rw [HW1.out]
    refine (alive_c _).mono ?_
    rintro e w2 ⟨rfl, b2⟩
    have r3_l := le_on nW1_l b2
    have r3_b := (r1_b).onL b2
    have l3 := le_tr lW1 b2
    clear nW1_l r1_b lW1
    clear b2
    by_cases hbig : (100 : Int) < (n : Int)
    · clear D1
      go_wp2_with fail
      go_ret
      exact ⟨rfl, l3⟩
    have D2 := fun W (h : BR W W.heap.size A n cap bs) => decL_r A n cap bs W h (by omega)
    simp only [hs1, hk1] at D2
    clear hs1 hk1
    have f3_l0 : w2.cell? ⟨w.heap.size, 0, none⟩ = some (.int .i64 ep) := CB.cell r3_l 0
    have f3_l1 : w2.cell? ⟨w.heap.size, 1, none⟩ = some (.int .i64 st) := CB.cell r3_l 1
    have f3_l2 : w2.cell? ⟨w.heap.size, 2, none⟩ = some (.int .u8 to) := CB.cell r3_l 2
    go_wp2_with fail
    refine (E1 _).mono ?_
    rintro e w4 ⟨A1, n1, c1, G1, rfl, hs1, b4⟩
    clear f3_l0 f3_l1 f3_l2
    have r5_l := le_on r3_l b4
    have r5_b := (r3_b).onL b4
    have l5 := le_tr l3 b4
    clear r3_l r3_b l3
    clear b4
    have hx1 := BR.of_seg hs1
    clear hs1
    have f5_l0 : w4.cell? ⟨w.heap.size, 0, none⟩ = some (.int .i64 ep) := CB.cell r5_l 0
    have f5_l1 : w4.cell? ⟨w.heap.size, 1, none⟩ = some (.int .i64 st) := CB.cell r5_l 1
    have f5_l2 : w4.cell? ⟨w.heap.size, 2, none⟩ = some (.int .u8 to) := CB.cell r5_l 2
    go_wp2_with fail
    refine (E2 _).mono ?_
    rintro e w6 ⟨A2, n2, c2, G2, rfl, hs2, b6⟩
    clear f5_l0 f5_l1 f5_l2
    have r7_l := le_on r5_l b6
    have r7_b := (r5_b).onL b6
    have r7_x1 := (hx1).onL b6
    have l7 := le_tr l5 b6
    clear r5_l r5_b hx1 l5
    clear b6
    have hx2 := BR.of_seg hs2
    clear hs2
    go_wp2_with fail
    refine (D1 _ r7_b).mono ?_
    rintro e w8 ⟨rfl, b8⟩
    have r9_l := le_on r7_l b8
    have r9_b := (r7_b).onL b8
    have r9_x1 := (r7_x1).onL b8
    have r9_x2 := (hx2).onL b8
    have l9 := le_tr l7 b8
    clear r7_l r7_b r7_x1 hx2 l7
    clear b8
    obtain ⟨W10, hW10⟩ : ∃ V, w8.alloc (.cells #[.int .i64 p1, .int .i64 p2, .int .u8 p3] 27) = V := ⟨_, rfl⟩
    have nW10 : CB W10 (w8.heap.size) 27 #[.int .i64 p1, .int .i64 p2, .int .u8 p3] := by rw [← hW10]; exact CB.new _ _ _
    have bW10 : Below w8.heap.size w8 W10 := by rw [← hW10]; exact le_al _ _
    have HW10 := Lib.hid hW10
    clear hW10
    have r11_l := le_on r9_l bW10
    have r11_b := (r9_b).onL bW10
    have r11_x1 := (r9_x1).onL bW10
    have r11_x2 := (r9_x2).onL bW10
    have l11 := le_tr l9 bW10
    clear r9_l r9_b r9_x1 r9_x2 l9
    clear bW10
    go_wp2_with fail
    rw [HW10.out]
    refine (D2 _ r11_b).mono ?_
    rintro e w12 ⟨rfl, b12⟩
    have r13_l := le_on r11_l b12
    have r13_z := le_on nW10 b12
    have r13_b := (r11_b).onL b12
    have r13_x1 := (r11_x1).onL b12
    have r13_x2 := (r11_x2).onL b12
    have l13 := le_tr l11 b12
    clear r11_l nW10 r11_b r11_x1 r11_x2 l11
    clear b12
    obtain ⟨W14, hW14⟩ : ∃ V, w12.alloc (.cells #[.int .i64 p1, .int .i64 p2, .int .u8 p3] 23) = V := ⟨_, rfl⟩
    have nW14 : CB W14 (w12.heap.size) 23 #[.int .i64 p1, .int .i64 p2, .int .u8 p3] := by rw [← hW14]; exact CB.new _ _ _
    have bW14 : Below w12.heap.size w12 W14 := by rw [← hW14]; exact le_al _ _
    have HW14 := Lib.hid hW14
    clear hW14
    have r15_l := le_on r13_l bW14
    have r15_z := le_on r13_z bW14
    have r15_b := (r13_b).onL bW14
    have r15_x1 := (r13_x1).onL bW14
    have r15_x2 := (r13_x2).onL bW14
    have l15 := le_tr l13 bW14
    clear r13_l r13_z r13_b r13_x1 r13_x2 l13
    clear bW14
    have cv1 : (convert 40 9 (.slice A1 n1 c1)).run Try.prog (w12.alloc (.cells #[.int .i64 p1, .int .i64 p2, .int .u8 p3] 23)) = .ok (.string (mkS bx)) (w12.alloc (.cells #[.int .i64 p1, .int .i64 p2, .int .u8 p3] 23)) := by rw [HW14.out]; exact conv_br r15_x1
    have cv2 : (convert 40 9 (.slice A2 n2 c2)).run Try.prog (w12.alloc (.cells #[.int .i64 p1, .int .i64 p2, .int .u8 p3] 23)) = .ok (.string (mkS bx)) (w12.alloc (.cells #[.int .i64 p1, .int .i64 p2, .int .u8 p3] 23)) := by rw [HW14.out]; exact conv_br r15_x2
    have f15_z0 : (w12.alloc (.cells #[.int .i64 p1, .int .i64 p2, .int .u8 p3] 23)).cell? ⟨w8.heap.size, 0, none⟩ = some (.int .i64 p1) := by rw [HW14.out]; exact CB.cell r15_z 0
    have f15_z1 : (w12.alloc (.cells #[.int .i64 p1, .int .i64 p2, .int .u8 p3] 23)).cell? ⟨w8.heap.size, 1, none⟩ = some (.int .i64 p2) := by rw [HW14.out]; exact CB.cell r15_z 1
    have f15_z2 : (w12.alloc (.cells #[.int .i64 p1, .int .i64 p2, .int .u8 p3] 23)).cell? ⟨w8.heap.size, 2, none⟩ = some (.int .u8 p3) := by rw [HW14.out]; exact CB.cell r15_z 2
    have f15_u0 : (w12.alloc (.cells #[.int .i64 p1, .int .i64 p2, .int .u8 p3] 23)).cell? ⟨w12.heap.size, 0, none⟩ = some (.int .i64 p1) := by rw [HW14.out]; exact CB.cell nW14 0
    have f15_u1 : (w12.alloc (.cells #[.int .i64 p1, .int .i64 p2, .int .u8 p3] 23)).cell? ⟨w12.heap.size, 1, none⟩ = some (.int .i64 p2) := by rw [HW14.out]; exact CB.cell nW14 1
    have f15_u2 : (w12.alloc (.cells #[.int .i64 p1, .int .i64 p2, .int .u8 p3] 23)).cell? ⟨w12.heap.size, 2, none⟩ = some (.int .u8 p3) := by rw [HW14.out]; exact CB.cell nW14 2
    have f15_l0 : (w12.alloc (.cells #[.int .i64 p1, .int .i64 p2, .int .u8 p3] 23)).cell? ⟨w.heap.size, 0, none⟩ = some (.int .i64 ep) := by rw [HW14.out]; exact CB.cell r15_l 0
    have f15_l1 : (w12.alloc (.cells #[.int .i64 p1, .int .i64 p2, .int .u8 p3] 23)).cell? ⟨w.heap.size, 1, none⟩ = some (.int .i64 st) := by rw [HW14.out]; exact CB.cell r15_l 1
    have f15_l2 : (w12.alloc (.cells #[.int .i64 p1, .int .i64 p2, .int .u8 p3] 23)).cell? ⟨w.heap.size, 2, none⟩ = some (.int .u8 to) := by rw [HW14.out]; exact CB.cell r15_l 2
    go_wp2_with fail
    try rw [HW14.out]
    go_ret
    exact ⟨rfl, l15⟩
  | true =>
    have E1 := fun W => encL_c ep st to W hl
    have E2 := fun W => encL_r ep st to W hl
    obtain ⟨hkb, hsb⟩ := kD_back hl hrt
    have hk : kLe ⟨ep, st, to⟩ = 0 := by unfold kLe; rw [hrt]; rfl
    obtain ⟨bx, hbx⟩ : ∃ b, bLe ⟨ep, st, to⟩ = b := ⟨_, rfl⟩
    simp only [hbx, hk] at E1 E2
    rw [hbx] at hkb hsb
    obtain ⟨⟨p1, p2, p3⟩, hs1⟩ : ∃ s, sDL bs = s := ⟨_, rfl⟩
    obtain ⟨k1, hk1⟩ : ∃ k, kDL bs = k := ⟨_, rfl⟩
    have D1 := fun W (h : BR W W.heap.size A n cap bs) => decL_c A n cap bs W h
    simp only [hs1, hk1] at D1
    have hee : ((mkS bx).toList == (mkS bx).toList) = true := beq_self_eq_true _
    have e1 : ((k1 : Int) == (k1 : Int)) = true := beq_self_eq_true _
    have e2 : (p1 == p1) = true := beq_self_eq_true _
    have e3 : (p2 == p2) = true := beq_self_eq_true _
    have e4 : (p3 == p3) = true := beq_self_eq_true _
    have f2 : (ep == ep) = true := beq_self_eq_true _
    have f3 : (st == st) = true := beq_self_eq_true _
    have f4 : (to == to) = true := beq_self_eq_true _
    clear hbx hk hrt
    obtain ⟨W1, hW1⟩ : ∃ V, w.alloc (.cells #[.int .i64 ep, .int .i64 st, .int .u8 to] 23) = V := ⟨_, rfl⟩
    have nW1_l : CB W1 (w.heap.size) 23 #[.int .i64 ep, .int .i64 st, .int .u8 to] := by
      rw [← hW1]
      have := (CB.new w 23 #[.int .i64 ep, .int .i64 st, .int .u8 to])
      simpa using this
    have lW1 : Below w.heap.size w W1 := by rw [← hW1]; exact le_al _ _
    have HW1 := Lib.hid hW1
    clear hW1
    have r1_b := (hb).onL lW1
    go_enter Try.func4, Try.ntmps4
    go_wp2_with fail
    rw [HW1.out]
    refine (alive_c _).mono ?_
    rintro e w2 ⟨rfl, b2⟩
    have r3_l := le_on nW1_l b2
    have r3_b := (r1_b).onL b2
    have l3 := le_tr lW1 b2
    clear nW1_l r1_b lW1
    clear b2
    by_cases hbig : (100 : Int) < (n : Int)
    · clear D1
      go_wp2_with fail
      go_ret
      exact ⟨rfl, l3⟩
    have D2 := fun W (h : BR W W.heap.size A n cap bs) => decL_r A n cap bs W h (by omega)
    simp only [hs1, hk1] at D2
    clear hs1 hk1
    have f3_l0 : w2.cell? ⟨w.heap.size, 0, none⟩ = some (.int .i64 ep) := CB.cell r3_l 0
    have f3_l1 : w2.cell? ⟨w.heap.size, 1, none⟩ = some (.int .i64 st) := CB.cell r3_l 1
    have f3_l2 : w2.cell? ⟨w.heap.size, 2, none⟩ = some (.int .u8 to) := CB.cell r3_l 2
    go_wp2_with fail
    refine (E1 _).mono ?_
    rintro e w4 ⟨A1, n1, c1, G1, rfl, hs1, b4⟩
    clear f3_l0 f3_l1 f3_l2
    have r5_l := le_on r3_l b4
    have r5_b := (r3_b).onL b4
    have l5 := le_tr l3 b4
    clear r3_l r3_b l3
    clear b4
    have hx1 := BR.of_seg hs1
    clear hs1
    have f5_l0 : w4.cell? ⟨w.heap.size, 0, none⟩ = some (.int .i64 ep) := CB.cell r5_l 0
    have f5_l1 : w4.cell? ⟨w.heap.size, 1, none⟩ = some (.int .i64 st) := CB.cell r5_l 1
    have f5_l2 : w4.cell? ⟨w.heap.size, 2, none⟩ = some (.int .u8 to) := CB.cell r5_l 2
    go_wp2_with fail
    refine (E2 _).mono ?_
    rintro e w6 ⟨A2, n2, c2, G2, rfl, hs2, b6⟩
    clear f5_l0 f5_l1 f5_l2
    have r7_l := le_on r5_l b6
    have r7_b := (r5_b).onL b6
    have r7_x1 := (hx1).onL b6
    have l7 := le_tr l5 b6
    clear r5_l r5_b hx1 l5
    clear b6
    have hx2 := BR.of_seg hs2
    clear hs2
    go_wp2_with fail
    refine (D1 _ r7_b).mono ?_
    rintro e w8 ⟨rfl, b8⟩
    have r9_l := le_on r7_l b8
    have r9_b := (r7_b).onL b8
    have r9_x1 := (r7_x1).onL b8
    have r9_x2 := (hx2).onL b8
    have l9 := le_tr l7 b8
    clear r7_l r7_b r7_x1 hx2 l7
    clear b8
    obtain ⟨W10, hW10⟩ : ∃ V, w8.alloc (.cells #[.int .i64 p1, .int .i64 p2, .int .u8 p3] 27) = V := ⟨_, rfl⟩
    have nW10 : CB W10 (w8.heap.size) 27 #[.int .i64 p1, .int .i64 p2, .int .u8 p3] := by rw [← hW10]; exact CB.new _ _ _
    have bW10 : Below w8.heap.size w8 W10 := by rw [← hW10]; exact le_al _ _
    have HW10 := Lib.hid hW10
    clear hW10
    have r11_l := le_on r9_l bW10
    have r11_b := (r9_b).onL bW10
    have r11_x1 := (r9_x1).onL bW10
    have r11_x2 := (r9_x2).onL bW10
    have l11 := le_tr l9 bW10
    clear r9_l r9_b r9_x1 r9_x2 l9
    clear bW10
    go_wp2_with fail
    rw [HW10.out]
    refine (D2 _ r11_b).mono ?_
    rintro e w12 ⟨rfl, b12⟩
    have r13_l := le_on r11_l b12
    have r13_z := le_on nW10 b12
    have r13_b := (r11_b).onL b12
    have r13_x1 := (r11_x1).onL b12
    have r13_x2 := (r11_x2).onL b12
    have l13 := le_tr l11 b12
    clear r11_l nW10 r11_b r11_x1 r11_x2 l11
    clear b12
    obtain ⟨W14, hW14⟩ : ∃ V, w12.alloc (.cells #[.int .i64 p1, .int .i64 p2, .int .u8 p3] 23) = V := ⟨_, rfl⟩
    have nW14 : CB W14 (w12.heap.size) 23 #[.int .i64 p1, .int .i64 p2, .int .u8 p3] := by rw [← hW14]; exact CB.new _ _ _
    have bW14 : Below w12.heap.size w12 W14 := by rw [← hW14]; exact le_al _ _
    have HW14 := Lib.hid hW14
    clear hW14
    have r15_l := le_on r13_l bW14
    have r15_z := le_on r13_z bW14
    have r15_b := (r13_b).onL bW14
    have r15_x1 := (r13_x1).onL bW14
    have r15_x2 := (r13_x2).onL bW14
    have l15 := le_tr l13 bW14
    clear r13_l r13_z r13_b r13_x1 r13_x2 l13
    clear bW14
    have cv1 : (convert 40 9 (.slice A1 n1 c1)).run Try.prog (w12.alloc (.cells #[.int .i64 p1, .int .i64 p2, .int .u8 p3] 23)) = .ok (.string (mkS bx)) (w12.alloc (.cells #[.int .i64 p1, .int .i64 p2, .int .u8 p3] 23)) := by rw [HW14.out]; exact conv_br r15_x1
    have cv2 : (convert 40 9 (.slice A2 n2 c2)).run Try.prog (w12.alloc (.cells #[.int .i64 p1, .int .i64 p2, .int .u8 p3] 23)) = .ok (.string (mkS bx)) (w12.alloc (.cells #[.int .i64 p1, .int .i64 p2, .int .u8 p3] 23)) := by rw [HW14.out]; exact conv_br r15_x2
    have f15_z0 : (w12.alloc (.cells #[.int .i64 p1, .int .i64 p2, .int .u8 p3] 23)).cell? ⟨w8.heap.size, 0, none⟩ = some (.int .i64 p1) := by rw [HW14.out]; exact CB.cell r15_z 0
    have f15_z1 : (w12.alloc (.cells #[.int .i64 p1, .int .i64 p2, .int .u8 p3] 23)).cell? ⟨w8.heap.size, 1, none⟩ = some (.int .i64 p2) := by rw [HW14.out]; exact CB.cell r15_z 1
    have f15_z2 : (w12.alloc (.cells #[.int .i64 p1, .int .i64 p2, .int .u8 p3] 23)).cell? ⟨w8.heap.size, 2, none⟩ = some (.int .u8 p3) := by rw [HW14.out]; exact CB.cell r15_z 2
    have f15_u0 : (w12.alloc (.cells #[.int .i64 p1, .int .i64 p2, .int .u8 p3] 23)).cell? ⟨w12.heap.size, 0, none⟩ = some (.int .i64 p1) := by rw [HW14.out]; exact CB.cell nW14 0
    have f15_u1 : (w12.alloc (.cells #[.int .i64 p1, .int .i64 p2, .int .u8 p3] 23)).cell? ⟨w12.heap.size, 1, none⟩ = some (.int .i64 p2) := by rw [HW14.out]; exact CB.cell nW14 1
    have f15_u2 : (w12.alloc (.cells #[.int .i64 p1, .int .i64 p2, .int .u8 p3] 23)).cell? ⟨w12.heap.size, 2, none⟩ = some (.int .u8 p3) := by rw [HW14.out]; exact CB.cell nW14 2
    have f15_l0 : (w12.alloc (.cells #[.int .i64 p1, .int .i64 p2, .int .u8 p3] 23)).cell? ⟨w.heap.size, 0, none⟩ = some (.int .i64 ep) := by rw [HW14.out]; exact CB.cell r15_l 0
    have f15_l1 : (w12.alloc (.cells #[.int .i64 p1, .int .i64 p2, .int .u8 p3] 23)).cell? ⟨w.heap.size, 1, none⟩ = some (.int .i64 st) := by rw [HW14.out]; exact CB.cell r15_l 1
    have f15_l2 : (w12.alloc (.cells #[.int .i64 p1, .int .i64 p2, .int .u8 p3] 23)).cell? ⟨w.heap.size, 2, none⟩ = some (.int .u8 to) := by rw [HW14.out]; exact CB.cell r15_l 2
    have D3 := fun W (h : BR W W.heap.size A1 n1 c1 bx) => decL_c A1 n1 c1 bx W h
    simp only [hkb, hsb] at D3
    clear hkb hsb
    go_wp2_with fail
    rw [HW14.out]
    refine (D3 _ r15_x1).mono ?_
    rintro e w16 ⟨rfl, b16⟩
    clear cv1 cv2 f15_z0 f15_z1 f15_z2 f15_u0 f15_u1 f15_u2 f15_l0 f15_l1 f15_l2
    have r17_l := le_on r15_l b16
    have r17_z := le_on r15_z b16
    have r17_u := le_on nW14 b16
    have r17_b := (r15_b).onL b16
    have r17_x1 := (r15_x1).onL b16
    have r17_x2 := (r15_x2).onL b16
    have l17 := le_tr l15 b16
    clear r15_l r15_z nW14 r15_b r15_x1 r15_x2 l15
    clear b16
    obtain ⟨W18, hW18⟩ : ∃ V, w16.alloc (.cells #[.int .i64 ep, .int .i64 st, .int .u8 to] 27) = V := ⟨_, rfl⟩
    have nW18 : CB W18 (w16.heap.size) 27 #[.int .i64 ep, .int .i64 st, .int .u8 to] := by rw [← hW18]; exact CB.new _ _ _
    have bW18 : Below w16.heap.size w16 W18 := by rw [← hW18]; exact le_al _ _
    have HW18 := Lib.hid hW18
    clear hW18
    have r19_l := le_on r17_l bW18
    have r19_z := le_on r17_z bW18
    have r19_u := le_on r17_u bW18
    have r19_b := (r17_b).onL bW18
    have r19_x1 := (r17_x1).onL bW18
    have r19_x2 := (r17_x2).onL bW18
    have l19 := le_tr l17 bW18
    clear r17_l r17_z r17_u r17_b r17_x1 r17_x2 l17
    clear bW18
    have f19_k0 : (w16.alloc (.cells #[.int .i64 ep, .int .i64 st, .int .u8 to] 27)).cell? ⟨w16.heap.size, 0, none⟩ = some (.int .i64 ep) := by rw [HW18.out]; exact CB.cell nW18 0
    have f19_k1 : (w16.alloc (.cells #[.int .i64 ep, .int .i64 st, .int .u8 to] 27)).cell? ⟨w16.heap.size, 1, none⟩ = some (.int .i64 st) := by rw [HW18.out]; exact CB.cell nW18 1
    have f19_k2 : (w16.alloc (.cells #[.int .i64 ep, .int .i64 st, .int .u8 to] 27)).cell? ⟨w16.heap.size, 2, none⟩ = some (.int .u8 to) := by rw [HW18.out]; exact CB.cell nW18 2
    have f19_l0 : (w16.alloc (.cells #[.int .i64 ep, .int .i64 st, .int .u8 to] 27)).cell? ⟨w.heap.size, 0, none⟩ = some (.int .i64 ep) := by rw [HW18.out]; exact CB.cell r19_l 0
    have f19_l1 : (w16.alloc (.cells #[.int .i64 ep, .int .i64 st, .int .u8 to] 27)).cell? ⟨w.heap.size, 1, none⟩ = some (.int .i64 st) := by rw [HW18.out]; exact CB.cell r19_l 1
    have f19_l2 : (w16.alloc (.cells #[.int .i64 ep, .int .i64 st, .int .u8 to] 27)).cell? ⟨w.heap.size, 2, none⟩ = some (.int .u8 to) := by rw [HW18.out]; exact CB.cell r19_l 2
    go_wp2_with fail
    try rw [HW18.out]
    go_ret
    exact ⟨rfl, l19⟩
end Go.Proofs.Ytpdjcbigbgoioaa
