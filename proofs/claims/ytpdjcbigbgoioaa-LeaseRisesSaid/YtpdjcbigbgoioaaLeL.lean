/-
  The walk of the law LeaseRises: it returns true and leaves all memory that was there. No condition.
-/
import Derived.Test.YtpdjcbigbgoioaaLeD
import Derived.Test.YtpdjcbigbgoioaaLeE
set_option linter.unusedVariables false
set_option linter.unusedSimpArgs false
namespace Go.Proofs.Ytpdjcbigbgoioaa
open Go.RowKit

set_option maxRecDepth 100000 in
set_option maxHeartbeats 4000000 in
theorem rises_walk (ep st to x : Int) (w : World) : Calls Try.prog 8 #[.agg #[.int .i64 ep, .int .i64 st, .int .u8 to], .int .i64 x] w fun r w' => r = .returned (.bool true) ∧ Below w.heap.size w w' := by
  cases hrt : rightL ⟨ep, st, to⟩ with
  | false =>
    have hk : eTakeL ⟨ep, st, to⟩ x = 2 := by unfold eTakeL; rw [hrt]; simp
    have hs : sTakeL ⟨ep, st, to⟩ x = ⟨ep, st, to⟩ := by unfold sTakeL; rw [hk]; rfl
    have T1 := fun W => take_c ep st to x W
    have R2 := fun W => right_r ep st to W
    simp only [hrt, hk, hs] at T1 R2
    clear hrt hk hs
    have e5 : (ep == ep) = true := beq_self_eq_true _
    have e6 : (st == st) = true := beq_self_eq_true _
    have e7 : (to == to) = true := beq_self_eq_true _
    obtain ⟨W1, hW1⟩ : ∃ V, w.alloc (.cells #[.int .i64 ep, .int .i64 st, .int .u8 to] 23) = V := ⟨_, rfl⟩
    have nW1_l : CB W1 (w.heap.size) 23 #[.int .i64 ep, .int .i64 st, .int .u8 to] := by
      rw [← hW1]
      have := (CB.new w 23 #[.int .i64 ep, .int .i64 st, .int .u8 to])
      simpa using this
    have lW1 : Below w.heap.size w W1 := by rw [← hW1]; exact le_al _ _
    have HW1 := Lib.hid hW1
    clear hW1
    go_enter Try.func8, Try.ntmps8
    go_wp2_with fail
    rw [HW1.out]
    refine (alive_c _).mono ?_
    rintro e w2 ⟨rfl, b2⟩
    have r3_l := le_on nW1_l b2
    have l3 := le_tr lW1 b2
    clear nW1_l lW1
    clear b2
    have f3_l0 : w2.cell? ⟨w.heap.size, 0, none⟩ = some (.int .i64 ep) := CB.cell r3_l 0
    have f3_l1 : w2.cell? ⟨w.heap.size, 1, none⟩ = some (.int .i64 st) := CB.cell r3_l 1
    have f3_l2 : w2.cell? ⟨w.heap.size, 2, none⟩ = some (.int .u8 to) := CB.cell r3_l 2
    go_wp2_with fail
    refine (T1 _).mono ?_
    rintro e w4 ⟨rfl, b4⟩
    clear f3_l0 f3_l1 f3_l2
    have r5_l := le_on r3_l b4
    have l5 := le_tr l3 b4
    clear r3_l l3
    clear b4
    obtain ⟨W6, hW6⟩ : ∃ V, w4.alloc (.cells #[.int .i64 ep, .int .i64 st, .int .u8 to] 27) = V := ⟨_, rfl⟩
    have nW6 : CB W6 (w4.heap.size) 27 #[.int .i64 ep, .int .i64 st, .int .u8 to] := by rw [← hW6]; exact CB.new _ _ _
    have bW6 : Below w4.heap.size w4 W6 := by rw [← hW6]; exact le_al _ _
    have HW6 := Lib.hid hW6
    clear hW6
    have r7_l := le_on r5_l bW6
    have l7 := le_tr l5 bW6
    clear r5_l l5
    clear bW6
    have f7_l0 : (w4.alloc (.cells #[.int .i64 ep, .int .i64 st, .int .u8 to] 27)).cell? ⟨w.heap.size, 0, none⟩ = some (.int .i64 ep) := by rw [HW6.out]; exact CB.cell r7_l 0
    have f7_l1 : (w4.alloc (.cells #[.int .i64 ep, .int .i64 st, .int .u8 to] 27)).cell? ⟨w.heap.size, 1, none⟩ = some (.int .i64 st) := by rw [HW6.out]; exact CB.cell r7_l 1
    have f7_l2 : (w4.alloc (.cells #[.int .i64 ep, .int .i64 st, .int .u8 to] 27)).cell? ⟨w.heap.size, 2, none⟩ = some (.int .u8 to) := by rw [HW6.out]; exact CB.cell r7_l 2
    go_wp2_with fail
    rw [HW6.out]
    refine (R2 _).mono ?_
    rintro e w8 ⟨rfl, b8⟩
    clear f7_l0 f7_l1 f7_l2
    have r9_l := le_on r7_l b8
    have r9_x := le_on nW6 b8
    have l9 := le_tr l7 b8
    clear r7_l nW6 l7
    clear b8
    have f9_l0 : w8.cell? ⟨w.heap.size, 0, none⟩ = some (.int .i64 ep) := CB.cell r9_l 0
    have f9_l1 : w8.cell? ⟨w.heap.size, 1, none⟩ = some (.int .i64 st) := CB.cell r9_l 1
    have f9_l2 : w8.cell? ⟨w.heap.size, 2, none⟩ = some (.int .u8 to) := CB.cell r9_l 2
    have f9_x0 : w8.cell? ⟨w4.heap.size, 0, none⟩ = some (.int .i64 ep) := CB.cell r9_x 0
    have f9_x1 : w8.cell? ⟨w4.heap.size, 1, none⟩ = some (.int .i64 st) := CB.cell r9_x 1
    have f9_x2 : w8.cell? ⟨w4.heap.size, 2, none⟩ = some (.int .u8 to) := CB.cell r9_x 2
    go_wp2_with fail
    go_ret
    exact ⟨rfl, l9⟩
  | true =>
    cases hi : inEp x with
    | false =>
      have hk : eTakeL ⟨ep, st, to⟩ x = 2 := by unfold eTakeL; rw [hrt, hi]; simp
      have hs : sTakeL ⟨ep, st, to⟩ x = ⟨ep, st, to⟩ := by unfold sTakeL; rw [hk]; rfl
      rcases inEp_no hi with hx | hx
      · have hx' : decide (x < 1) = true := by simp [hx]
        have T1 := fun W => take_c ep st to x W
        have R2 := fun W => right_r ep st to W
        simp only [hrt, hk, hs] at T1 R2
        clear hrt hk hs hi hx
        have e5 : (ep == ep) = true := beq_self_eq_true _
        have e6 : (st == st) = true := beq_self_eq_true _
        have e7 : (to == to) = true := beq_self_eq_true _
        obtain ⟨W1, hW1⟩ : ∃ V, w.alloc (.cells #[.int .i64 ep, .int .i64 st, .int .u8 to] 23) = V := ⟨_, rfl⟩
        have nW1_l : CB W1 (w.heap.size) 23 #[.int .i64 ep, .int .i64 st, .int .u8 to] := by
          rw [← hW1]
          have := (CB.new w 23 #[.int .i64 ep, .int .i64 st, .int .u8 to])
          simpa using this
        have lW1 : Below w.heap.size w W1 := by rw [← hW1]; exact le_al _ _
        have HW1 := Lib.hid hW1
        clear hW1
        go_enter Try.func8, Try.ntmps8
        go_wp2_with fail
        rw [HW1.out]
        refine (alive_c _).mono ?_
        rintro e w2 ⟨rfl, b2⟩
        have r3_l := le_on nW1_l b2
        have l3 := le_tr lW1 b2
        clear nW1_l lW1
        clear b2
        have f3_l0 : w2.cell? ⟨w.heap.size, 0, none⟩ = some (.int .i64 ep) := CB.cell r3_l 0
        have f3_l1 : w2.cell? ⟨w.heap.size, 1, none⟩ = some (.int .i64 st) := CB.cell r3_l 1
        have f3_l2 : w2.cell? ⟨w.heap.size, 2, none⟩ = some (.int .u8 to) := CB.cell r3_l 2
        go_wp2_with fail
        refine (T1 _).mono ?_
        rintro e w4 ⟨rfl, b4⟩
        clear f3_l0 f3_l1 f3_l2
        have r5_l := le_on r3_l b4
        have l5 := le_tr l3 b4
        clear r3_l l3
        clear b4
        obtain ⟨W6, hW6⟩ : ∃ V, w4.alloc (.cells #[.int .i64 ep, .int .i64 st, .int .u8 to] 27) = V := ⟨_, rfl⟩
        have nW6 : CB W6 (w4.heap.size) 27 #[.int .i64 ep, .int .i64 st, .int .u8 to] := by rw [← hW6]; exact CB.new _ _ _
        have bW6 : Below w4.heap.size w4 W6 := by rw [← hW6]; exact le_al _ _
        have HW6 := Lib.hid hW6
        clear hW6
        have r7_l := le_on r5_l bW6
        have l7 := le_tr l5 bW6
        clear r5_l l5
        clear bW6
        have f7_l0 : (w4.alloc (.cells #[.int .i64 ep, .int .i64 st, .int .u8 to] 27)).cell? ⟨w.heap.size, 0, none⟩ = some (.int .i64 ep) := by rw [HW6.out]; exact CB.cell r7_l 0
        have f7_l1 : (w4.alloc (.cells #[.int .i64 ep, .int .i64 st, .int .u8 to] 27)).cell? ⟨w.heap.size, 1, none⟩ = some (.int .i64 st) := by rw [HW6.out]; exact CB.cell r7_l 1
        have f7_l2 : (w4.alloc (.cells #[.int .i64 ep, .int .i64 st, .int .u8 to] 27)).cell? ⟨w.heap.size, 2, none⟩ = some (.int .u8 to) := by rw [HW6.out]; exact CB.cell r7_l 2
        go_wp2_with fail
        rw [HW6.out]
        refine (R2 _).mono ?_
        rintro e w8 ⟨rfl, b8⟩
        clear f7_l0 f7_l1 f7_l2
        have r9_l := le_on r7_l b8
        have r9_x := le_on nW6 b8
        have l9 := le_tr l7 b8
        clear r7_l nW6 l7
        clear b8
        have f9_l0 : w8.cell? ⟨w.heap.size, 0, none⟩ = some (.int .i64 ep) := CB.cell r9_l 0
        have f9_l1 : w8.cell? ⟨w.heap.size, 1, none⟩ = some (.int .i64 st) := CB.cell r9_l 1
        have f9_l2 : w8.cell? ⟨w.heap.size, 2, none⟩ = some (.int .u8 to) := CB.cell r9_l 2
        have f9_x0 : w8.cell? ⟨w4.heap.size, 0, none⟩ = some (.int .i64 ep) := CB.cell r9_x 0
        have f9_x1 : w8.cell? ⟨w4.heap.size, 1, none⟩ = some (.int .i64 st) := CB.cell r9_x 1
        have f9_x2 : w8.cell? ⟨w4.heap.size, 2, none⟩ = some (.int .u8 to) := CB.cell r9_x 2
        go_wp2_with fail
        go_ret
        exact ⟨rfl, l9⟩
      · have hx1 : decide (x < 1) = false := by simp; omega
        have hx' : decide (1048576 < x) = true := by simp [hx]
        have T1 := fun W => take_c ep st to x W
        have R2 := fun W => right_r ep st to W
        simp only [hrt, hk, hs] at T1 R2
        clear hrt hk hs hi hx
        have e5 : (ep == ep) = true := beq_self_eq_true _
        have e6 : (st == st) = true := beq_self_eq_true _
        have e7 : (to == to) = true := beq_self_eq_true _
        obtain ⟨W1, hW1⟩ : ∃ V, w.alloc (.cells #[.int .i64 ep, .int .i64 st, .int .u8 to] 23) = V := ⟨_, rfl⟩
        have nW1_l : CB W1 (w.heap.size) 23 #[.int .i64 ep, .int .i64 st, .int .u8 to] := by
          rw [← hW1]
          have := (CB.new w 23 #[.int .i64 ep, .int .i64 st, .int .u8 to])
          simpa using this
        have lW1 : Below w.heap.size w W1 := by rw [← hW1]; exact le_al _ _
        have HW1 := Lib.hid hW1
        clear hW1
        go_enter Try.func8, Try.ntmps8
        go_wp2_with fail
        rw [HW1.out]
        refine (alive_c _).mono ?_
        rintro e w2 ⟨rfl, b2⟩
        have r3_l := le_on nW1_l b2
        have l3 := le_tr lW1 b2
        clear nW1_l lW1
        clear b2
        have f3_l0 : w2.cell? ⟨w.heap.size, 0, none⟩ = some (.int .i64 ep) := CB.cell r3_l 0
        have f3_l1 : w2.cell? ⟨w.heap.size, 1, none⟩ = some (.int .i64 st) := CB.cell r3_l 1
        have f3_l2 : w2.cell? ⟨w.heap.size, 2, none⟩ = some (.int .u8 to) := CB.cell r3_l 2
        go_wp2_with fail
        refine (T1 _).mono ?_
        rintro e w4 ⟨rfl, b4⟩
        clear f3_l0 f3_l1 f3_l2
        have r5_l := le_on r3_l b4
        have l5 := le_tr l3 b4
        clear r3_l l3
        clear b4
        obtain ⟨W6, hW6⟩ : ∃ V, w4.alloc (.cells #[.int .i64 ep, .int .i64 st, .int .u8 to] 27) = V := ⟨_, rfl⟩
        have nW6 : CB W6 (w4.heap.size) 27 #[.int .i64 ep, .int .i64 st, .int .u8 to] := by rw [← hW6]; exact CB.new _ _ _
        have bW6 : Below w4.heap.size w4 W6 := by rw [← hW6]; exact le_al _ _
        have HW6 := Lib.hid hW6
        clear hW6
        have r7_l := le_on r5_l bW6
        have l7 := le_tr l5 bW6
        clear r5_l l5
        clear bW6
        have f7_l0 : (w4.alloc (.cells #[.int .i64 ep, .int .i64 st, .int .u8 to] 27)).cell? ⟨w.heap.size, 0, none⟩ = some (.int .i64 ep) := by rw [HW6.out]; exact CB.cell r7_l 0
        have f7_l1 : (w4.alloc (.cells #[.int .i64 ep, .int .i64 st, .int .u8 to] 27)).cell? ⟨w.heap.size, 1, none⟩ = some (.int .i64 st) := by rw [HW6.out]; exact CB.cell r7_l 1
        have f7_l2 : (w4.alloc (.cells #[.int .i64 ep, .int .i64 st, .int .u8 to] 27)).cell? ⟨w.heap.size, 2, none⟩ = some (.int .u8 to) := by rw [HW6.out]; exact CB.cell r7_l 2
        go_wp2_with fail
        rw [HW6.out]
        refine (R2 _).mono ?_
        rintro e w8 ⟨rfl, b8⟩
        clear f7_l0 f7_l1 f7_l2
        have r9_l := le_on r7_l b8
        have r9_x := le_on nW6 b8
        have l9 := le_tr l7 b8
        clear r7_l nW6 l7
        clear b8
        have f9_l0 : w8.cell? ⟨w.heap.size, 0, none⟩ = some (.int .i64 ep) := CB.cell r9_l 0
        have f9_l1 : w8.cell? ⟨w.heap.size, 1, none⟩ = some (.int .i64 st) := CB.cell r9_l 1
        have f9_l2 : w8.cell? ⟨w.heap.size, 2, none⟩ = some (.int .u8 to) := CB.cell r9_l 2
        have f9_x0 : w8.cell? ⟨w4.heap.size, 0, none⟩ = some (.int .i64 ep) := CB.cell r9_x 0
        have f9_x1 : w8.cell? ⟨w4.heap.size, 1, none⟩ = some (.int .i64 st) := CB.cell r9_x 1
        have f9_x2 : w8.cell? ⟨w4.heap.size, 2, none⟩ = some (.int .u8 to) := CB.cell r9_x 2
        go_wp2_with fail
        go_ret
        exact ⟨rfl, l9⟩
    | true =>
      have hx1 : decide (x < 1) = false := by have := (inEp_yes hi).1; simp; omega
      have hx2 : decide (1048576 < x) = false := by have := (inEp_yes hi).2; simp; omega
      by_cases hle : x ≤ ep
      · obtain ⟨k, hk, hk0⟩ : ∃ k : Nat, eTakeL ⟨ep, st, to⟩ x = k ∧ k ≠ 0 ∧ k ≠ 2 := by
          unfold eTakeL
          rw [hrt, hi]
          simp only [Bool.true_eq_false, or_self, if_false]
          split
          · exact ⟨8, rfl, by decide⟩
          · exact ⟨10, rfl, by decide⟩
        have hs : sTakeL ⟨ep, st, to⟩ x = ⟨ep, st, to⟩ := by unfold sTakeL; rw [if_neg (by rw [hk]; exact hk0.1)]
        have a1 : ((k : Int) == 0) = false := by have := hk0.1; simp; omega
        have a2 : ((k : Int) != 0) = true := by have := hk0.1; simp; omega
        have a3 : decide (ep < x) = false := by simp; omega
        have T1 := fun W => take_c ep st to x W
        have R2 := fun W => right_r ep st to W
        simp only [hrt, hk, hs] at T1 R2
        clear hrt hk hs hi hle hk0
        have e5 : (ep == ep) = true := beq_self_eq_true _
        have e6 : (st == st) = true := beq_self_eq_true _
        have e7 : (to == to) = true := beq_self_eq_true _
        obtain ⟨W1, hW1⟩ : ∃ V, w.alloc (.cells #[.int .i64 ep, .int .i64 st, .int .u8 to] 23) = V := ⟨_, rfl⟩
        have nW1_l : CB W1 (w.heap.size) 23 #[.int .i64 ep, .int .i64 st, .int .u8 to] := by
          rw [← hW1]
          have := (CB.new w 23 #[.int .i64 ep, .int .i64 st, .int .u8 to])
          simpa using this
        have lW1 : Below w.heap.size w W1 := by rw [← hW1]; exact le_al _ _
        have HW1 := Lib.hid hW1
        clear hW1
        go_enter Try.func8, Try.ntmps8
        go_wp2_with fail
        rw [HW1.out]
        refine (alive_c _).mono ?_
        rintro e w2 ⟨rfl, b2⟩
        have r3_l := le_on nW1_l b2
        have l3 := le_tr lW1 b2
        clear nW1_l lW1
        clear b2
        have f3_l0 : w2.cell? ⟨w.heap.size, 0, none⟩ = some (.int .i64 ep) := CB.cell r3_l 0
        have f3_l1 : w2.cell? ⟨w.heap.size, 1, none⟩ = some (.int .i64 st) := CB.cell r3_l 1
        have f3_l2 : w2.cell? ⟨w.heap.size, 2, none⟩ = some (.int .u8 to) := CB.cell r3_l 2
        go_wp2_with fail
        refine (T1 _).mono ?_
        rintro e w4 ⟨rfl, b4⟩
        clear f3_l0 f3_l1 f3_l2
        have r5_l := le_on r3_l b4
        have l5 := le_tr l3 b4
        clear r3_l l3
        clear b4
        obtain ⟨W6, hW6⟩ : ∃ V, w4.alloc (.cells #[.int .i64 ep, .int .i64 st, .int .u8 to] 27) = V := ⟨_, rfl⟩
        have nW6 : CB W6 (w4.heap.size) 27 #[.int .i64 ep, .int .i64 st, .int .u8 to] := by rw [← hW6]; exact CB.new _ _ _
        have bW6 : Below w4.heap.size w4 W6 := by rw [← hW6]; exact le_al _ _
        have HW6 := Lib.hid hW6
        clear hW6
        have r7_l := le_on r5_l bW6
        have l7 := le_tr l5 bW6
        clear r5_l l5
        clear bW6
        have f7_l0 : (w4.alloc (.cells #[.int .i64 ep, .int .i64 st, .int .u8 to] 27)).cell? ⟨w.heap.size, 0, none⟩ = some (.int .i64 ep) := by rw [HW6.out]; exact CB.cell r7_l 0
        have f7_l1 : (w4.alloc (.cells #[.int .i64 ep, .int .i64 st, .int .u8 to] 27)).cell? ⟨w.heap.size, 1, none⟩ = some (.int .i64 st) := by rw [HW6.out]; exact CB.cell r7_l 1
        have f7_l2 : (w4.alloc (.cells #[.int .i64 ep, .int .i64 st, .int .u8 to] 27)).cell? ⟨w.heap.size, 2, none⟩ = some (.int .u8 to) := by rw [HW6.out]; exact CB.cell r7_l 2
        go_wp2_with fail
        rw [HW6.out]
        refine (R2 _).mono ?_
        rintro e w8 ⟨rfl, b8⟩
        clear f7_l0 f7_l1 f7_l2
        have r9_l := le_on r7_l b8
        have r9_x := le_on nW6 b8
        have l9 := le_tr l7 b8
        clear r7_l nW6 l7
        clear b8
        have f9_l0 : w8.cell? ⟨w.heap.size, 0, none⟩ = some (.int .i64 ep) := CB.cell r9_l 0
        have f9_l1 : w8.cell? ⟨w.heap.size, 1, none⟩ = some (.int .i64 st) := CB.cell r9_l 1
        have f9_l2 : w8.cell? ⟨w.heap.size, 2, none⟩ = some (.int .u8 to) := CB.cell r9_l 2
        have f9_x0 : w8.cell? ⟨w4.heap.size, 0, none⟩ = some (.int .i64 ep) := CB.cell r9_x 0
        have f9_x1 : w8.cell? ⟨w4.heap.size, 1, none⟩ = some (.int .i64 st) := CB.cell r9_x 1
        have f9_x2 : w8.cell? ⟨w4.heap.size, 2, none⟩ = some (.int .u8 to) := CB.cell r9_x 2
        go_wp2_with fail
        go_ret
        exact ⟨rfl, l9⟩
      · have hk : eTakeL ⟨ep, st, to⟩ x = 0 := by
          unfold eTakeL
          rw [hrt, hi]
          simp only [Bool.true_eq_false, or_self, if_false]
          rw [if_neg (fun h => hle (by have := h.2; omega)), if_neg hle]
        have hs : sTakeL ⟨ep, st, to⟩ x = ⟨x, 1, 0⟩ := by unfold sTakeL; rw [hk]; rfl
        have hsp : speaksL ⟨x, 1, 0⟩ x = true := by unfold speaksL; rw [right_held (inEp_yes hi).1 (inEp_yes hi).2]; simp
        have a3 : decide (ep < x) = true := by simp; omega
        have P1 := fun W => speaks_c x 1 0 x W
        simp only [hsp] at P1
        have T1 := fun W => take_c ep st to x W
        have R2 := fun W => right_r ep st to W
        simp only [hrt, hk, hs] at T1 R2
        clear hrt hk hs hi hle hsp
        obtain ⟨W1, hW1⟩ : ∃ V, w.alloc (.cells #[.int .i64 ep, .int .i64 st, .int .u8 to] 23) = V := ⟨_, rfl⟩
        have nW1_l : CB W1 (w.heap.size) 23 #[.int .i64 ep, .int .i64 st, .int .u8 to] := by
          rw [← hW1]
          have := (CB.new w 23 #[.int .i64 ep, .int .i64 st, .int .u8 to])
          simpa using this
        have lW1 : Below w.heap.size w W1 := by rw [← hW1]; exact le_al _ _
        have HW1 := Lib.hid hW1
        clear hW1
        go_enter Try.func8, Try.ntmps8
        go_wp2_with fail
        rw [HW1.out]
        refine (alive_c _).mono ?_
        rintro e w2 ⟨rfl, b2⟩
        have r3_l := le_on nW1_l b2
        have l3 := le_tr lW1 b2
        clear nW1_l lW1
        clear b2
        have f3_l0 : w2.cell? ⟨w.heap.size, 0, none⟩ = some (.int .i64 ep) := CB.cell r3_l 0
        have f3_l1 : w2.cell? ⟨w.heap.size, 1, none⟩ = some (.int .i64 st) := CB.cell r3_l 1
        have f3_l2 : w2.cell? ⟨w.heap.size, 2, none⟩ = some (.int .u8 to) := CB.cell r3_l 2
        go_wp2_with fail
        refine (T1 _).mono ?_
        rintro e w4 ⟨rfl, b4⟩
        clear f3_l0 f3_l1 f3_l2
        have r5_l := le_on r3_l b4
        have l5 := le_tr l3 b4
        clear r3_l l3
        clear b4
        obtain ⟨W6, hW6⟩ : ∃ V, w4.alloc (.cells #[.int .i64 x, .int .i64 1, .int .u8 0] 27) = V := ⟨_, rfl⟩
        have nW6 : CB W6 (w4.heap.size) 27 #[.int .i64 x, .int .i64 1, .int .u8 0] := by rw [← hW6]; exact CB.new _ _ _
        have bW6 : Below w4.heap.size w4 W6 := by rw [← hW6]; exact le_al _ _
        have HW6 := Lib.hid hW6
        clear hW6
        have r7_l := le_on r5_l bW6
        have l7 := le_tr l5 bW6
        clear r5_l l5
        clear bW6
        have f7_l0 : (w4.alloc (.cells #[.int .i64 x, .int .i64 1, .int .u8 0] 27)).cell? ⟨w.heap.size, 0, none⟩ = some (.int .i64 ep) := by rw [HW6.out]; exact CB.cell r7_l 0
        have f7_l1 : (w4.alloc (.cells #[.int .i64 x, .int .i64 1, .int .u8 0] 27)).cell? ⟨w.heap.size, 1, none⟩ = some (.int .i64 st) := by rw [HW6.out]; exact CB.cell r7_l 1
        have f7_l2 : (w4.alloc (.cells #[.int .i64 x, .int .i64 1, .int .u8 0] 27)).cell? ⟨w.heap.size, 2, none⟩ = some (.int .u8 to) := by rw [HW6.out]; exact CB.cell r7_l 2
        go_wp2_with fail
        rw [HW6.out]
        refine (R2 _).mono ?_
        rintro e w8 ⟨rfl, b8⟩
        clear f7_l0 f7_l1 f7_l2
        have r9_l := le_on r7_l b8
        have r9_x := le_on nW6 b8
        have l9 := le_tr l7 b8
        clear r7_l nW6 l7
        clear b8
        have f9_l0 : w8.cell? ⟨w.heap.size, 0, none⟩ = some (.int .i64 ep) := CB.cell r9_l 0
        have f9_l1 : w8.cell? ⟨w.heap.size, 1, none⟩ = some (.int .i64 st) := CB.cell r9_l 1
        have f9_l2 : w8.cell? ⟨w.heap.size, 2, none⟩ = some (.int .u8 to) := CB.cell r9_l 2
        have f9_x0 : w8.cell? ⟨w4.heap.size, 0, none⟩ = some (.int .i64 x) := CB.cell r9_x 0
        have f9_x1 : w8.cell? ⟨w4.heap.size, 1, none⟩ = some (.int .i64 1) := CB.cell r9_x 1
        have f9_x2 : w8.cell? ⟨w4.heap.size, 2, none⟩ = some (.int .u8 0) := CB.cell r9_x 2
        go_wp2_with fail
        refine (P1 _).mono ?_
        rintro e w10 ⟨rfl, b10⟩
        clear f9_l0 f9_l1 f9_l2 f9_x0 f9_x1 f9_x2
        have r11_l := le_on r9_l b10
        have r11_x := le_on r9_x b10
        have l11 := le_tr l9 b10
        clear r9_l r9_x l9
        clear b10
        go_wp2_with fail
        go_ret
        exact ⟨rfl, l11⟩
end Go.Proofs.Ytpdjcbigbgoioaa
