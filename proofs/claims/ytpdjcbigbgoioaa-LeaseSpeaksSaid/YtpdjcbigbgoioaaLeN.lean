/-
  The walk of the law LeaseSpeaks: it returns true and leaves all memory that was there. No condition.
-/
import Derived.Test.YtpdjcbigbgoioaaLeD
import Derived.Test.YtpdjcbigbgoioaaLeE
set_option linter.unusedVariables false
set_option linter.unusedSimpArgs false
namespace Go.Proofs.Ytpdjcbigbgoioaa
open Go.RowKit

set_option maxRecDepth 100000 in
set_option maxHeartbeats 4000000 in
theorem speaks_walk (ep st to a b : Int) (w : World) : Calls Try.prog 6 #[.agg #[.int .i64 ep, .int .i64 st, .int .u8 to], .int .i64 a, .int .i64 b] w fun r w' => r = .returned (.bool true) ∧ Below w.heap.size w w' := by
  have e3 : ((a == b) != (a == b)) = false := by simp
  have e5 : (ep == ep) = true := beq_self_eq_true _
  cases hrt : rightL ⟨ep, st, to⟩ with
  | false =>
    have h1 : ∀ y, speaksL ⟨ep, st, to⟩ y = false := by intro y; unfold speaksL; rw [hrt]; simp
    have S1 := fun W => speaks_c ep st to a W
    have S2 := fun W => speaks_c ep st to b W
    have S3 := fun W => speaks_c ep st to ep W
    have R1 := fun W => right_c ep st to W
    simp only [h1, hrt] at S1 S2 S3 R1
    clear h1 hrt
    obtain ⟨W1, hW1⟩ : ∃ V, w.alloc (.cells #[.int .i64 ep, .int .i64 st, .int .u8 to] 23) = V := ⟨_, rfl⟩
    have nW1_l : CB W1 (w.heap.size) 23 #[.int .i64 ep, .int .i64 st, .int .u8 to] := by
      rw [← hW1]
      have := (CB.new w 23 #[.int .i64 ep, .int .i64 st, .int .u8 to])
      simpa using this
    have lW1 : Below w.heap.size w W1 := by rw [← hW1]; exact le_al _ _
    have HW1 := Lib.hid hW1
    clear hW1
    go_enter Try.func6, Try.ntmps6
    go_wp2_with fail
    rw [HW1.out]
    refine (alive_c _).mono ?_
    rintro e w2 ⟨rfl, b2⟩
    have r3_l := le_on nW1_l b2
    have l3 := le_tr lW1 b2
    clear nW1_l lW1
    clear b2
    have f3_l0 : w2.cell? ⟨w.heap.size, 0, none⟩ = some (.int .i64 ep) := CB.cell r3_l 0
    have f3_l1 : w2.cell? ⟨w.heap.size, 1, none⟩ = some (.int .i64 st) := CB.cell r3_l 1
    have f3_l2 : w2.cell? ⟨w.heap.size, 2, none⟩ = some (.int .u8 to) := CB.cell r3_l 2
    obtain ⟨W4, hW4⟩ : ∃ V, w2.alloc (.cells #[.int .i64 ep, .int .i64 st, .int .u8 to] 27) = V := ⟨_, rfl⟩
    have nW4 : CB W4 (w2.heap.size) 27 #[.int .i64 ep, .int .i64 st, .int .u8 to] := by rw [← hW4]; exact CB.new _ _ _
    have bW4 : Below w2.heap.size w2 W4 := by rw [← hW4]; exact le_al _ _
    have HW4 := Lib.hid hW4
    clear hW4
    have r5_l := le_on r3_l bW4
    have l5 := le_tr l3 bW4
    clear r3_l l3
    clear bW4
    have f5_l0 : (w2.alloc (.cells #[.int .i64 ep, .int .i64 st, .int .u8 to] 27)).cell? ⟨w.heap.size, 0, none⟩ = some (.int .i64 ep) := by rw [HW4.out]; exact CB.cell r5_l 0
    have f5_l1 : (w2.alloc (.cells #[.int .i64 ep, .int .i64 st, .int .u8 to] 27)).cell? ⟨w.heap.size, 1, none⟩ = some (.int .i64 st) := by rw [HW4.out]; exact CB.cell r5_l 1
    have f5_l2 : (w2.alloc (.cells #[.int .i64 ep, .int .i64 st, .int .u8 to] 27)).cell? ⟨w.heap.size, 2, none⟩ = some (.int .u8 to) := by rw [HW4.out]; exact CB.cell r5_l 2
    have f5_x0 : (w2.alloc (.cells #[.int .i64 ep, .int .i64 st, .int .u8 to] 27)).cell? ⟨w2.heap.size, 0, none⟩ = some (.int .i64 ep) := by rw [HW4.out]; exact CB.cell nW4 0
    have f5_x1 : (w2.alloc (.cells #[.int .i64 ep, .int .i64 st, .int .u8 to] 27)).cell? ⟨w2.heap.size, 1, none⟩ = some (.int .i64 st) := by rw [HW4.out]; exact CB.cell nW4 1
    have f5_x2 : (w2.alloc (.cells #[.int .i64 ep, .int .i64 st, .int .u8 to] 27)).cell? ⟨w2.heap.size, 2, none⟩ = some (.int .u8 to) := by rw [HW4.out]; exact CB.cell nW4 2
    go_wp2_with fail
    rw [HW4.out]
    refine (S1 _).mono ?_
    rintro e w6 ⟨rfl, b6⟩
    clear f3_l0 f3_l1 f3_l2 f5_l0 f5_l1 f5_l2 f5_x0 f5_x1 f5_x2
    have r7_l := le_on r5_l b6
    have r7_x := le_on nW4 b6
    have l7 := le_tr l5 b6
    clear r5_l nW4 l5
    clear b6
    have f7_l0 : w6.cell? ⟨w.heap.size, 0, none⟩ = some (.int .i64 ep) := CB.cell r7_l 0
    have f7_l1 : w6.cell? ⟨w.heap.size, 1, none⟩ = some (.int .i64 st) := CB.cell r7_l 1
    have f7_l2 : w6.cell? ⟨w.heap.size, 2, none⟩ = some (.int .u8 to) := CB.cell r7_l 2
    have f7_x0 : w6.cell? ⟨w2.heap.size, 0, none⟩ = some (.int .i64 ep) := CB.cell r7_x 0
    have f7_x1 : w6.cell? ⟨w2.heap.size, 1, none⟩ = some (.int .i64 st) := CB.cell r7_x 1
    have f7_x2 : w6.cell? ⟨w2.heap.size, 2, none⟩ = some (.int .u8 to) := CB.cell r7_x 2
    go_wp2_with fail
    have y0 := Lib.hid (show (fun V : World => V.cell? ⟨w.heap.size, 0, none⟩ = some (.int .i64 ep) ∧ V.cell? ⟨w.heap.size, 1, none⟩ = some (.int .i64 st) ∧ V.cell? ⟨w.heap.size, 2, none⟩ = some (.int .u8 to) ∧ V.cell? ⟨w2.heap.size, 0, none⟩ = some (.int .i64 ep) ∧ V.cell? ⟨w2.heap.size, 1, none⟩ = some (.int .i64 st) ∧ V.cell? ⟨w2.heap.size, 2, none⟩ = some (.int .u8 to)) w6 from ⟨CB.cell r7_l 0, CB.cell r7_l 1, CB.cell r7_l 2, CB.cell r7_x 0, CB.cell r7_x 1, CB.cell r7_x 2⟩)
    refine wp_region_held_drew (S := (fun V : World => V.cell? ⟨w.heap.size, 0, none⟩ = some (.int .i64 ep) ∧ V.cell? ⟨w.heap.size, 1, none⟩ = some (.int .i64 st) ∧ V.cell? ⟨w.heap.size, 2, none⟩ = some (.int .u8 to) ∧ V.cell? ⟨w2.heap.size, 0, none⟩ = some (.int .i64 ep) ∧ V.cell? ⟨w2.heap.size, 1, none⟩ = some (.int .i64 st) ∧ V.cell? ⟨w2.heap.size, 2, none⟩ = some (.int .u8 to))) (by kernel_rfl) y0.out (fun hHeld => ?_)
    refine wpAnyH_takeL (i := 0) (d := some 34) (v := .agg #[.int .i64 ep, .int .i64 st, .int .u8 to]) rfl rfl (by kernel_rfl) (by kernel_rfl) (by kernel_rfl) (fun _ _ _ h => h) (Or.inl ⟨by rfl, ?_⟩) hHeld ?_
    · intro w hSw; (try dsimp only at hSw); go_simp
    try simp only [Act.put, List.setIfInBounds_toArray, List.set_cons_zero, List.set_cons_succ]
    refine wpAnyH_takeL (i := 1) (d := some 35) (v := .pointer (some ⟨w.heap.size, 0, none⟩)) rfl rfl (by kernel_rfl) (by kernel_rfl) (by kernel_rfl) (fun _ _ _ h => h) (Or.inl ⟨by rfl, ?_⟩) hHeld ?_
    · intro w hSw; (try dsimp only at hSw); go_simp
    try simp only [Act.put, List.setIfInBounds_toArray, List.set_cons_zero, List.set_cons_succ]
    refine wpAnyH_takeL (i := 2) (d := some 36) (v := .int .i64 ep) rfl rfl (by kernel_rfl) (by kernel_rfl) (by kernel_rfl) (fun _ _ _ h => h) (Or.inl ⟨by rfl, ?_⟩) hHeld ?_
    · intro w hSw; (try dsimp only at hSw); go_simp
    try simp only [Act.put, List.setIfInBounds_toArray, List.set_cons_zero, List.set_cons_succ]
    refine wpAnyH_takeL (i := 4) (d := some 38) (v := .agg #[.int .i64 ep, .int .i64 st, .int .u8 to]) rfl rfl (by kernel_rfl) (by kernel_rfl) (by kernel_rfl) (fun _ _ _ h => h) (Or.inl ⟨by rfl, ?_⟩) hHeld ?_
    · intro w hSw; (try dsimp only at hSw); go_simp
    try simp only [Act.put, List.setIfInBounds_toArray, List.set_cons_zero, List.set_cons_succ]
    refine wpAnyH_ready (rs := [3]) (by kernel_rfl) (by simp) ?_
    refine AllReadyH.cons rfl (fun K hK => ?_) AllReadyH.nil
    go_simp
    refine (S3 _).mono ?_
    rintro e u1 ⟨rfl, c1⟩
    have y1 := Lib.hid (show (fun V : World => V.cell? ⟨w.heap.size, 0, none⟩ = some (.int .i64 ep) ∧ V.cell? ⟨w.heap.size, 1, none⟩ = some (.int .i64 st) ∧ V.cell? ⟨w.heap.size, 2, none⟩ = some (.int .u8 to) ∧ V.cell? ⟨w2.heap.size, 0, none⟩ = some (.int .i64 ep) ∧ V.cell? ⟨w2.heap.size, 1, none⟩ = some (.int .i64 st) ∧ V.cell? ⟨w2.heap.size, 2, none⟩ = some (.int .u8 to)) u1 from ⟨CB.cell (le_on (r7_l).drew c1) 0, CB.cell (le_on (r7_l).drew c1) 1, CB.cell (le_on (r7_l).drew c1) 2, CB.cell (le_on (r7_x).drew c1) 0, CB.cell (le_on (r7_x).drew c1) 1, CB.cell (le_on (r7_x).drew c1) 2⟩)
    go_wp2_with fail
    refine hK.out _ _ y1.out (fun hHeld => ?_)
    clear hK K
    try simp only [Act.put, List.setIfInBounds_toArray, List.set_cons_zero, List.set_cons_succ]
    refine wpAnyH_ready (rs := [5]) (by kernel_rfl) (by simp) ?_
    refine AllReadyH.cons rfl (fun K hK => ?_) AllReadyH.nil
    go_simp
    refine (R1 _).mono ?_
    rintro e u2 ⟨rfl, c2⟩
    have y2 := Lib.hid (show (fun V : World => V.cell? ⟨w.heap.size, 0, none⟩ = some (.int .i64 ep) ∧ V.cell? ⟨w.heap.size, 1, none⟩ = some (.int .i64 st) ∧ V.cell? ⟨w.heap.size, 2, none⟩ = some (.int .u8 to) ∧ V.cell? ⟨w2.heap.size, 0, none⟩ = some (.int .i64 ep) ∧ V.cell? ⟨w2.heap.size, 1, none⟩ = some (.int .i64 st) ∧ V.cell? ⟨w2.heap.size, 2, none⟩ = some (.int .u8 to)) u2 from ⟨CB.cell (le_on (le_on (r7_l).drew c1) c2) 0, CB.cell (le_on (le_on (r7_l).drew c1) c2) 1, CB.cell (le_on (le_on (r7_l).drew c1) c2) 2, CB.cell (le_on (le_on (r7_x).drew c1) c2) 0, CB.cell (le_on (le_on (r7_x).drew c1) c2) 1, CB.cell (le_on (le_on (r7_x).drew c1) c2) 2⟩)
    go_wp2_with fail
    refine hK.out _ _ y2.out (fun hHeld => ?_)
    clear hK K
    try simp only [Act.put, List.setIfInBounds_toArray, List.set_cons_zero, List.set_cons_succ]
    refine wpAnyH_takeL (i := 6) (d := some 40) (v := .bool false) rfl rfl (by kernel_rfl) (by kernel_rfl) (by kernel_rfl) (fun _ _ _ h => h) (Or.inl ⟨by rfl, ?_⟩) hHeld ?_
    · intro w hSw; (try dsimp only at hSw); go_simp
    try simp only [Act.put, List.setIfInBounds_toArray, List.set_cons_zero, List.set_cons_succ]
    refine wpAnyH_takeL (i := 7) (d := some 41) (v := undef) rfl rfl (by kernel_rfl) (by kernel_rfl) (by kernel_rfl) (fun _ _ _ h => h) (Or.inr ⟨by kernel_rfl, rfl⟩) hHeld ?_
    try simp only [Act.put, List.setIfInBounds_toArray, List.set_cons_zero, List.set_cons_succ]
    refine wpAnyH_takeL (i := 8) (d := some 42) (v := undef) rfl rfl (by kernel_rfl) (by kernel_rfl) (by kernel_rfl) (fun _ _ _ h => h) (Or.inr ⟨by kernel_rfl, rfl⟩) hHeld ?_
    try simp only [Act.put, List.setIfInBounds_toArray, List.set_cons_zero, List.set_cons_succ]
    refine wpAnyH_takeL (i := 9) (d := some 43) (v := undef) rfl rfl (by kernel_rfl) (by kernel_rfl) (by kernel_rfl) (fun _ _ _ h => h) (Or.inr ⟨by kernel_rfl, rfl⟩) hHeld ?_
    try simp only [Act.put, List.setIfInBounds_toArray, List.set_cons_zero, List.set_cons_succ]
    refine wpAnyH_takeL (i := 10) (d := some 44) (v := .bool false) rfl rfl (by kernel_rfl) (by kernel_rfl) (by kernel_rfl) (fun _ _ _ h => h) (Or.inl ⟨by rfl, ?_⟩) hHeld ?_
    · intro w hSw; (try dsimp only at hSw); go_simp
    try simp only [Act.put, List.setIfInBounds_toArray, List.set_cons_zero, List.set_cons_succ]
    refine wpAnyH_takeL (i := 11) (d := some 45) (v := .bool true) rfl rfl (by kernel_rfl) (by kernel_rfl) (by kernel_rfl) (fun _ _ _ h => h) (Or.inl ⟨by rfl, ?_⟩) hHeld ?_
    · intro w hSw; (try dsimp only at hSw); go_simp
    try simp only [Act.put, List.setIfInBounds_toArray, List.set_cons_zero, List.set_cons_succ]
    refine wpAnyH_takeL (i := 12) (d := some 6) (v := .bool true) rfl rfl (by kernel_rfl) (by kernel_rfl) (by kernel_rfl) (fun _ _ _ h => h) (Or.inl ⟨by rfl, ?_⟩) hHeld ?_
    · intro w hSw; (try dsimp only at hSw); go_simp
    try simp only [Act.put, List.setIfInBounds_toArray, List.set_cons_zero, List.set_cons_succ]
    refine wpAnyH_done (by kernel_rfl) ?_ _
    have l9 := le_tr (le_tr l7 (le_dr (W := w6) c1)) c2
    go_wp2_with fail
    go_ret
    exact ⟨rfl, l9⟩
  | true =>
    by_cases hst : st = 1
    · have e2 : (st == 1) = true := by simp [hst]
      have e4 : (st != 1) = false := by simp [hst]
      have h1 : ∀ y, speaksL ⟨ep, st, to⟩ y = decide (ep = y) := by intro y; unfold speaksL; rw [hrt]; simp [hst]
      have h3 : speaksL ⟨ep, st, to⟩ ep = true := by rw [h1]; simp
      by_cases ha : ep = a
      · have h2 : speaksL ⟨ep, st, to⟩ a = true := by rw [h1]; simp [ha]
        have h4 : speaksL ⟨ep, st, to⟩ b = (a == b) := by rw [h1, ha, Bool.eq_iff_iff]; simp
        have e6 : (ep != a) = false := by simp [ha]
        have S1 := fun W => speaks_c ep st to a W
        have S2 := fun W => speaks_c ep st to b W
        have S3 := fun W => speaks_c ep st to ep W
        have R1 := fun W => right_c ep st to W
        simp only [h2, h3, h4, hrt] at S1 S2 S3 R1
        clear h1 h2 h3 h4 hrt ha hst
        obtain ⟨W1, hW1⟩ : ∃ V, w.alloc (.cells #[.int .i64 ep, .int .i64 st, .int .u8 to] 23) = V := ⟨_, rfl⟩
        have nW1_l : CB W1 (w.heap.size) 23 #[.int .i64 ep, .int .i64 st, .int .u8 to] := by
          rw [← hW1]
          have := (CB.new w 23 #[.int .i64 ep, .int .i64 st, .int .u8 to])
          simpa using this
        have lW1 : Below w.heap.size w W1 := by rw [← hW1]; exact le_al _ _
        have HW1 := Lib.hid hW1
        clear hW1
        go_enter Try.func6, Try.ntmps6
        go_wp2_with fail
        rw [HW1.out]
        refine (alive_c _).mono ?_
        rintro e w2 ⟨rfl, b2⟩
        have r3_l := le_on nW1_l b2
        have l3 := le_tr lW1 b2
        clear nW1_l lW1
        clear b2
        have f3_l0 : w2.cell? ⟨w.heap.size, 0, none⟩ = some (.int .i64 ep) := CB.cell r3_l 0
        have f3_l1 : w2.cell? ⟨w.heap.size, 1, none⟩ = some (.int .i64 st) := CB.cell r3_l 1
        have f3_l2 : w2.cell? ⟨w.heap.size, 2, none⟩ = some (.int .u8 to) := CB.cell r3_l 2
        obtain ⟨W4, hW4⟩ : ∃ V, w2.alloc (.cells #[.int .i64 ep, .int .i64 st, .int .u8 to] 27) = V := ⟨_, rfl⟩
        have nW4 : CB W4 (w2.heap.size) 27 #[.int .i64 ep, .int .i64 st, .int .u8 to] := by rw [← hW4]; exact CB.new _ _ _
        have bW4 : Below w2.heap.size w2 W4 := by rw [← hW4]; exact le_al _ _
        have HW4 := Lib.hid hW4
        clear hW4
        have r5_l := le_on r3_l bW4
        have l5 := le_tr l3 bW4
        clear r3_l l3
        clear bW4
        have f5_l0 : (w2.alloc (.cells #[.int .i64 ep, .int .i64 st, .int .u8 to] 27)).cell? ⟨w.heap.size, 0, none⟩ = some (.int .i64 ep) := by rw [HW4.out]; exact CB.cell r5_l 0
        have f5_l1 : (w2.alloc (.cells #[.int .i64 ep, .int .i64 st, .int .u8 to] 27)).cell? ⟨w.heap.size, 1, none⟩ = some (.int .i64 st) := by rw [HW4.out]; exact CB.cell r5_l 1
        have f5_l2 : (w2.alloc (.cells #[.int .i64 ep, .int .i64 st, .int .u8 to] 27)).cell? ⟨w.heap.size, 2, none⟩ = some (.int .u8 to) := by rw [HW4.out]; exact CB.cell r5_l 2
        have f5_x0 : (w2.alloc (.cells #[.int .i64 ep, .int .i64 st, .int .u8 to] 27)).cell? ⟨w2.heap.size, 0, none⟩ = some (.int .i64 ep) := by rw [HW4.out]; exact CB.cell nW4 0
        have f5_x1 : (w2.alloc (.cells #[.int .i64 ep, .int .i64 st, .int .u8 to] 27)).cell? ⟨w2.heap.size, 1, none⟩ = some (.int .i64 st) := by rw [HW4.out]; exact CB.cell nW4 1
        have f5_x2 : (w2.alloc (.cells #[.int .i64 ep, .int .i64 st, .int .u8 to] 27)).cell? ⟨w2.heap.size, 2, none⟩ = some (.int .u8 to) := by rw [HW4.out]; exact CB.cell nW4 2
        go_wp2_with fail
        rw [HW4.out]
        refine (S1 _).mono ?_
        rintro e w6 ⟨rfl, b6⟩
        clear f3_l0 f3_l1 f3_l2 f5_l0 f5_l1 f5_l2 f5_x0 f5_x1 f5_x2
        have r7_l := le_on r5_l b6
        have r7_x := le_on nW4 b6
        have l7 := le_tr l5 b6
        clear r5_l nW4 l5
        clear b6
        have f7_l0 : w6.cell? ⟨w.heap.size, 0, none⟩ = some (.int .i64 ep) := CB.cell r7_l 0
        have f7_l1 : w6.cell? ⟨w.heap.size, 1, none⟩ = some (.int .i64 st) := CB.cell r7_l 1
        have f7_l2 : w6.cell? ⟨w.heap.size, 2, none⟩ = some (.int .u8 to) := CB.cell r7_l 2
        have f7_x0 : w6.cell? ⟨w2.heap.size, 0, none⟩ = some (.int .i64 ep) := CB.cell r7_x 0
        have f7_x1 : w6.cell? ⟨w2.heap.size, 1, none⟩ = some (.int .i64 st) := CB.cell r7_x 1
        have f7_x2 : w6.cell? ⟨w2.heap.size, 2, none⟩ = some (.int .u8 to) := CB.cell r7_x 2
        go_wp2_with fail
        refine (S2 _).mono ?_
        rintro e w8 ⟨rfl, b8⟩
        clear f7_l0 f7_l1 f7_l2 f7_x0 f7_x1 f7_x2
        have r9_l := le_on r7_l b8
        have r9_x := le_on r7_x b8
        have l9 := le_tr l7 b8
        clear r7_l r7_x l7
        clear b8
        have f9_l0 : w8.cell? ⟨w.heap.size, 0, none⟩ = some (.int .i64 ep) := CB.cell r9_l 0
        have f9_l1 : w8.cell? ⟨w.heap.size, 1, none⟩ = some (.int .i64 st) := CB.cell r9_l 1
        have f9_l2 : w8.cell? ⟨w.heap.size, 2, none⟩ = some (.int .u8 to) := CB.cell r9_l 2
        have f9_x0 : w8.cell? ⟨w2.heap.size, 0, none⟩ = some (.int .i64 ep) := CB.cell r9_x 0
        have f9_x1 : w8.cell? ⟨w2.heap.size, 1, none⟩ = some (.int .i64 st) := CB.cell r9_x 1
        have f9_x2 : w8.cell? ⟨w2.heap.size, 2, none⟩ = some (.int .u8 to) := CB.cell r9_x 2
        go_wp2_with fail
        have y10_0 := Lib.hid (show (fun V : World => V.cell? ⟨w.heap.size, 0, none⟩ = some (.int .i64 ep) ∧ V.cell? ⟨w.heap.size, 1, none⟩ = some (.int .i64 st) ∧ V.cell? ⟨w.heap.size, 2, none⟩ = some (.int .u8 to) ∧ V.cell? ⟨w2.heap.size, 0, none⟩ = some (.int .i64 ep) ∧ V.cell? ⟨w2.heap.size, 1, none⟩ = some (.int .i64 st) ∧ V.cell? ⟨w2.heap.size, 2, none⟩ = some (.int .u8 to)) w8 from ⟨CB.cell r9_l 0, CB.cell r9_l 1, CB.cell r9_l 2, CB.cell r9_x 0, CB.cell r9_x 1, CB.cell r9_x 2⟩)
        go_region_held3 (fun V : World => V.cell? ⟨w.heap.size, 0, none⟩ = some (.int .i64 ep) ∧ V.cell? ⟨w.heap.size, 1, none⟩ = some (.int .i64 st) ∧ V.cell? ⟨w.heap.size, 2, none⟩ = some (.int .u8 to) ∧ V.cell? ⟨w2.heap.size, 0, none⟩ = some (.int .i64 ep) ∧ V.cell? ⟨w2.heap.size, 1, none⟩ = some (.int .i64 st) ∧ V.cell? ⟨w2.heap.size, 2, none⟩ = some (.int .u8 to)) (first | exact y10_0.out | exact y10_1.out | exact y10_2.out) (first
          | (go_at_call 16; (with_reducible refine (S3 w8.drew).mono ?_); rintro e u10_1 ⟨rfl, b10_1⟩; have y10_1 := Lib.hid (show (fun V : World => V.cell? ⟨w.heap.size, 0, none⟩ = some (.int .i64 ep) ∧ V.cell? ⟨w.heap.size, 1, none⟩ = some (.int .i64 st) ∧ V.cell? ⟨w.heap.size, 2, none⟩ = some (.int .u8 to) ∧ V.cell? ⟨w2.heap.size, 0, none⟩ = some (.int .i64 ep) ∧ V.cell? ⟨w2.heap.size, 1, none⟩ = some (.int .i64 st) ∧ V.cell? ⟨w2.heap.size, 2, none⟩ = some (.int .u8 to)) u10_1 from ⟨CB.cell (le_on (r9_l).drew b10_1) 0, CB.cell (le_on (r9_l).drew b10_1) 1, CB.cell (le_on (r9_l).drew b10_1) 2, CB.cell (le_on (r9_x).drew b10_1) 0, CB.cell (le_on (r9_x).drew b10_1) 1, CB.cell (le_on (r9_x).drew b10_1) 2⟩))
          | (go_at_call 14; (with_reducible refine (R1 u10_1).mono ?_); rintro e u10_2 ⟨rfl, b10_2⟩; have y10_2 := Lib.hid (show (fun V : World => V.cell? ⟨w.heap.size, 0, none⟩ = some (.int .i64 ep) ∧ V.cell? ⟨w.heap.size, 1, none⟩ = some (.int .i64 st) ∧ V.cell? ⟨w.heap.size, 2, none⟩ = some (.int .u8 to) ∧ V.cell? ⟨w2.heap.size, 0, none⟩ = some (.int .i64 ep) ∧ V.cell? ⟨w2.heap.size, 1, none⟩ = some (.int .i64 st) ∧ V.cell? ⟨w2.heap.size, 2, none⟩ = some (.int .u8 to)) u10_2 from ⟨CB.cell (le_on (le_on (r9_l).drew b10_1) b10_2) 0, CB.cell (le_on (le_on (r9_l).drew b10_1) b10_2) 1, CB.cell (le_on (le_on (r9_l).drew b10_1) b10_2) 2, CB.cell (le_on (le_on (r9_x).drew b10_1) b10_2) 0, CB.cell (le_on (le_on (r9_x).drew b10_1) b10_2) 1, CB.cell (le_on (le_on (r9_x).drew b10_1) b10_2) 2⟩)))
        clear f9_l0 f9_l1 f9_l2 f9_x0 f9_x1 f9_x2
        have b10 := le_tr (le_dr (W := w8) b10_1) b10_2
        have r11_l := le_on r9_l b10
        have r11_x := le_on r9_x b10
        have l11 := le_tr l9 b10
        clear r9_l r9_x l9
        go_wp2_with fail
        go_ret
        exact ⟨rfl, l11⟩
      · have h2 : speaksL ⟨ep, st, to⟩ a = false := by rw [h1]; simp [ha]
        have S1 := fun W => speaks_c ep st to a W
        have S2 := fun W => speaks_c ep st to b W
        have S3 := fun W => speaks_c ep st to ep W
        have R1 := fun W => right_c ep st to W
        simp only [h2, h3, hrt] at S1 S2 S3 R1
        clear h1 h2 h3 hrt ha hst
        obtain ⟨W1, hW1⟩ : ∃ V, w.alloc (.cells #[.int .i64 ep, .int .i64 st, .int .u8 to] 23) = V := ⟨_, rfl⟩
        have nW1_l : CB W1 (w.heap.size) 23 #[.int .i64 ep, .int .i64 st, .int .u8 to] := by
          rw [← hW1]
          have := (CB.new w 23 #[.int .i64 ep, .int .i64 st, .int .u8 to])
          simpa using this
        have lW1 : Below w.heap.size w W1 := by rw [← hW1]; exact le_al _ _
        have HW1 := Lib.hid hW1
        clear hW1
        go_enter Try.func6, Try.ntmps6
        go_wp2_with fail
        rw [HW1.out]
        refine (alive_c _).mono ?_
        rintro e w2 ⟨rfl, b2⟩
        have r3_l := le_on nW1_l b2
        have l3 := le_tr lW1 b2
        clear nW1_l lW1
        clear b2
        have f3_l0 : w2.cell? ⟨w.heap.size, 0, none⟩ = some (.int .i64 ep) := CB.cell r3_l 0
        have f3_l1 : w2.cell? ⟨w.heap.size, 1, none⟩ = some (.int .i64 st) := CB.cell r3_l 1
        have f3_l2 : w2.cell? ⟨w.heap.size, 2, none⟩ = some (.int .u8 to) := CB.cell r3_l 2
        obtain ⟨W4, hW4⟩ : ∃ V, w2.alloc (.cells #[.int .i64 ep, .int .i64 st, .int .u8 to] 27) = V := ⟨_, rfl⟩
        have nW4 : CB W4 (w2.heap.size) 27 #[.int .i64 ep, .int .i64 st, .int .u8 to] := by rw [← hW4]; exact CB.new _ _ _
        have bW4 : Below w2.heap.size w2 W4 := by rw [← hW4]; exact le_al _ _
        have HW4 := Lib.hid hW4
        clear hW4
        have r5_l := le_on r3_l bW4
        have l5 := le_tr l3 bW4
        clear r3_l l3
        clear bW4
        have f5_l0 : (w2.alloc (.cells #[.int .i64 ep, .int .i64 st, .int .u8 to] 27)).cell? ⟨w.heap.size, 0, none⟩ = some (.int .i64 ep) := by rw [HW4.out]; exact CB.cell r5_l 0
        have f5_l1 : (w2.alloc (.cells #[.int .i64 ep, .int .i64 st, .int .u8 to] 27)).cell? ⟨w.heap.size, 1, none⟩ = some (.int .i64 st) := by rw [HW4.out]; exact CB.cell r5_l 1
        have f5_l2 : (w2.alloc (.cells #[.int .i64 ep, .int .i64 st, .int .u8 to] 27)).cell? ⟨w.heap.size, 2, none⟩ = some (.int .u8 to) := by rw [HW4.out]; exact CB.cell r5_l 2
        have f5_x0 : (w2.alloc (.cells #[.int .i64 ep, .int .i64 st, .int .u8 to] 27)).cell? ⟨w2.heap.size, 0, none⟩ = some (.int .i64 ep) := by rw [HW4.out]; exact CB.cell nW4 0
        have f5_x1 : (w2.alloc (.cells #[.int .i64 ep, .int .i64 st, .int .u8 to] 27)).cell? ⟨w2.heap.size, 1, none⟩ = some (.int .i64 st) := by rw [HW4.out]; exact CB.cell nW4 1
        have f5_x2 : (w2.alloc (.cells #[.int .i64 ep, .int .i64 st, .int .u8 to] 27)).cell? ⟨w2.heap.size, 2, none⟩ = some (.int .u8 to) := by rw [HW4.out]; exact CB.cell nW4 2
        go_wp2_with fail
        rw [HW4.out]
        refine (S1 _).mono ?_
        rintro e w6 ⟨rfl, b6⟩
        clear f3_l0 f3_l1 f3_l2 f5_l0 f5_l1 f5_l2 f5_x0 f5_x1 f5_x2
        have r7_l := le_on r5_l b6
        have r7_x := le_on nW4 b6
        have l7 := le_tr l5 b6
        clear r5_l nW4 l5
        clear b6
        have f7_l0 : w6.cell? ⟨w.heap.size, 0, none⟩ = some (.int .i64 ep) := CB.cell r7_l 0
        have f7_l1 : w6.cell? ⟨w.heap.size, 1, none⟩ = some (.int .i64 st) := CB.cell r7_l 1
        have f7_l2 : w6.cell? ⟨w.heap.size, 2, none⟩ = some (.int .u8 to) := CB.cell r7_l 2
        have f7_x0 : w6.cell? ⟨w2.heap.size, 0, none⟩ = some (.int .i64 ep) := CB.cell r7_x 0
        have f7_x1 : w6.cell? ⟨w2.heap.size, 1, none⟩ = some (.int .i64 st) := CB.cell r7_x 1
        have f7_x2 : w6.cell? ⟨w2.heap.size, 2, none⟩ = some (.int .u8 to) := CB.cell r7_x 2
        go_wp2_with fail
        have y8_0 := Lib.hid (show (fun V : World => V.cell? ⟨w.heap.size, 0, none⟩ = some (.int .i64 ep) ∧ V.cell? ⟨w.heap.size, 1, none⟩ = some (.int .i64 st) ∧ V.cell? ⟨w.heap.size, 2, none⟩ = some (.int .u8 to) ∧ V.cell? ⟨w2.heap.size, 0, none⟩ = some (.int .i64 ep) ∧ V.cell? ⟨w2.heap.size, 1, none⟩ = some (.int .i64 st) ∧ V.cell? ⟨w2.heap.size, 2, none⟩ = some (.int .u8 to)) w6 from ⟨CB.cell r7_l 0, CB.cell r7_l 1, CB.cell r7_l 2, CB.cell r7_x 0, CB.cell r7_x 1, CB.cell r7_x 2⟩)
        go_region_held3 (fun V : World => V.cell? ⟨w.heap.size, 0, none⟩ = some (.int .i64 ep) ∧ V.cell? ⟨w.heap.size, 1, none⟩ = some (.int .i64 st) ∧ V.cell? ⟨w.heap.size, 2, none⟩ = some (.int .u8 to) ∧ V.cell? ⟨w2.heap.size, 0, none⟩ = some (.int .i64 ep) ∧ V.cell? ⟨w2.heap.size, 1, none⟩ = some (.int .i64 st) ∧ V.cell? ⟨w2.heap.size, 2, none⟩ = some (.int .u8 to)) (first | exact y8_0.out | exact y8_1.out | exact y8_2.out) (first
          | (go_at_call 16; (with_reducible refine (S3 w6.drew).mono ?_); rintro e u8_1 ⟨rfl, b8_1⟩; have y8_1 := Lib.hid (show (fun V : World => V.cell? ⟨w.heap.size, 0, none⟩ = some (.int .i64 ep) ∧ V.cell? ⟨w.heap.size, 1, none⟩ = some (.int .i64 st) ∧ V.cell? ⟨w.heap.size, 2, none⟩ = some (.int .u8 to) ∧ V.cell? ⟨w2.heap.size, 0, none⟩ = some (.int .i64 ep) ∧ V.cell? ⟨w2.heap.size, 1, none⟩ = some (.int .i64 st) ∧ V.cell? ⟨w2.heap.size, 2, none⟩ = some (.int .u8 to)) u8_1 from ⟨CB.cell (le_on (r7_l).drew b8_1) 0, CB.cell (le_on (r7_l).drew b8_1) 1, CB.cell (le_on (r7_l).drew b8_1) 2, CB.cell (le_on (r7_x).drew b8_1) 0, CB.cell (le_on (r7_x).drew b8_1) 1, CB.cell (le_on (r7_x).drew b8_1) 2⟩))
          | (go_at_call 14; (with_reducible refine (R1 u8_1).mono ?_); rintro e u8_2 ⟨rfl, b8_2⟩; have y8_2 := Lib.hid (show (fun V : World => V.cell? ⟨w.heap.size, 0, none⟩ = some (.int .i64 ep) ∧ V.cell? ⟨w.heap.size, 1, none⟩ = some (.int .i64 st) ∧ V.cell? ⟨w.heap.size, 2, none⟩ = some (.int .u8 to) ∧ V.cell? ⟨w2.heap.size, 0, none⟩ = some (.int .i64 ep) ∧ V.cell? ⟨w2.heap.size, 1, none⟩ = some (.int .i64 st) ∧ V.cell? ⟨w2.heap.size, 2, none⟩ = some (.int .u8 to)) u8_2 from ⟨CB.cell (le_on (le_on (r7_l).drew b8_1) b8_2) 0, CB.cell (le_on (le_on (r7_l).drew b8_1) b8_2) 1, CB.cell (le_on (le_on (r7_l).drew b8_1) b8_2) 2, CB.cell (le_on (le_on (r7_x).drew b8_1) b8_2) 0, CB.cell (le_on (le_on (r7_x).drew b8_1) b8_2) 1, CB.cell (le_on (le_on (r7_x).drew b8_1) b8_2) 2⟩)))
        clear f7_l0 f7_l1 f7_l2 f7_x0 f7_x1 f7_x2
        have b8 := le_tr (le_dr (W := w6) b8_1) b8_2
        have r9_l := le_on r7_l b8
        have r9_x := le_on r7_x b8
        have l9 := le_tr l7 b8
        clear r7_l r7_x l7
        go_wp2_with fail
        go_ret
        exact ⟨rfl, l9⟩
    · have e2 : (st == 1) = false := by simp [hst]
      have h1 : ∀ y, speaksL ⟨ep, st, to⟩ y = false := by intro y; unfold speaksL; rw [hrt]; simp [hst]
      have S1 := fun W => speaks_c ep st to a W
      have S2 := fun W => speaks_c ep st to b W
      have S3 := fun W => speaks_c ep st to ep W
      have R1 := fun W => right_c ep st to W
      simp only [h1, hrt] at S1 S2 S3 R1
      clear h1 hrt hst
      obtain ⟨W1, hW1⟩ : ∃ V, w.alloc (.cells #[.int .i64 ep, .int .i64 st, .int .u8 to] 23) = V := ⟨_, rfl⟩
      have nW1_l : CB W1 (w.heap.size) 23 #[.int .i64 ep, .int .i64 st, .int .u8 to] := by
        rw [← hW1]
        have := (CB.new w 23 #[.int .i64 ep, .int .i64 st, .int .u8 to])
        simpa using this
      have lW1 : Below w.heap.size w W1 := by rw [← hW1]; exact le_al _ _
      have HW1 := Lib.hid hW1
      clear hW1
      go_enter Try.func6, Try.ntmps6
      go_wp2_with fail
      rw [HW1.out]
      refine (alive_c _).mono ?_
      rintro e w2 ⟨rfl, b2⟩
      have r3_l := le_on nW1_l b2
      have l3 := le_tr lW1 b2
      clear nW1_l lW1
      clear b2
      have f3_l0 : w2.cell? ⟨w.heap.size, 0, none⟩ = some (.int .i64 ep) := CB.cell r3_l 0
      have f3_l1 : w2.cell? ⟨w.heap.size, 1, none⟩ = some (.int .i64 st) := CB.cell r3_l 1
      have f3_l2 : w2.cell? ⟨w.heap.size, 2, none⟩ = some (.int .u8 to) := CB.cell r3_l 2
      obtain ⟨W4, hW4⟩ : ∃ V, w2.alloc (.cells #[.int .i64 ep, .int .i64 st, .int .u8 to] 27) = V := ⟨_, rfl⟩
      have nW4 : CB W4 (w2.heap.size) 27 #[.int .i64 ep, .int .i64 st, .int .u8 to] := by rw [← hW4]; exact CB.new _ _ _
      have bW4 : Below w2.heap.size w2 W4 := by rw [← hW4]; exact le_al _ _
      have HW4 := Lib.hid hW4
      clear hW4
      have r5_l := le_on r3_l bW4
      have l5 := le_tr l3 bW4
      clear r3_l l3
      clear bW4
      have f5_l0 : (w2.alloc (.cells #[.int .i64 ep, .int .i64 st, .int .u8 to] 27)).cell? ⟨w.heap.size, 0, none⟩ = some (.int .i64 ep) := by rw [HW4.out]; exact CB.cell r5_l 0
      have f5_l1 : (w2.alloc (.cells #[.int .i64 ep, .int .i64 st, .int .u8 to] 27)).cell? ⟨w.heap.size, 1, none⟩ = some (.int .i64 st) := by rw [HW4.out]; exact CB.cell r5_l 1
      have f5_l2 : (w2.alloc (.cells #[.int .i64 ep, .int .i64 st, .int .u8 to] 27)).cell? ⟨w.heap.size, 2, none⟩ = some (.int .u8 to) := by rw [HW4.out]; exact CB.cell r5_l 2
      have f5_x0 : (w2.alloc (.cells #[.int .i64 ep, .int .i64 st, .int .u8 to] 27)).cell? ⟨w2.heap.size, 0, none⟩ = some (.int .i64 ep) := by rw [HW4.out]; exact CB.cell nW4 0
      have f5_x1 : (w2.alloc (.cells #[.int .i64 ep, .int .i64 st, .int .u8 to] 27)).cell? ⟨w2.heap.size, 1, none⟩ = some (.int .i64 st) := by rw [HW4.out]; exact CB.cell nW4 1
      have f5_x2 : (w2.alloc (.cells #[.int .i64 ep, .int .i64 st, .int .u8 to] 27)).cell? ⟨w2.heap.size, 2, none⟩ = some (.int .u8 to) := by rw [HW4.out]; exact CB.cell nW4 2
      go_wp2_with fail
      rw [HW4.out]
      refine (S1 _).mono ?_
      rintro e w6 ⟨rfl, b6⟩
      clear f3_l0 f3_l1 f3_l2 f5_l0 f5_l1 f5_l2 f5_x0 f5_x1 f5_x2
      have r7_l := le_on r5_l b6
      have r7_x := le_on nW4 b6
      have l7 := le_tr l5 b6
      clear r5_l nW4 l5
      clear b6
      have f7_l0 : w6.cell? ⟨w.heap.size, 0, none⟩ = some (.int .i64 ep) := CB.cell r7_l 0
      have f7_l1 : w6.cell? ⟨w.heap.size, 1, none⟩ = some (.int .i64 st) := CB.cell r7_l 1
      have f7_l2 : w6.cell? ⟨w.heap.size, 2, none⟩ = some (.int .u8 to) := CB.cell r7_l 2
      have f7_x0 : w6.cell? ⟨w2.heap.size, 0, none⟩ = some (.int .i64 ep) := CB.cell r7_x 0
      have f7_x1 : w6.cell? ⟨w2.heap.size, 1, none⟩ = some (.int .i64 st) := CB.cell r7_x 1
      have f7_x2 : w6.cell? ⟨w2.heap.size, 2, none⟩ = some (.int .u8 to) := CB.cell r7_x 2
      go_wp2_with fail
      have y8_0 := Lib.hid (show (fun V : World => V.cell? ⟨w.heap.size, 0, none⟩ = some (.int .i64 ep) ∧ V.cell? ⟨w.heap.size, 1, none⟩ = some (.int .i64 st) ∧ V.cell? ⟨w.heap.size, 2, none⟩ = some (.int .u8 to) ∧ V.cell? ⟨w2.heap.size, 0, none⟩ = some (.int .i64 ep) ∧ V.cell? ⟨w2.heap.size, 1, none⟩ = some (.int .i64 st) ∧ V.cell? ⟨w2.heap.size, 2, none⟩ = some (.int .u8 to)) w6 from ⟨CB.cell r7_l 0, CB.cell r7_l 1, CB.cell r7_l 2, CB.cell r7_x 0, CB.cell r7_x 1, CB.cell r7_x 2⟩)
      go_region_held3 (fun V : World => V.cell? ⟨w.heap.size, 0, none⟩ = some (.int .i64 ep) ∧ V.cell? ⟨w.heap.size, 1, none⟩ = some (.int .i64 st) ∧ V.cell? ⟨w.heap.size, 2, none⟩ = some (.int .u8 to) ∧ V.cell? ⟨w2.heap.size, 0, none⟩ = some (.int .i64 ep) ∧ V.cell? ⟨w2.heap.size, 1, none⟩ = some (.int .i64 st) ∧ V.cell? ⟨w2.heap.size, 2, none⟩ = some (.int .u8 to)) (first | exact y8_0.out | exact y8_1.out | exact y8_2.out) (first
        | (go_at_call 16; (with_reducible refine (S3 w6.drew).mono ?_); rintro e u8_1 ⟨rfl, b8_1⟩; have y8_1 := Lib.hid (show (fun V : World => V.cell? ⟨w.heap.size, 0, none⟩ = some (.int .i64 ep) ∧ V.cell? ⟨w.heap.size, 1, none⟩ = some (.int .i64 st) ∧ V.cell? ⟨w.heap.size, 2, none⟩ = some (.int .u8 to) ∧ V.cell? ⟨w2.heap.size, 0, none⟩ = some (.int .i64 ep) ∧ V.cell? ⟨w2.heap.size, 1, none⟩ = some (.int .i64 st) ∧ V.cell? ⟨w2.heap.size, 2, none⟩ = some (.int .u8 to)) u8_1 from ⟨CB.cell (le_on (r7_l).drew b8_1) 0, CB.cell (le_on (r7_l).drew b8_1) 1, CB.cell (le_on (r7_l).drew b8_1) 2, CB.cell (le_on (r7_x).drew b8_1) 0, CB.cell (le_on (r7_x).drew b8_1) 1, CB.cell (le_on (r7_x).drew b8_1) 2⟩))
        | (go_at_call 14; (with_reducible refine (R1 u8_1).mono ?_); rintro e u8_2 ⟨rfl, b8_2⟩; have y8_2 := Lib.hid (show (fun V : World => V.cell? ⟨w.heap.size, 0, none⟩ = some (.int .i64 ep) ∧ V.cell? ⟨w.heap.size, 1, none⟩ = some (.int .i64 st) ∧ V.cell? ⟨w.heap.size, 2, none⟩ = some (.int .u8 to) ∧ V.cell? ⟨w2.heap.size, 0, none⟩ = some (.int .i64 ep) ∧ V.cell? ⟨w2.heap.size, 1, none⟩ = some (.int .i64 st) ∧ V.cell? ⟨w2.heap.size, 2, none⟩ = some (.int .u8 to)) u8_2 from ⟨CB.cell (le_on (le_on (r7_l).drew b8_1) b8_2) 0, CB.cell (le_on (le_on (r7_l).drew b8_1) b8_2) 1, CB.cell (le_on (le_on (r7_l).drew b8_1) b8_2) 2, CB.cell (le_on (le_on (r7_x).drew b8_1) b8_2) 0, CB.cell (le_on (le_on (r7_x).drew b8_1) b8_2) 1, CB.cell (le_on (le_on (r7_x).drew b8_1) b8_2) 2⟩)))
      clear f7_l0 f7_l1 f7_l2 f7_x0 f7_x1 f7_x2
      have b8 := le_tr (le_dr (W := w6) b8_1) b8_2
      have r9_l := le_on r7_l b8
      have r9_x := le_on r7_x b8
      have l9 := le_tr l7 b8
      clear r7_l r7_x l7
      go_wp2_with fail
      go_ret
      exact ⟨rfl, l9⟩
end Go.Proofs.Ytpdjcbigbgoioaa
