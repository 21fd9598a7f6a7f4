/-
  The walk of the law HandAsks: it returns true and leaves all memory that was there. No condition.
-/
import Derived.Test.YtmghckddofefkaaHaF
import Derived.Test.YtmghckddofefkaaHaJ
set_option linter.unusedVariables false
set_option linter.unusedSimpArgs false
namespace Go.Proofs.Ytmghckddofefkaa
open Go.RowKit

set_option maxRecDepth 100000 in
set_option maxHeartbeats 8000000 in
theorem asks_walk (me ep st to : Int) (cg : ByteArray) (kp : Bool) (x : Int) (w : World) : Calls Try.prog 4 #[.agg #[.int .u8 me, .int .i64 ep, .int .i64 st, .int .u8 to, .string cg, .bool kp], .int .u8 x] w fun r w' => r = .returned (.bool true) ∧ Below w.heap.size w w' := by
  obtain ⟨⟨akd, afr, ato, aep, acg⟩, hm⟩ : ∃ m, mAsk ⟨me, ⟨ep, st, to⟩, cg, kp⟩ x = m := ⟨_, rfl⟩
  obtain ⟨k, hk⟩ : ∃ k, eAsk ⟨me, ⟨ep, st, to⟩, cg, kp⟩ x = k := ⟨_, rfl⟩
  obtain ⟨rb, hrb⟩ : ∃ b, decide (RightS ⟨me, ⟨ep, st, to⟩, cg, kp⟩) = b := ⟨_, rfl⟩
  obtain ⟨L, hL⟩ : ∃ L, againM ⟨me, ⟨ep, st, to⟩, cg, kp⟩ = L := ⟨_, rfl⟩
  have K1 : ∀ W, Calls Try.prog 16 #[.agg #[.int .u8 me, .int .i64 ep, .int .i64 st, .int .u8 to, .string cg, .bool kp], .int .u8 x] W (fun r w' => r = .returned (.tuple #[.agg #[.int .i64 akd, .int .u8 afr, .int .u8 ato, .int .i64 aep, .string acg], .int .i64 (k : Int)]) ∧ Below W.heap.size W w') := fun W => (by
    have := hask_c me ep st to cg kp x W
    rw [hm, hk] at this
    exact this)
  have K2 : ∀ W, Calls Try.prog 17 #[.agg #[.int .u8 me, .int .i64 ep, .int .i64 st, .int .u8 to, .string cg, .bool kp], .int .u8 x] W (fun r w' => r = .returned (.tuple #[.agg #[.int .i64 akd, .int .u8 afr, .int .u8 ato, .int .i64 aep, .string acg], .int .i64 (k : Int)]) ∧ Below W.heap.size W w') := fun W => (by
    have := ask_r me ep st to cg kp x W
    rw [hm, hk] at this
    exact this)
  have R1 := fun W => (by have := hright_c me ep st to cg kp W; rw [hrb] at this; exact this)
  have R2 := fun W => (by have := hright_r me ep st to cg kp W; rw [hrb] at this; exact this)
  have G1 := fun W => (by have := again_c me ep st to cg kp W; rw [hL] at this; exact this)
  have G2 := fun W => (by have := again_r me ep st to cg kp W; rw [hL] at this; exact this)
  have q0 : (rb == rb) = true := beq_self_eq_true _
  have q1 : (akd == akd) = true := beq_self_eq_true _
  have q2 : (afr == afr) = true := beq_self_eq_true _
  have q3 : (ato == ato) = true := beq_self_eq_true _
  have q4 : (aep == aep) = true := beq_self_eq_true _
  have q5 : (acg.toList == acg.toList) = true := beq_self_eq_true _
  have q7 : ((k : Int) == (k : Int)) = true := beq_self_eq_true _
  clear hm hk hrb hL
  obtain ⟨W1, hW1⟩ : ∃ V, w.alloc (.cells #[.int .u8 me, .int .i64 ep, .int .i64 st, .int .u8 to, .string cg, .bool kp] 25) = V := ⟨_, rfl⟩
  have nW1_s : CB W1 (w.heap.size) 25 #[.int .u8 me, .int .i64 ep, .int .i64 st, .int .u8 to, .string cg, .bool kp] := by
    rw [← hW1]
    have := (CB.new w 25 #[.int .u8 me, .int .i64 ep, .int .i64 st, .int .u8 to, .string cg, .bool kp])
    simpa using this
  have lW1 : Below w.heap.size w W1 := by rw [← hW1]; exact le_al _ _
  have HW1 := Lib.hid hW1
  clear hW1
  go_enter Try.func4, Try.ntmps4
  go_wp2_with fail
  rw [HW1.out]
  refine (alive_c _).mono ?_
  rintro e w2 ⟨rfl, b2⟩
  have r3_s := le_on nW1_s b2
  have l3 := le_tr lW1 b2
  clear nW1_s lW1
  clear b2
  have f3_s0 : w2.cell? ⟨w.heap.size, 0, none⟩ = some (.int .u8 me) := CB.cell r3_s 0
  have f3_s1 : w2.cell? ⟨w.heap.size, 1, none⟩ = some (.int .i64 ep) := CB.cell r3_s 1
  have f3_s2 : w2.cell? ⟨w.heap.size, 2, none⟩ = some (.int .i64 st) := CB.cell r3_s 2
  have f3_s3 : w2.cell? ⟨w.heap.size, 3, none⟩ = some (.int .u8 to) := CB.cell r3_s 3
  have f3_s4 : w2.cell? ⟨w.heap.size, 4, none⟩ = some (.string cg) := CB.cell r3_s 4
  have f3_s5 : w2.cell? ⟨w.heap.size, 5, none⟩ = some (.bool kp) := CB.cell r3_s 5
  by_cases hcg : (600 : Int) < (cg.size : Int)
  · have hcg' : decide ((600 : Int) < (cg.size : Int)) = true := by simp [hcg]
    go_wp2_with fail
    go_ret
    exact ⟨rfl, l3⟩
  have hcg' : decide ((600 : Int) < (cg.size : Int)) = false := by simp [hcg]
  clear hcg
  go_wp2_with fail
  refine (theirs_c me ep st to cg kp _).mono ?_
  rintro e w4 ⟨rfl, b4⟩
  clear f3_s0 f3_s1 f3_s2 f3_s3 f3_s4 f3_s5
  have r5_s := le_on r3_s b4
  have l5 := le_tr l3 b4
  clear r3_s l3
  clear b4
  go_wp2_with fail
  refine (K1 _).mono ?_
  rintro e w6 ⟨rfl, b6⟩
  have r7_s := le_on r5_s b6
  have l7 := le_tr l5 b6
  clear r5_s l5
  clear b6
  have av_x : w.heap.size ≤ w6.heap.size := by have := l7.size; omega
  obtain ⟨W8, hW8⟩ : ∃ V, w6.alloc (.cells #[.int .i64 akd, .int .u8 afr, .int .u8 ato, .int .i64 aep, .string acg] 37) = V := ⟨_, rfl⟩
  have zW8 : w6.heap.size = w6.heap.size := by rfl
  have nW8 : CB W8 (w6.heap.size) 37 #[.int .i64 akd, .int .u8 afr, .int .u8 ato, .int .i64 aep, .string acg] := by rw [← zW8, ← hW8]; exact CB.new _ _ _
  have bW8 : Below w6.heap.size w6 W8 := by rw [← hW8]; exact le_al _ _
  have neW8_s : w.heap.size ≠ w6.heap.size := by have := CB.lt r7_s; omega
  have HW8 := Lib.hid hW8
  clear hW8 zW8
  have r9_s := le_on r7_s bW8
  have l9 := le_tr l7 bW8
  clear r7_s l7
  clear bW8
  have f9_s0 : (w6.alloc (.cells #[.int .i64 akd, .int .u8 afr, .int .u8 ato, .int .i64 aep, .string acg] 37)).cell? ⟨w.heap.size, 0, none⟩ = some (.int .u8 me) := by rw [HW8.out]; exact CB.cell r9_s 0
  have f9_s1 : (w6.alloc (.cells #[.int .i64 akd, .int .u8 afr, .int .u8 ato, .int .i64 aep, .string acg] 37)).cell? ⟨w.heap.size, 1, none⟩ = some (.int .i64 ep) := by rw [HW8.out]; exact CB.cell r9_s 1
  have f9_s2 : (w6.alloc (.cells #[.int .i64 akd, .int .u8 afr, .int .u8 ato, .int .i64 aep, .string acg] 37)).cell? ⟨w.heap.size, 2, none⟩ = some (.int .i64 st) := by rw [HW8.out]; exact CB.cell r9_s 2
  have f9_s3 : (w6.alloc (.cells #[.int .i64 akd, .int .u8 afr, .int .u8 ato, .int .i64 aep, .string acg] 37)).cell? ⟨w.heap.size, 3, none⟩ = some (.int .u8 to) := by rw [HW8.out]; exact CB.cell r9_s 3
  have f9_s4 : (w6.alloc (.cells #[.int .i64 akd, .int .u8 afr, .int .u8 ato, .int .i64 aep, .string acg] 37)).cell? ⟨w.heap.size, 4, none⟩ = some (.string cg) := by rw [HW8.out]; exact CB.cell r9_s 4
  have f9_s5 : (w6.alloc (.cells #[.int .i64 akd, .int .u8 afr, .int .u8 ato, .int .i64 aep, .string acg] 37)).cell? ⟨w.heap.size, 5, none⟩ = some (.bool kp) := by rw [HW8.out]; exact CB.cell r9_s 5
  go_wp2_with fail
  rw [HW8.out]
  refine (K2 _).mono ?_
  rintro e w10 ⟨rfl, b10⟩
  clear f9_s0 f9_s1 f9_s2 f9_s3 f9_s4 f9_s5
  have r11_s := le_on r9_s b10
  have r11_x := le_on nW8 b10
  have l11 := le_tr l9 b10
  clear r9_s nW8 l9
  clear b10
  have av_y : w.heap.size ≤ w10.heap.size := by have := l11.size; omega
  obtain ⟨W12, hW12⟩ : ∃ V, w10.alloc (.cells #[.int .i64 akd, .int .u8 afr, .int .u8 ato, .int .i64 aep, .string acg] 27) = V := ⟨_, rfl⟩
  have zW12 : w10.heap.size = w10.heap.size := by rfl
  have nW12 : CB W12 (w10.heap.size) 27 #[.int .i64 akd, .int .u8 afr, .int .u8 ato, .int .i64 aep, .string acg] := by rw [← zW12, ← hW12]; exact CB.new _ _ _
  have bW12 : Below w10.heap.size w10 W12 := by rw [← hW12]; exact le_al _ _
  have neW12_s : w.heap.size ≠ w10.heap.size := by have := CB.lt r11_s; omega
  have neW12_x : w6.heap.size ≠ w10.heap.size := by have := CB.lt r11_x; omega
  have HW12 := Lib.hid hW12
  clear hW12 zW12
  have r13_s := le_on r11_s bW12
  have r13_x := le_on r11_x bW12
  have l13 := le_tr l11 bW12
  clear r11_s r11_x l11
  clear bW12
  go_wp2_with fail
  rw [HW12.out]
  have y14 := Lib.hid (show (fun V : World => V.cell? ⟨w.heap.size, 0, none⟩ = some (.int .u8 me) ∧ V.cell? ⟨w.heap.size, 1, none⟩ = some (.int .i64 ep) ∧ V.cell? ⟨w.heap.size, 2, none⟩ = some (.int .i64 st) ∧ V.cell? ⟨w.heap.size, 3, none⟩ = some (.int .u8 to) ∧ V.cell? ⟨w.heap.size, 4, none⟩ = some (.string cg) ∧ V.cell? ⟨w.heap.size, 5, none⟩ = some (.bool kp) ∧ V.cell? ⟨w6.heap.size, 0, none⟩ = some (.int .i64 akd) ∧ V.cell? ⟨w6.heap.size, 1, none⟩ = some (.int .u8 afr) ∧ V.cell? ⟨w6.heap.size, 2, none⟩ = some (.int .u8 ato) ∧ V.cell? ⟨w6.heap.size, 3, none⟩ = some (.int .i64 aep) ∧ V.cell? ⟨w6.heap.size, 4, none⟩ = some (.string acg) ∧ V.cell? ⟨w10.heap.size, 0, none⟩ = some (.int .i64 akd) ∧ V.cell? ⟨w10.heap.size, 1, none⟩ = some (.int .u8 afr) ∧ V.cell? ⟨w10.heap.size, 2, none⟩ = some (.int .u8 ato) ∧ V.cell? ⟨w10.heap.size, 3, none⟩ = some (.int .i64 aep) ∧ V.cell? ⟨w10.heap.size, 4, none⟩ = some (.string acg)) W12 from ⟨CB.cell r13_s 0, CB.cell r13_s 1, CB.cell r13_s 2, CB.cell r13_s 3, CB.cell r13_s 4, CB.cell r13_s 5, CB.cell r13_x 0, CB.cell r13_x 1, CB.cell r13_x 2, CB.cell r13_x 3, CB.cell r13_x 4, CB.cell nW12 0, CB.cell nW12 1, CB.cell nW12 2, CB.cell nW12 3, CB.cell nW12 4⟩)
  refine wp_region_held_drew (S := (fun V : World => V.cell? ⟨w.heap.size, 0, none⟩ = some (.int .u8 me) ∧ V.cell? ⟨w.heap.size, 1, none⟩ = some (.int .i64 ep) ∧ V.cell? ⟨w.heap.size, 2, none⟩ = some (.int .i64 st) ∧ V.cell? ⟨w.heap.size, 3, none⟩ = some (.int .u8 to) ∧ V.cell? ⟨w.heap.size, 4, none⟩ = some (.string cg) ∧ V.cell? ⟨w.heap.size, 5, none⟩ = some (.bool kp) ∧ V.cell? ⟨w6.heap.size, 0, none⟩ = some (.int .i64 akd) ∧ V.cell? ⟨w6.heap.size, 1, none⟩ = some (.int .u8 afr) ∧ V.cell? ⟨w6.heap.size, 2, none⟩ = some (.int .u8 ato) ∧ V.cell? ⟨w6.heap.size, 3, none⟩ = some (.int .i64 aep) ∧ V.cell? ⟨w6.heap.size, 4, none⟩ = some (.string acg) ∧ V.cell? ⟨w10.heap.size, 0, none⟩ = some (.int .i64 akd) ∧ V.cell? ⟨w10.heap.size, 1, none⟩ = some (.int .u8 afr) ∧ V.cell? ⟨w10.heap.size, 2, none⟩ = some (.int .u8 ato) ∧ V.cell? ⟨w10.heap.size, 3, none⟩ = some (.int .i64 aep) ∧ V.cell? ⟨w10.heap.size, 4, none⟩ = some (.string acg))) (by kernel_rfl) y14.out (fun hHeld => ?_)
  obtain ⟨D14, hD14⟩ : ∃ V, W12.drew = V := ⟨_, rfl⟩
  have b14 : Below W12.heap.size W12 D14 := by rw [← hD14]; exact le_dr (Below.refl _ _)
  rw [hD14] at hHeld ⊢
  clear hD14
  have r15_s := le_on r13_s b14
  have r15_x := le_on r13_x b14
  have r15_y := le_on nW12 b14
  have l15 := le_tr l13 b14
  clear r13_s r13_x nW12 l13
  clear b14
  refine wpAnyH_takeL (i := 0) (d := some 28) (v := .agg #[.int .u8 me, .int .i64 ep, .int .i64 st, .int .u8 to, .string cg, .bool kp]) rfl rfl (by kernel_rfl) (by kernel_rfl) (by kernel_rfl) (fun _ _ _ h => h) (Or.inl ⟨by rfl, ?_⟩) hHeld ?_
  · intro w hSw; (try dsimp only at hSw); go_simp
  try simp only [Act.put, List.setIfInBounds_toArray, List.set_cons_zero, List.set_cons_succ]
  refine wpAnyH_takeL (i := 3) (d := some 31) (v := .agg #[.int .u8 me, .int .i64 ep, .int .i64 st, .int .u8 to, .string cg, .bool kp]) rfl rfl (by kernel_rfl) (by kernel_rfl) (by kernel_rfl) (fun _ _ _ h => h) (Or.inl ⟨by rfl, ?_⟩) hHeld ?_
  · intro w hSw; (try dsimp only at hSw); go_simp
  try simp only [Act.put, List.setIfInBounds_toArray, List.set_cons_zero, List.set_cons_succ]
  refine wpAnyH_ready (rs := [1]) (by kernel_rfl) (by simp) ?_
  refine AllReadyH.cons rfl (fun K hK => ?_) AllReadyH.nil
  go_simp
  refine (theirs_c me ep st to cg kp _).mono ?_
  rintro e u16 ⟨rfl, b16⟩
  have r17_s := le_on r15_s b16
  have r17_x := le_on r15_x b16
  have r17_y := le_on r15_y b16
  have l17 := le_tr l15 b16
  clear r15_s r15_x r15_y l15
  clear b16
  go_wp2_with fail
  have y18 := Lib.hid (show (fun V : World => V.cell? ⟨w.heap.size, 0, none⟩ = some (.int .u8 me) ∧ V.cell? ⟨w.heap.size, 1, none⟩ = some (.int .i64 ep) ∧ V.cell? ⟨w.heap.size, 2, none⟩ = some (.int .i64 st) ∧ V.cell? ⟨w.heap.size, 3, none⟩ = some (.int .u8 to) ∧ V.cell? ⟨w.heap.size, 4, none⟩ = some (.string cg) ∧ V.cell? ⟨w.heap.size, 5, none⟩ = some (.bool kp) ∧ V.cell? ⟨w6.heap.size, 0, none⟩ = some (.int .i64 akd) ∧ V.cell? ⟨w6.heap.size, 1, none⟩ = some (.int .u8 afr) ∧ V.cell? ⟨w6.heap.size, 2, none⟩ = some (.int .u8 ato) ∧ V.cell? ⟨w6.heap.size, 3, none⟩ = some (.int .i64 aep) ∧ V.cell? ⟨w6.heap.size, 4, none⟩ = some (.string acg) ∧ V.cell? ⟨w10.heap.size, 0, none⟩ = some (.int .i64 akd) ∧ V.cell? ⟨w10.heap.size, 1, none⟩ = some (.int .u8 afr) ∧ V.cell? ⟨w10.heap.size, 2, none⟩ = some (.int .u8 ato) ∧ V.cell? ⟨w10.heap.size, 3, none⟩ = some (.int .i64 aep) ∧ V.cell? ⟨w10.heap.size, 4, none⟩ = some (.string acg)) u16 from ⟨CB.cell r17_s 0, CB.cell r17_s 1, CB.cell r17_s 2, CB.cell r17_s 3, CB.cell r17_s 4, CB.cell r17_s 5, CB.cell r17_x 0, CB.cell r17_x 1, CB.cell r17_x 2, CB.cell r17_x 3, CB.cell r17_x 4, CB.cell r17_y 0, CB.cell r17_y 1, CB.cell r17_y 2, CB.cell r17_y 3, CB.cell r17_y 4⟩)
  refine hK.out _ _ y18.out (fun hHeld => ?_)
  clear hK K y18
  try simp only [Act.put, List.setIfInBounds_toArray, List.set_cons_zero, List.set_cons_succ]
  refine wpAnyH_ready (rs := [2]) (by kernel_rfl) (by simp) ?_
  refine AllReadyH.cons rfl (fun K hK => ?_) AllReadyH.nil
  go_simp
  refine (R1 _).mono ?_
  rintro e u19 ⟨rfl, b19⟩
  have r20_s := le_on r17_s b19
  have r20_x := le_on r17_x b19
  have r20_y := le_on r17_y b19
  have l20 := le_tr l17 b19
  clear r17_s r17_x r17_y l17
  clear b19
  go_wp2_with fail
  have y21 := Lib.hid (show (fun V : World => V.cell? ⟨w.heap.size, 0, none⟩ = some (.int .u8 me) ∧ V.cell? ⟨w.heap.size, 1, none⟩ = some (.int .i64 ep) ∧ V.cell? ⟨w.heap.size, 2, none⟩ = some (.int .i64 st) ∧ V.cell? ⟨w.heap.size, 3, none⟩ = some (.int .u8 to) ∧ V.cell? ⟨w.heap.size, 4, none⟩ = some (.string cg) ∧ V.cell? ⟨w.heap.size, 5, none⟩ = some (.bool kp) ∧ V.cell? ⟨w6.heap.size, 0, none⟩ = some (.int .i64 akd) ∧ V.cell? ⟨w6.heap.size, 1, none⟩ = some (.int .u8 afr) ∧ V.cell? ⟨w6.heap.size, 2, none⟩ = some (.int .u8 ato) ∧ V.cell? ⟨w6.heap.size, 3, none⟩ = some (.int .i64 aep) ∧ V.cell? ⟨w6.heap.size, 4, none⟩ = some (.string acg) ∧ V.cell? ⟨w10.heap.size, 0, none⟩ = some (.int .i64 akd) ∧ V.cell? ⟨w10.heap.size, 1, none⟩ = some (.int .u8 afr) ∧ V.cell? ⟨w10.heap.size, 2, none⟩ = some (.int .u8 ato) ∧ V.cell? ⟨w10.heap.size, 3, none⟩ = some (.int .i64 aep) ∧ V.cell? ⟨w10.heap.size, 4, none⟩ = some (.string acg)) u19 from ⟨CB.cell r20_s 0, CB.cell r20_s 1, CB.cell r20_s 2, CB.cell r20_s 3, CB.cell r20_s 4, CB.cell r20_s 5, CB.cell r20_x 0, CB.cell r20_x 1, CB.cell r20_x 2, CB.cell r20_x 3, CB.cell r20_x 4, CB.cell r20_y 0, CB.cell r20_y 1, CB.cell r20_y 2, CB.cell r20_y 3, CB.cell r20_y 4⟩)
  refine hK.out _ _ y21.out (fun hHeld => ?_)
  clear hK K y21
  try simp only [Act.put, List.setIfInBounds_toArray, List.set_cons_zero, List.set_cons_succ]
  refine wpAnyH_ready (rs := [4]) (by kernel_rfl) (by simp) ?_
  refine AllReadyH.cons rfl (fun K hK => ?_) AllReadyH.nil
  go_simp
  refine (R2 _).mono ?_
  rintro e u22 ⟨rfl, b22⟩
  have r23_s := le_on r20_s b22
  have r23_x := le_on r20_x b22
  have r23_y := le_on r20_y b22
  have l23 := le_tr l20 b22
  clear r20_s r20_x r20_y l20
  clear b22
  go_wp2_with fail
  have y24 := Lib.hid (show (fun V : World => V.cell? ⟨w.heap.size, 0, none⟩ = some (.int .u8 me) ∧ V.cell? ⟨w.heap.size, 1, none⟩ = some (.int .i64 ep) ∧ V.cell? ⟨w.heap.size, 2, none⟩ = some (.int .i64 st) ∧ V.cell? ⟨w.heap.size, 3, none⟩ = some (.int .u8 to) ∧ V.cell? ⟨w.heap.size, 4, none⟩ = some (.string cg) ∧ V.cell? ⟨w.heap.size, 5, none⟩ = some (.bool kp) ∧ V.cell? ⟨w6.heap.size, 0, none⟩ = some (.int .i64 akd) ∧ V.cell? ⟨w6.heap.size, 1, none⟩ = some (.int .u8 afr) ∧ V.cell? ⟨w6.heap.size, 2, none⟩ = some (.int .u8 ato) ∧ V.cell? ⟨w6.heap.size, 3, none⟩ = some (.int .i64 aep) ∧ V.cell? ⟨w6.heap.size, 4, none⟩ = some (.string acg) ∧ V.cell? ⟨w10.heap.size, 0, none⟩ = some (.int .i64 akd) ∧ V.cell? ⟨w10.heap.size, 1, none⟩ = some (.int .u8 afr) ∧ V.cell? ⟨w10.heap.size, 2, none⟩ = some (.int .u8 ato) ∧ V.cell? ⟨w10.heap.size, 3, none⟩ = some (.int .i64 aep) ∧ V.cell? ⟨w10.heap.size, 4, none⟩ = some (.string acg)) u22 from ⟨CB.cell r23_s 0, CB.cell r23_s 1, CB.cell r23_s 2, CB.cell r23_s 3, CB.cell r23_s 4, CB.cell r23_s 5, CB.cell r23_x 0, CB.cell r23_x 1, CB.cell r23_x 2, CB.cell r23_x 3, CB.cell r23_x 4, CB.cell r23_y 0, CB.cell r23_y 1, CB.cell r23_y 2, CB.cell r23_y 3, CB.cell r23_y 4⟩)
  refine hK.out _ _ y24.out (fun hHeld => ?_)
  clear hK K y24
  try simp only [Act.put, List.setIfInBounds_toArray, List.set_cons_zero, List.set_cons_succ]
  refine wpAnyH_takeL (i := 5) (d := some 33) (v := .bool true) rfl rfl (by kernel_rfl) (by kernel_rfl) (by kernel_rfl) (fun _ _ _ h => h) (Or.inl ⟨by rfl, ?_⟩) hHeld ?_
  · intro w hSw; (try dsimp only at hSw); go_simp
  try simp only [Act.put, List.setIfInBounds_toArray, List.set_cons_zero, List.set_cons_succ]
  refine wpAnyH_takeL (i := 6) (d := some 34) (v := .bool true) rfl rfl (by kernel_rfl) (by kernel_rfl) (by kernel_rfl) (fun _ _ _ h => h) (Or.inl ⟨by rfl, ?_⟩) hHeld ?_
  · intro w hSw; (try dsimp only at hSw); go_simp
  try simp only [Act.put, List.setIfInBounds_toArray, List.set_cons_zero, List.set_cons_succ]
  refine wpAnyH_takeL (i := 7) (d := some 35) (v := .agg #[.int .i64 akd, .int .u8 afr, .int .u8 ato, .int .i64 aep, .string acg]) rfl rfl (by kernel_rfl) (by kernel_rfl) (by kernel_rfl) (fun _ _ _ h => h) (Or.inl ⟨by rfl, ?_⟩) hHeld ?_
  · intro w hSw; (try dsimp only at hSw); go_simp
  try simp only [Act.put, List.setIfInBounds_toArray, List.set_cons_zero, List.set_cons_succ]
  refine wpAnyH_takeL (i := 8) (d := some 36) (v := .agg #[.int .i64 akd, .int .u8 afr, .int .u8 ato, .int .i64 aep, .string acg]) rfl rfl (by kernel_rfl) (by kernel_rfl) (by kernel_rfl) (fun _ _ _ h => h) (Or.inl ⟨by rfl, ?_⟩) hHeld ?_
  · intro w hSw; (try dsimp only at hSw); go_simp
  try simp only [Act.put, List.setIfInBounds_toArray, List.set_cons_zero, List.set_cons_succ]
  refine wpAnyH_takeL (i := 9) (d := some 37) (v := .bool true) rfl rfl (by kernel_rfl) (by kernel_rfl) (by kernel_rfl) (fun _ _ _ h => h) (Or.inl ⟨by rfl, ?_⟩) hHeld ?_
  · intro w hSw; (try dsimp only at hSw); go_simp
  try simp only [Act.put, List.setIfInBounds_toArray, List.set_cons_zero, List.set_cons_succ]
  refine wpAnyH_takeL (i := 10) (d := some 38) (v := .bool true) rfl rfl (by kernel_rfl) (by kernel_rfl) (by kernel_rfl) (fun _ _ _ h => h) (Or.inl ⟨by rfl, ?_⟩) hHeld ?_
  · intro w hSw; (try dsimp only at hSw); go_simp
  try simp only [Act.put, List.setIfInBounds_toArray, List.set_cons_zero, List.set_cons_succ]
  refine wpAnyH_takeL (i := 11) (d := some 39) (v := .bool true) rfl rfl (by kernel_rfl) (by kernel_rfl) (by kernel_rfl) (fun _ _ _ h => h) (Or.inl ⟨by rfl, ?_⟩) hHeld ?_
  · intro w hSw; (try dsimp only at hSw); go_simp
  try simp only [Act.put, List.setIfInBounds_toArray, List.set_cons_zero, List.set_cons_succ]
  refine wpAnyH_takeL (i := 12) (d := some 40) (v := .int .i64 (k : Int)) rfl rfl (by kernel_rfl) (by kernel_rfl) (by kernel_rfl) (fun _ _ _ h => h) (Or.inl ⟨by rfl, ?_⟩) hHeld ?_
  · intro w hSw; (try dsimp only at hSw); go_simp
  try simp only [Act.put, List.setIfInBounds_toArray, List.set_cons_zero, List.set_cons_succ]
  refine wpAnyH_takeL (i := 13) (d := some 41) (v := .int .i64 (k : Int)) rfl rfl (by kernel_rfl) (by kernel_rfl) (by kernel_rfl) (fun _ _ _ h => h) (Or.inl ⟨by rfl, ?_⟩) hHeld ?_
  · intro w hSw; (try dsimp only at hSw); go_simp
  try simp only [Act.put, List.setIfInBounds_toArray, List.set_cons_zero, List.set_cons_succ]
  refine wpAnyH_takeL (i := 14) (d := some 42) (v := .bool true) rfl rfl (by kernel_rfl) (by kernel_rfl) (by kernel_rfl) (fun _ _ _ h => h) (Or.inl ⟨by rfl, ?_⟩) hHeld ?_
  · intro w hSw; (try dsimp only at hSw); go_simp
  try simp only [Act.put, List.setIfInBounds_toArray, List.set_cons_zero, List.set_cons_succ]
  refine wpAnyH_takeL (i := 15) (d := some 43) (v := .bool true) rfl rfl (by kernel_rfl) (by kernel_rfl) (by kernel_rfl) (fun _ _ _ h => h) (Or.inl ⟨by rfl, ?_⟩) hHeld ?_
  · intro w hSw; (try dsimp only at hSw); go_simp
  try simp only [Act.put, List.setIfInBounds_toArray, List.set_cons_zero, List.set_cons_succ]
  refine wpAnyH_takeL (i := 16) (d := some 44) (v := .bool true) rfl rfl (by kernel_rfl) (by kernel_rfl) (by kernel_rfl) (fun _ _ _ h => h) (Or.inl ⟨by rfl, ?_⟩) hHeld ?_
  · intro w hSw; (try dsimp only at hSw); go_simp
  try simp only [Act.put, List.setIfInBounds_toArray, List.set_cons_zero, List.set_cons_succ]
  refine wpAnyH_takeL (i := 17) (d := some 45) (v := .agg #[.int .u8 me, .int .i64 ep, .int .i64 st, .int .u8 to, .string cg, .bool kp]) rfl rfl (by kernel_rfl) (by kernel_rfl) (by kernel_rfl) (fun _ _ _ h => h) (Or.inl ⟨by rfl, ?_⟩) hHeld ?_
  · intro w hSw; (try dsimp only at hSw); go_simp
  try simp only [Act.put, List.setIfInBounds_toArray, List.set_cons_zero, List.set_cons_succ]
  refine wpAnyH_takeL (i := 20) (d := some 48) (v := .agg #[.int .u8 me, .int .i64 ep, .int .i64 st, .int .u8 to, .string cg, .bool kp]) rfl rfl (by kernel_rfl) (by kernel_rfl) (by kernel_rfl) (fun _ _ _ h => h) (Or.inl ⟨by rfl, ?_⟩) hHeld ?_
  · intro w hSw; (try dsimp only at hSw); go_simp
  try simp only [Act.put, List.setIfInBounds_toArray, List.set_cons_zero, List.set_cons_succ]
  refine wpAnyH_ready (rs := [18]) (by kernel_rfl) (by simp) ?_
  refine AllReadyH.cons rfl (fun K hK => ?_) AllReadyH.nil
  go_simp
  refine (theirs_c me ep st to cg kp _).mono ?_
  rintro e u25 ⟨rfl, b25⟩
  have r26_s := le_on r23_s b25
  have r26_x := le_on r23_x b25
  have r26_y := le_on r23_y b25
  have l26 := le_tr l23 b25
  clear r23_s r23_x r23_y l23
  clear b25
  go_wp2_with fail
  have y27 := Lib.hid (show (fun V : World => V.cell? ⟨w.heap.size, 0, none⟩ = some (.int .u8 me) ∧ V.cell? ⟨w.heap.size, 1, none⟩ = some (.int .i64 ep) ∧ V.cell? ⟨w.heap.size, 2, none⟩ = some (.int .i64 st) ∧ V.cell? ⟨w.heap.size, 3, none⟩ = some (.int .u8 to) ∧ V.cell? ⟨w.heap.size, 4, none⟩ = some (.string cg) ∧ V.cell? ⟨w.heap.size, 5, none⟩ = some (.bool kp) ∧ V.cell? ⟨w6.heap.size, 0, none⟩ = some (.int .i64 akd) ∧ V.cell? ⟨w6.heap.size, 1, none⟩ = some (.int .u8 afr) ∧ V.cell? ⟨w6.heap.size, 2, none⟩ = some (.int .u8 ato) ∧ V.cell? ⟨w6.heap.size, 3, none⟩ = some (.int .i64 aep) ∧ V.cell? ⟨w6.heap.size, 4, none⟩ = some (.string acg) ∧ V.cell? ⟨w10.heap.size, 0, none⟩ = some (.int .i64 akd) ∧ V.cell? ⟨w10.heap.size, 1, none⟩ = some (.int .u8 afr) ∧ V.cell? ⟨w10.heap.size, 2, none⟩ = some (.int .u8 ato) ∧ V.cell? ⟨w10.heap.size, 3, none⟩ = some (.int .i64 aep) ∧ V.cell? ⟨w10.heap.size, 4, none⟩ = some (.string acg)) u25 from ⟨CB.cell r26_s 0, CB.cell r26_s 1, CB.cell r26_s 2, CB.cell r26_s 3, CB.cell r26_s 4, CB.cell r26_s 5, CB.cell r26_x 0, CB.cell r26_x 1, CB.cell r26_x 2, CB.cell r26_x 3, CB.cell r26_x 4, CB.cell r26_y 0, CB.cell r26_y 1, CB.cell r26_y 2, CB.cell r26_y 3, CB.cell r26_y 4⟩)
  refine hK.out _ _ y27.out (fun hHeld => ?_)
  clear hK K y27
  try simp only [Act.put, List.setIfInBounds_toArray, List.set_cons_zero, List.set_cons_succ]
  refine wpAnyH_ready (rs := [19]) (by kernel_rfl) (by simp) ?_
  refine AllReadyH.cons rfl (fun K hK => ?_) AllReadyH.nil
  go_simp
  refine (G1 _).mono ?_
  rintro e u28 ⟨A, n, q, rfl, hr, b28⟩
  have r29_s := le_on r26_s b28
  have r29_x := le_on r26_x b28
  have r29_y := le_on r26_y b28
  have l29 := le_tr l26 b28
  clear r26_s r26_x r26_y l26
  clear b28
  go_wp2_with fail
  have y30 := Lib.hid (show (fun V : World => V.cell? ⟨w.heap.size, 0, none⟩ = some (.int .u8 me) ∧ V.cell? ⟨w.heap.size, 1, none⟩ = some (.int .i64 ep) ∧ V.cell? ⟨w.heap.size, 2, none⟩ = some (.int .i64 st) ∧ V.cell? ⟨w.heap.size, 3, none⟩ = some (.int .u8 to) ∧ V.cell? ⟨w.heap.size, 4, none⟩ = some (.string cg) ∧ V.cell? ⟨w.heap.size, 5, none⟩ = some (.bool kp) ∧ V.cell? ⟨w6.heap.size, 0, none⟩ = some (.int .i64 akd) ∧ V.cell? ⟨w6.heap.size, 1, none⟩ = some (.int .u8 afr) ∧ V.cell? ⟨w6.heap.size, 2, none⟩ = some (.int .u8 ato) ∧ V.cell? ⟨w6.heap.size, 3, none⟩ = some (.int .i64 aep) ∧ V.cell? ⟨w6.heap.size, 4, none⟩ = some (.string acg) ∧ V.cell? ⟨w10.heap.size, 0, none⟩ = some (.int .i64 akd) ∧ V.cell? ⟨w10.heap.size, 1, none⟩ = some (.int .u8 afr) ∧ V.cell? ⟨w10.heap.size, 2, none⟩ = some (.int .u8 ato) ∧ V.cell? ⟨w10.heap.size, 3, none⟩ = some (.int .i64 aep) ∧ V.cell? ⟨w10.heap.size, 4, none⟩ = some (.string acg)) u28 from ⟨CB.cell r29_s 0, CB.cell r29_s 1, CB.cell r29_s 2, CB.cell r29_s 3, CB.cell r29_s 4, CB.cell r29_s 5, CB.cell r29_x 0, CB.cell r29_x 1, CB.cell r29_x 2, CB.cell r29_x 3, CB.cell r29_x 4, CB.cell r29_y 0, CB.cell r29_y 1, CB.cell r29_y 2, CB.cell r29_y 3, CB.cell r29_y 4⟩)
  refine hK.out _ _ y30.out (fun hHeld => ?_)
  clear hK K y30
  try simp only [Act.put, List.setIfInBounds_toArray, List.set_cons_zero, List.set_cons_succ]
  refine wpAnyH_ready (rs := [21]) (by kernel_rfl) (by simp) ?_
  refine AllReadyH.cons rfl (fun K hK => ?_) AllReadyH.nil
  go_simp
  refine (G2 _).mono ?_
  rintro e u31 ⟨B, n', q', rfl, hr', b31⟩
  have q32_z := RS.on hr b31
  have r32_s := le_on r29_s b31
  have r32_x := le_on r29_x b31
  have r32_y := le_on r29_y b31
  have l32 := le_tr l29 b31
  clear r29_s r29_x r29_y l29
  clear hr
  clear b31
  go_wp2_with fail
  have y33 := Lib.hid (show (fun V : World => V.cell? ⟨w.heap.size, 0, none⟩ = some (.int .u8 me) ∧ V.cell? ⟨w.heap.size, 1, none⟩ = some (.int .i64 ep) ∧ V.cell? ⟨w.heap.size, 2, none⟩ = some (.int .i64 st) ∧ V.cell? ⟨w.heap.size, 3, none⟩ = some (.int .u8 to) ∧ V.cell? ⟨w.heap.size, 4, none⟩ = some (.string cg) ∧ V.cell? ⟨w.heap.size, 5, none⟩ = some (.bool kp) ∧ V.cell? ⟨w6.heap.size, 0, none⟩ = some (.int .i64 akd) ∧ V.cell? ⟨w6.heap.size, 1, none⟩ = some (.int .u8 afr) ∧ V.cell? ⟨w6.heap.size, 2, none⟩ = some (.int .u8 ato) ∧ V.cell? ⟨w6.heap.size, 3, none⟩ = some (.int .i64 aep) ∧ V.cell? ⟨w6.heap.size, 4, none⟩ = some (.string acg) ∧ V.cell? ⟨w10.heap.size, 0, none⟩ = some (.int .i64 akd) ∧ V.cell? ⟨w10.heap.size, 1, none⟩ = some (.int .u8 afr) ∧ V.cell? ⟨w10.heap.size, 2, none⟩ = some (.int .u8 ato) ∧ V.cell? ⟨w10.heap.size, 3, none⟩ = some (.int .i64 aep) ∧ V.cell? ⟨w10.heap.size, 4, none⟩ = some (.string acg)) u31 from ⟨CB.cell r32_s 0, CB.cell r32_s 1, CB.cell r32_s 2, CB.cell r32_s 3, CB.cell r32_s 4, CB.cell r32_s 5, CB.cell r32_x 0, CB.cell r32_x 1, CB.cell r32_x 2, CB.cell r32_x 3, CB.cell r32_x 4, CB.cell r32_y 0, CB.cell r32_y 1, CB.cell r32_y 2, CB.cell r32_y 3, CB.cell r32_y 4⟩)
  refine hK.out _ _ y33.out (fun hHeld => ?_)
  clear hK K y33
  try simp only [Act.put, List.setIfInBounds_toArray, List.set_cons_zero, List.set_cons_succ]
  refine wpAnyH_ready (rs := [22]) (by kernel_rfl) (by simp) ?_
  refine AllReadyH.cons rfl (fun K hK => ?_) AllReadyH.nil
  go_simp
  refine (hsame_c A B n q n' q' L _ (RS.rr q32_z) (RS.rr hr')).mono ?_
  rintro e u34 ⟨rfl, b34⟩
  have q35_z := RS.on q32_z b34
  have q35_y := RS.on hr' b34
  have r35_s := le_on r32_s b34
  have r35_x := le_on r32_x b34
  have r35_y := le_on r32_y b34
  have l35 := le_tr l32 b34
  clear r32_s r32_x r32_y l32
  clear q32_z hr'
  clear b34
  go_wp2_with fail
  have y36 := Lib.hid (show (fun V : World => V.cell? ⟨w.heap.size, 0, none⟩ = some (.int .u8 me) ∧ V.cell? ⟨w.heap.size, 1, none⟩ = some (.int .i64 ep) ∧ V.cell? ⟨w.heap.size, 2, none⟩ = some (.int .i64 st) ∧ V.cell? ⟨w.heap.size, 3, none⟩ = some (.int .u8 to) ∧ V.cell? ⟨w.heap.size, 4, none⟩ = some (.string cg) ∧ V.cell? ⟨w.heap.size, 5, none⟩ = some (.bool kp) ∧ V.cell? ⟨w6.heap.size, 0, none⟩ = some (.int .i64 akd) ∧ V.cell? ⟨w6.heap.size, 1, none⟩ = some (.int .u8 afr) ∧ V.cell? ⟨w6.heap.size, 2, none⟩ = some (.int .u8 ato) ∧ V.cell? ⟨w6.heap.size, 3, none⟩ = some (.int .i64 aep) ∧ V.cell? ⟨w6.heap.size, 4, none⟩ = some (.string acg) ∧ V.cell? ⟨w10.heap.size, 0, none⟩ = some (.int .i64 akd) ∧ V.cell? ⟨w10.heap.size, 1, none⟩ = some (.int .u8 afr) ∧ V.cell? ⟨w10.heap.size, 2, none⟩ = some (.int .u8 ato) ∧ V.cell? ⟨w10.heap.size, 3, none⟩ = some (.int .i64 aep) ∧ V.cell? ⟨w10.heap.size, 4, none⟩ = some (.string acg)) u34 from ⟨CB.cell r35_s 0, CB.cell r35_s 1, CB.cell r35_s 2, CB.cell r35_s 3, CB.cell r35_s 4, CB.cell r35_s 5, CB.cell r35_x 0, CB.cell r35_x 1, CB.cell r35_x 2, CB.cell r35_x 3, CB.cell r35_x 4, CB.cell r35_y 0, CB.cell r35_y 1, CB.cell r35_y 2, CB.cell r35_y 3, CB.cell r35_y 4⟩)
  refine hK.out _ _ y36.out (fun hHeld => ?_)
  clear hK K y36
  try simp only [Act.put, List.setIfInBounds_toArray, List.set_cons_zero, List.set_cons_succ]
  refine wpAnyH_takeL (i := 23) (d := some 51) (v := .bool true) rfl rfl (by kernel_rfl) (by kernel_rfl) (by kernel_rfl) (fun _ _ _ h => h) (Or.inl ⟨by rfl, ?_⟩) hHeld ?_
  · intro w hSw; (try dsimp only at hSw); go_simp
  try simp only [Act.put, List.setIfInBounds_toArray, List.set_cons_zero, List.set_cons_succ]
  refine wpAnyH_takeL (i := 24) (d := some 4) (v := .bool true) rfl rfl (by kernel_rfl) (by kernel_rfl) (by kernel_rfl) (fun _ _ _ h => h) (Or.inl ⟨by rfl, ?_⟩) hHeld ?_
  · intro w hSw; (try dsimp only at hSw); go_simp
  try simp only [Act.put, List.setIfInBounds_toArray, List.set_cons_zero, List.set_cons_succ]
  refine wpAnyH_done (by kernel_rfl) ?_ _
  go_wp2_with fail
  go_ret
  exact ⟨rfl, l35⟩
end Go.Proofs.Ytmghckddofefkaa
