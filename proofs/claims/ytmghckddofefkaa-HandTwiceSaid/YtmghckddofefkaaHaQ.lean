/-
  The walk of the law HandTwice: it returns true and leaves all memory that was there. No condition.
-/
import Derived.Test.YtmghckddofefkaaHaF
import Derived.Test.YtmghckddofefkaaHaJ
set_option linter.unusedVariables false
set_option linter.unusedSimpArgs false
namespace Go.Proofs.Ytmghckddofefkaa
open Go.RowKit

set_option maxRecDepth 100000 in
set_option maxHeartbeats 8000000 in
theorem twice_walk (me ep st to : Int) (cg : ByteArray) (kp : Bool) (kd fr t e : Int) (mg : ByteArray) (w : World) : Calls Try.prog 8 #[.agg #[.int .u8 me, .int .i64 ep, .int .i64 st, .int .u8 to, .string cg, .bool kp], .agg #[.int .i64 kd, .int .u8 fr, .int .u8 t, .int .i64 e, .string mg]] w fun r w' => r = .returned (.bool true) ∧ Below w.heap.size w w' := by
  cases hR : decide (RightS ⟨me, ⟨ep, st, to⟩, cg, kp⟩) with
  | false =>
    have R1 := fun W => (by have := hright_r me ep st to cg kp W; rw [hR] at this; exact this)
    obtain ⟨W1, hW1⟩ : ∃ V, (w.alloc (.cells #[.int .u8 me, .int .i64 ep, .int .i64 st, .int .u8 to, .string cg, .bool kp] 25)).alloc (.cells #[.int .i64 kd, .int .u8 fr, .int .u8 t, .int .i64 e, .string mg] 27) = V := ⟨_, rfl⟩
    have nW1_s : CB W1 (w.heap.size) 25 #[.int .u8 me, .int .i64 ep, .int .i64 st, .int .u8 to, .string cg, .bool kp] := by
      rw [← hW1]
      have := ((CB.new w 25 #[.int .u8 me, .int .i64 ep, .int .i64 st, .int .u8 to, .string cg, .bool kp]).alloc (.cells #[.int .i64 kd, .int .u8 fr, .int .u8 t, .int .i64 e, .string mg] 27))
      simpa using this
    have nW1_m : CB W1 (w.heap.size + 1) 27 #[.int .i64 kd, .int .u8 fr, .int .u8 t, .int .i64 e, .string mg] := by
      rw [← hW1]
      have := (CB.new (w.alloc (.cells #[.int .u8 me, .int .i64 ep, .int .i64 st, .int .u8 to, .string cg, .bool kp] 25)) 27 #[.int .i64 kd, .int .u8 fr, .int .u8 t, .int .i64 e, .string mg])
      simpa using this
    have neW1_01 : w.heap.size ≠ w.heap.size + 1 := by omega
    have lW1 : Below w.heap.size w W1 := by rw [← hW1]; exact le_tr (le_al _ _) (le_al _ _)
    have HW1 := Lib.hid hW1
    clear hW1
    go_enter Try.func8, Try.ntmps8
    go_wp2_with fail
    rw [HW1.out]
    refine (alive_c _).mono ?_
    rintro e w2 ⟨rfl, b2⟩
    have r3_s := le_on nW1_s b2
    have r3_m := le_on nW1_m b2
    have l3 := le_tr lW1 b2
    clear nW1_s nW1_m lW1
    clear b2
    have f3_s0 : w2.cell? ⟨w.heap.size, 0, none⟩ = some (.int .u8 me) := CB.cell r3_s 0
    have f3_s1 : w2.cell? ⟨w.heap.size, 1, none⟩ = some (.int .i64 ep) := CB.cell r3_s 1
    have f3_s2 : w2.cell? ⟨w.heap.size, 2, none⟩ = some (.int .i64 st) := CB.cell r3_s 2
    have f3_s3 : w2.cell? ⟨w.heap.size, 3, none⟩ = some (.int .u8 to) := CB.cell r3_s 3
    have f3_s4 : w2.cell? ⟨w.heap.size, 4, none⟩ = some (.string cg) := CB.cell r3_s 4
    have f3_s5 : w2.cell? ⟨w.heap.size, 5, none⟩ = some (.bool kp) := CB.cell r3_s 5
    have f3_m0 : w2.cell? ⟨w.heap.size + 1, 0, none⟩ = some (.int .i64 kd) := CB.cell r3_m 0
    have f3_m1 : w2.cell? ⟨w.heap.size + 1, 1, none⟩ = some (.int .u8 fr) := CB.cell r3_m 1
    have f3_m2 : w2.cell? ⟨w.heap.size + 1, 2, none⟩ = some (.int .u8 t) := CB.cell r3_m 2
    have f3_m3 : w2.cell? ⟨w.heap.size + 1, 3, none⟩ = some (.int .i64 e) := CB.cell r3_m 3
    have f3_m4 : w2.cell? ⟨w.heap.size + 1, 4, none⟩ = some (.string mg) := CB.cell r3_m 4
    clear hR
    by_cases hcg : (600 : Int) < (cg.size : Int)
    · have hcg' : decide ((600 : Int) < (cg.size : Int)) = true := by simp [hcg]
      go_wp2_with fail
      go_ret
      exact ⟨rfl, l3⟩
    have hcg' : decide ((600 : Int) < (cg.size : Int)) = false := by simp [hcg]
    clear hcg
    by_cases hmg : (600 : Int) < (mg.size : Int)
    · have hmg' : decide ((600 : Int) < (mg.size : Int)) = true := by simp [hmg]
      go_wp2_with fail
      go_ret
      exact ⟨rfl, l3⟩
    have hmg' : decide ((600 : Int) < (mg.size : Int)) = false := by simp [hmg]
    clear hmg
    go_wp2_with fail
    refine (R1 _).mono ?_
    rintro e w4 ⟨rfl, b4⟩
    clear f3_s0 f3_s1 f3_s2 f3_s3 f3_s4 f3_s5 f3_m0 f3_m1 f3_m2 f3_m3 f3_m4
    have r5_s := le_on r3_s b4
    have r5_m := le_on r3_m b4
    have l5 := le_tr l3 b4
    clear r3_s r3_m l3
    clear b4
    go_wp2_with fail
    go_ret
    exact ⟨rfl, l5⟩
  | true =>
    obtain ⟨⟨⟨zme, ⟨zep, zst, zto⟩, zcg, zkp⟩, zr, ze⟩, hd⟩ : ∃ d, hearM ⟨me, ⟨ep, st, to⟩, cg, kp⟩ ⟨kd, fr, t, e, mg⟩ = d := ⟨_, rfl⟩
    have H1 : ∀ W, Calls Try.prog 11 #[.agg #[.int .u8 me, .int .i64 ep, .int .i64 st, .int .u8 to, .string cg, .bool kp], .agg #[.int .i64 kd, .int .u8 fr, .int .u8 t, .int .i64 e, .string mg]] W (fun r w' => ∃ A n q, r = .returned (.tuple #[.agg #[.int .u8 zme, .int .i64 zep, .int .i64 zst, .int .u8 zto, .string zcg, .bool zkp], .slice A n q, .int .i64 (ze : Int)]) ∧ RS w' 37 mc 5 A n q zr ∧ Below W.heap.size W w') := fun W => (by
      have := hear_c me ep st to cg kp kd fr t e mg W
      rw [hd] at this
      exact this)
    have hs := of_decide_eq_true hR
    obtain ⟨⟨ys, yr, ye⟩, hd2⟩ : ∃ d, hearM ⟨zme, ⟨zep, zst, zto⟩, zcg, zkp⟩ ⟨kd, fr, t, e, mg⟩ = d := ⟨_, rfl⟩
    have hz := hear_twice ⟨me, ⟨ep, st, to⟩, cg, kp⟩ ⟨kd, fr, t, e, mg⟩ hs
    rw [hd] at hz
    simp only [hd2] at hz
    obtain ⟨rfl, z2, z3, z4⟩ := hz
    have H3 : ∀ W, Calls Try.prog 11 #[.agg #[.int .u8 zme, .int .i64 zep, .int .i64 zst, .int .u8 zto, .string zcg, .bool zkp], .agg #[.int .i64 kd, .int .u8 fr, .int .u8 t, .int .i64 e, .string mg]] W (fun r w' => ∃ A n q, r = .returned (.tuple #[.agg #[.int .u8 zme, .int .i64 zep, .int .i64 zst, .int .u8 zto, .string zcg, .bool zkp], .slice A n q, .int .i64 (ye : Int)]) ∧ RS w' 37 mc 5 A n q yr ∧ Below W.heap.size W w') := fun W => (by
      have := hear_c zme zep zst zto zcg zkp kd fr t e mg W
      rw [hd2] at this
      exact this)
    have q1 : (zme == zme) = true := beq_self_eq_true _
    have q2 : (zep == zep) = true := beq_self_eq_true _
    have q3 : (zst == zst) = true := beq_self_eq_true _
    have q4 : (zto == zto) = true := beq_self_eq_true _
    have q5 : (zcg.toList == zcg.toList) = true := beq_self_eq_true _
    have q6 : (zkp == zkp) = true := beq_self_eq_true _
    have q7 : ((ze : Int) == (ze : Int)) = true := beq_self_eq_true _
    have r1 : (zme != zme) = false := bne_self_eq_false _
    have r2 : (zep != zep) = false := bne_self_eq_false _
    have r3 : (zst != zst) = false := bne_self_eq_false _
    have r4 : (zto != zto) = false := bne_self_eq_false _
    have r5 : (zcg.toList != zcg.toList) = false := bne_self_eq_false _
    have r6 : (zkp != zkp) = false := bne_self_eq_false _
    have Z2 := Lib.hid z2
    have Z3 := Lib.hid z3
    have Z4 := Lib.hid z4
    clear z2 z3 z4 hs hd hd2
    have R1 := fun W => (by have := hright_r me ep st to cg kp W; rw [hR] at this; exact this)
    obtain ⟨W1, hW1⟩ : ∃ V, (w.alloc (.cells #[.int .u8 me, .int .i64 ep, .int .i64 st, .int .u8 to, .string cg, .bool kp] 25)).alloc (.cells #[.int .i64 kd, .int .u8 fr, .int .u8 t, .int .i64 e, .string mg] 27) = V := ⟨_, rfl⟩
    have nW1_s : CB W1 (w.heap.size) 25 #[.int .u8 me, .int .i64 ep, .int .i64 st, .int .u8 to, .string cg, .bool kp] := by
      rw [← hW1]
      have := ((CB.new w 25 #[.int .u8 me, .int .i64 ep, .int .i64 st, .int .u8 to, .string cg, .bool kp]).alloc (.cells #[.int .i64 kd, .int .u8 fr, .int .u8 t, .int .i64 e, .string mg] 27))
      simpa using this
    have nW1_m : CB W1 (w.heap.size + 1) 27 #[.int .i64 kd, .int .u8 fr, .int .u8 t, .int .i64 e, .string mg] := by
      rw [← hW1]
      have := (CB.new (w.alloc (.cells #[.int .u8 me, .int .i64 ep, .int .i64 st, .int .u8 to, .string cg, .bool kp] 25)) 27 #[.int .i64 kd, .int .u8 fr, .int .u8 t, .int .i64 e, .string mg])
      simpa using this
    have neW1_01 : w.heap.size ≠ w.heap.size + 1 := by omega
    have lW1 : Below w.heap.size w W1 := by rw [← hW1]; exact le_tr (le_al _ _) (le_al _ _)
    have HW1 := Lib.hid hW1
    clear hW1
    go_enter Try.func8, Try.ntmps8
    go_wp2_with fail
    rw [HW1.out]
    refine (alive_c _).mono ?_
    rintro e w2 ⟨rfl, b2⟩
    have r3_s := le_on nW1_s b2
    have r3_m := le_on nW1_m b2
    have l3 := le_tr lW1 b2
    clear nW1_s nW1_m lW1
    clear b2
    have f3_s0 : w2.cell? ⟨w.heap.size, 0, none⟩ = some (.int .u8 me) := CB.cell r3_s 0
    have f3_s1 : w2.cell? ⟨w.heap.size, 1, none⟩ = some (.int .i64 ep) := CB.cell r3_s 1
    have f3_s2 : w2.cell? ⟨w.heap.size, 2, none⟩ = some (.int .i64 st) := CB.cell r3_s 2
    have f3_s3 : w2.cell? ⟨w.heap.size, 3, none⟩ = some (.int .u8 to) := CB.cell r3_s 3
    have f3_s4 : w2.cell? ⟨w.heap.size, 4, none⟩ = some (.string cg) := CB.cell r3_s 4
    have f3_s5 : w2.cell? ⟨w.heap.size, 5, none⟩ = some (.bool kp) := CB.cell r3_s 5
    have f3_m0 : w2.cell? ⟨w.heap.size + 1, 0, none⟩ = some (.int .i64 kd) := CB.cell r3_m 0
    have f3_m1 : w2.cell? ⟨w.heap.size + 1, 1, none⟩ = some (.int .u8 fr) := CB.cell r3_m 1
    have f3_m2 : w2.cell? ⟨w.heap.size + 1, 2, none⟩ = some (.int .u8 t) := CB.cell r3_m 2
    have f3_m3 : w2.cell? ⟨w.heap.size + 1, 3, none⟩ = some (.int .i64 e) := CB.cell r3_m 3
    have f3_m4 : w2.cell? ⟨w.heap.size + 1, 4, none⟩ = some (.string mg) := CB.cell r3_m 4
    clear hR
    by_cases hcg : (600 : Int) < (cg.size : Int)
    · have hcg' : decide ((600 : Int) < (cg.size : Int)) = true := by simp [hcg]
      go_wp2_with fail
      go_ret
      exact ⟨rfl, l3⟩
    have hcg' : decide ((600 : Int) < (cg.size : Int)) = false := by simp [hcg]
    clear hcg
    by_cases hmg : (600 : Int) < (mg.size : Int)
    · have hmg' : decide ((600 : Int) < (mg.size : Int)) = true := by simp [hmg]
      go_wp2_with fail
      go_ret
      exact ⟨rfl, l3⟩
    have hmg' : decide ((600 : Int) < (mg.size : Int)) = false := by simp [hmg]
    clear hmg
    go_wp2_with fail
    refine (R1 _).mono ?_
    rintro e w4 ⟨rfl, b4⟩
    clear f3_s0 f3_s1 f3_s2 f3_s3 f3_s4 f3_s5 f3_m0 f3_m1 f3_m2 f3_m3 f3_m4
    have r5_s := le_on r3_s b4
    have r5_m := le_on r3_m b4
    have l5 := le_tr l3 b4
    clear r3_s r3_m l3
    clear b4
    have f5_s0 : w4.cell? ⟨w.heap.size, 0, none⟩ = some (.int .u8 me) := CB.cell r5_s 0
    have f5_s1 : w4.cell? ⟨w.heap.size, 1, none⟩ = some (.int .i64 ep) := CB.cell r5_s 1
    have f5_s2 : w4.cell? ⟨w.heap.size, 2, none⟩ = some (.int .i64 st) := CB.cell r5_s 2
    have f5_s3 : w4.cell? ⟨w.heap.size, 3, none⟩ = some (.int .u8 to) := CB.cell r5_s 3
    have f5_s4 : w4.cell? ⟨w.heap.size, 4, none⟩ = some (.string cg) := CB.cell r5_s 4
    have f5_s5 : w4.cell? ⟨w.heap.size, 5, none⟩ = some (.bool kp) := CB.cell r5_s 5
    have f5_m0 : w4.cell? ⟨w.heap.size + 1, 0, none⟩ = some (.int .i64 kd) := CB.cell r5_m 0
    have f5_m1 : w4.cell? ⟨w.heap.size + 1, 1, none⟩ = some (.int .u8 fr) := CB.cell r5_m 1
    have f5_m2 : w4.cell? ⟨w.heap.size + 1, 2, none⟩ = some (.int .u8 t) := CB.cell r5_m 2
    have f5_m3 : w4.cell? ⟨w.heap.size + 1, 3, none⟩ = some (.int .i64 e) := CB.cell r5_m 3
    have f5_m4 : w4.cell? ⟨w.heap.size + 1, 4, none⟩ = some (.string mg) := CB.cell r5_m 4
    go_wp2_with fail
    clear f5_s0 f5_s1 f5_s2 f5_s3 f5_s4 f5_s5 f5_m0 f5_m1 f5_m2 f5_m3 f5_m4
    have y6 := Lib.hid (show (fun V : World => V.cell? ⟨w.heap.size, 0, none⟩ = some (.int .u8 me) ∧ V.cell? ⟨w.heap.size, 1, none⟩ = some (.int .i64 ep) ∧ V.cell? ⟨w.heap.size, 2, none⟩ = some (.int .i64 st) ∧ V.cell? ⟨w.heap.size, 3, none⟩ = some (.int .u8 to) ∧ V.cell? ⟨w.heap.size, 4, none⟩ = some (.string cg) ∧ V.cell? ⟨w.heap.size, 5, none⟩ = some (.bool kp) ∧ V.cell? ⟨w.heap.size + 1, 0, none⟩ = some (.int .i64 kd) ∧ V.cell? ⟨w.heap.size + 1, 1, none⟩ = some (.int .u8 fr) ∧ V.cell? ⟨w.heap.size + 1, 2, none⟩ = some (.int .u8 t) ∧ V.cell? ⟨w.heap.size + 1, 3, none⟩ = some (.int .i64 e) ∧ V.cell? ⟨w.heap.size + 1, 4, none⟩ = some (.string mg)) w4 from ⟨CB.cell r5_s 0, CB.cell r5_s 1, CB.cell r5_s 2, CB.cell r5_s 3, CB.cell r5_s 4, CB.cell r5_s 5, CB.cell r5_m 0, CB.cell r5_m 1, CB.cell r5_m 2, CB.cell r5_m 3, CB.cell r5_m 4⟩)
    refine wp_region_held_drew (S := (fun V : World => V.cell? ⟨w.heap.size, 0, none⟩ = some (.int .u8 me) ∧ V.cell? ⟨w.heap.size, 1, none⟩ = some (.int .i64 ep) ∧ V.cell? ⟨w.heap.size, 2, none⟩ = some (.int .i64 st) ∧ V.cell? ⟨w.heap.size, 3, none⟩ = some (.int .u8 to) ∧ V.cell? ⟨w.heap.size, 4, none⟩ = some (.string cg) ∧ V.cell? ⟨w.heap.size, 5, none⟩ = some (.bool kp) ∧ V.cell? ⟨w.heap.size + 1, 0, none⟩ = some (.int .i64 kd) ∧ V.cell? ⟨w.heap.size + 1, 1, none⟩ = some (.int .u8 fr) ∧ V.cell? ⟨w.heap.size + 1, 2, none⟩ = some (.int .u8 t) ∧ V.cell? ⟨w.heap.size + 1, 3, none⟩ = some (.int .i64 e) ∧ V.cell? ⟨w.heap.size + 1, 4, none⟩ = some (.string mg))) (by kernel_rfl) y6.out (fun hHeld => ?_)
    obtain ⟨D6, hD6⟩ : ∃ V, w4.drew = V := ⟨_, rfl⟩
    have b6 : Below w4.heap.size w4 D6 := by rw [← hD6]; exact le_dr (Below.refl _ _)
    rw [hD6] at hHeld ⊢
    clear hD6
    have r7_s := le_on r5_s b6
    have r7_m := le_on r5_m b6
    have l7 := le_tr l5 b6
    clear r5_s r5_m l5
    clear b6
    refine wpAnyH_takeL (i := 0) (d := some 30) (v := .agg #[.int .u8 me, .int .i64 ep, .int .i64 st, .int .u8 to, .string cg, .bool kp]) rfl rfl (by kernel_rfl) (by kernel_rfl) (by kernel_rfl) (fun _ _ _ h => h) (Or.inl ⟨by rfl, ?_⟩) hHeld ?_
    · intro w hSw; (try dsimp only at hSw); go_simp
    try simp only [Act.put, List.setIfInBounds_toArray, List.set_cons_zero, List.set_cons_succ]
    refine wpAnyH_takeL (i := 2) (d := some 32) (v := .agg #[.int .i64 kd, .int .u8 fr, .int .u8 t, .int .i64 e, .string mg]) rfl rfl (by kernel_rfl) (by kernel_rfl) (by kernel_rfl) (fun _ _ _ h => h) (Or.inl ⟨by rfl, ?_⟩) hHeld ?_
    · intro w hSw; (try dsimp only at hSw); go_simp
    try simp only [Act.put, List.setIfInBounds_toArray, List.set_cons_zero, List.set_cons_succ]
    refine wpAnyH_ready (rs := [1, 8]) (by kernel_rfl) (by simp) ?_
    refine AllReadyH.cons rfl (fun K hK => ?_) (AllReadyH.cons rfl (fun K hK => ?_) AllReadyH.nil)
    · skip
      go_simp
      refine (theirs_c me ep st to cg kp _).mono ?_
      rintro e u8 ⟨rfl, b8⟩
      have r9_s := le_on r7_s b8
      have r9_m := le_on r7_m b8
      have l9 := le_tr l7 b8
      clear r7_s r7_m l7
      clear b8
      go_wp2_with fail
      have y10 := Lib.hid (show (fun V : World => V.cell? ⟨w.heap.size, 0, none⟩ = some (.int .u8 me) ∧ V.cell? ⟨w.heap.size, 1, none⟩ = some (.int .i64 ep) ∧ V.cell? ⟨w.heap.size, 2, none⟩ = some (.int .i64 st) ∧ V.cell? ⟨w.heap.size, 3, none⟩ = some (.int .u8 to) ∧ V.cell? ⟨w.heap.size, 4, none⟩ = some (.string cg) ∧ V.cell? ⟨w.heap.size, 5, none⟩ = some (.bool kp) ∧ V.cell? ⟨w.heap.size + 1, 0, none⟩ = some (.int .i64 kd) ∧ V.cell? ⟨w.heap.size + 1, 1, none⟩ = some (.int .u8 fr) ∧ V.cell? ⟨w.heap.size + 1, 2, none⟩ = some (.int .u8 t) ∧ V.cell? ⟨w.heap.size + 1, 3, none⟩ = some (.int .i64 e) ∧ V.cell? ⟨w.heap.size + 1, 4, none⟩ = some (.string mg)) u8 from ⟨CB.cell r9_s 0, CB.cell r9_s 1, CB.cell r9_s 2, CB.cell r9_s 3, CB.cell r9_s 4, CB.cell r9_s 5, CB.cell r9_m 0, CB.cell r9_m 1, CB.cell r9_m 2, CB.cell r9_m 3, CB.cell r9_m 4⟩)
      refine hK.out _ _ y10.out (fun hHeld => ?_)
      clear hK K y10
      try simp only [Act.put, List.setIfInBounds_toArray, List.set_cons_zero, List.set_cons_succ]
      refine wpAnyH_ready (rs := [3, 8]) (by kernel_rfl) (by simp) ?_
      refine AllReadyH.cons rfl (fun K hK => ?_) (AllReadyH.cons rfl (fun K hK => ?_) AllReadyH.nil)
      · skip
        go_simp
        refine (H1 _).mono ?_
        rintro e u11 ⟨A, n, q, rfl, hr, b11⟩
        have r12_s := le_on r9_s b11
        have r12_m := le_on r9_m b11
        have l12 := le_tr l9 b11
        clear r9_s r9_m l9
        clear b11
        go_wp2_with fail
        have y13 := Lib.hid (show (fun V : World => V.cell? ⟨w.heap.size, 0, none⟩ = some (.int .u8 me) ∧ V.cell? ⟨w.heap.size, 1, none⟩ = some (.int .i64 ep) ∧ V.cell? ⟨w.heap.size, 2, none⟩ = some (.int .i64 st) ∧ V.cell? ⟨w.heap.size, 3, none⟩ = some (.int .u8 to) ∧ V.cell? ⟨w.heap.size, 4, none⟩ = some (.string cg) ∧ V.cell? ⟨w.heap.size, 5, none⟩ = some (.bool kp) ∧ V.cell? ⟨w.heap.size + 1, 0, none⟩ = some (.int .i64 kd) ∧ V.cell? ⟨w.heap.size + 1, 1, none⟩ = some (.int .u8 fr) ∧ V.cell? ⟨w.heap.size + 1, 2, none⟩ = some (.int .u8 t) ∧ V.cell? ⟨w.heap.size + 1, 3, none⟩ = some (.int .i64 e) ∧ V.cell? ⟨w.heap.size + 1, 4, none⟩ = some (.string mg)) u11 from ⟨CB.cell r12_s 0, CB.cell r12_s 1, CB.cell r12_s 2, CB.cell r12_s 3, CB.cell r12_s 4, CB.cell r12_s 5, CB.cell r12_m 0, CB.cell r12_m 1, CB.cell r12_m 2, CB.cell r12_m 3, CB.cell r12_m 4⟩)
        refine hK.out _ _ y13.out (fun hHeld => ?_)
        clear hK K y13
        try simp only [Act.put, List.setIfInBounds_toArray, List.set_cons_zero, List.set_cons_succ]
        refine wpAnyH_takeL (i := 4) (d := some 29) (v := .tuple #[.agg #[.int .u8 zme, .int .i64 zep, .int .i64 zst, .int .u8 zto, .string zcg, .bool zkp], .slice A n q, .int .i64 (ze : Int)]) rfl rfl (by kernel_rfl) (by kernel_rfl) (by kernel_rfl) (fun _ _ _ h => h) (Or.inl ⟨by rfl, ?_⟩) hHeld ?_
        · intro w hSw; (try dsimp only at hSw); go_simp
        try simp only [Act.put, List.setIfInBounds_toArray, List.set_cons_zero, List.set_cons_succ]
        refine wpAnyH_takeL (i := 5) (d := some 34) (v := .agg #[.int .u8 zme, .int .i64 zep, .int .i64 zst, .int .u8 zto, .string zcg, .bool zkp]) rfl rfl (by kernel_rfl) (by kernel_rfl) (by kernel_rfl) (fun _ _ _ h => h) (Or.inl ⟨by rfl, ?_⟩) hHeld ?_
        · intro w hSw; (try dsimp only at hSw); go_simp
        try simp only [Act.put, List.setIfInBounds_toArray, List.set_cons_zero, List.set_cons_succ]
        refine wpAnyH_takeL (i := 6) (d := some 35) (v := .slice A n q) rfl rfl (by kernel_rfl) (by kernel_rfl) (by kernel_rfl) (fun _ _ _ h => h) (Or.inl ⟨by rfl, ?_⟩) hHeld ?_
        · intro w hSw; (try dsimp only at hSw); go_simp
        try simp only [Act.put, List.setIfInBounds_toArray, List.set_cons_zero, List.set_cons_succ]
        refine wpAnyH_takeL (i := 7) (d := some 36) (v := .int .i64 (ze : Int)) rfl rfl (by kernel_rfl) (by kernel_rfl) (by kernel_rfl) (fun _ _ _ h => h) (Or.inl ⟨by rfl, ?_⟩) hHeld ?_
        · intro w hSw; (try dsimp only at hSw); go_simp
        try simp only [Act.put, List.setIfInBounds_toArray, List.set_cons_zero, List.set_cons_succ]
        refine wpAnyH_ready (rs := [8]) (by kernel_rfl) (by simp) ?_
        refine AllReadyH.cons rfl (fun K hK => ?_) AllReadyH.nil
        go_simp
        go_wp2_with fail
        have av_x : w.heap.size ≤ u11.heap.size := by have := l12.size; omega
        obtain ⟨W14, hW14⟩ : ∃ V, u11.alloc (.cells #[.int .u8 0, .int .i64 0, .int .i64 0, .int .u8 0, .string ⟨#[]⟩, .bool false] 31) = V := ⟨_, rfl⟩
        have zW14 : u11.heap.size = u11.heap.size := by rfl
        have nW14 : CB W14 (u11.heap.size) 31 #[.int .u8 0, .int .i64 0, .int .i64 0, .int .u8 0, .string ⟨#[]⟩, .bool false] := by rw [← zW14, ← hW14]; exact CB.new _ _ _
        have bW14 : Below u11.heap.size u11 W14 := by rw [← hW14]; exact le_al _ _
        have neW14_s : w.heap.size ≠ u11.heap.size := by have := CB.lt r12_s; omega
        have neW14_m : w.heap.size + 1 ≠ u11.heap.size := by have := CB.lt r12_m; omega
        have HW14 := Lib.hid hW14
        clear hW14 zW14
        have q15_z := RS.on hr bW14
        have r15_s := le_on r12_s bW14
        have r15_m := le_on r12_m bW14
        have l15 := le_tr l12 bW14
        clear r12_s r12_m l12
        clear hr
        clear bW14
        rw [HW14.out]
        have y16 := Lib.hid (show (fun V : World => V.cell? ⟨w.heap.size, 0, none⟩ = some (.int .u8 me) ∧ V.cell? ⟨w.heap.size, 1, none⟩ = some (.int .i64 ep) ∧ V.cell? ⟨w.heap.size, 2, none⟩ = some (.int .i64 st) ∧ V.cell? ⟨w.heap.size, 3, none⟩ = some (.int .u8 to) ∧ V.cell? ⟨w.heap.size, 4, none⟩ = some (.string cg) ∧ V.cell? ⟨w.heap.size, 5, none⟩ = some (.bool kp) ∧ V.cell? ⟨w.heap.size + 1, 0, none⟩ = some (.int .i64 kd) ∧ V.cell? ⟨w.heap.size + 1, 1, none⟩ = some (.int .u8 fr) ∧ V.cell? ⟨w.heap.size + 1, 2, none⟩ = some (.int .u8 t) ∧ V.cell? ⟨w.heap.size + 1, 3, none⟩ = some (.int .i64 e) ∧ V.cell? ⟨w.heap.size + 1, 4, none⟩ = some (.string mg)) W14 from ⟨CB.cell r15_s 0, CB.cell r15_s 1, CB.cell r15_s 2, CB.cell r15_s 3, CB.cell r15_s 4, CB.cell r15_s 5, CB.cell r15_m 0, CB.cell r15_m 1, CB.cell r15_m 2, CB.cell r15_m 3, CB.cell r15_m 4⟩)
        refine hK.out _ _ y16.out (fun hHeld => ?_)
        clear hK K y16
        try simp only [Act.put, List.setIfInBounds_toArray, List.set_cons_zero, List.set_cons_succ]
        refine wpAnyH_ready (rs := [9]) (by kernel_rfl) (by simp) ?_
        refine AllReadyH.cons rfl (fun K hK => ?_) AllReadyH.nil
        have f16_x0 : W14.cell? ⟨u11.heap.size, 0, none⟩ = some (.int .u8 0) := CB.cell nW14 0
        have z16_x0 : W14.frozen? ⟨u11.heap.size, 0, none⟩ = false := CB.frozen nW14 0
        have f16_x1 : W14.cell? ⟨u11.heap.size, 1, none⟩ = some (.int .i64 0) := CB.cell nW14 1
        have z16_x1 : W14.frozen? ⟨u11.heap.size, 1, none⟩ = false := CB.frozen nW14 1
        have f16_x2 : W14.cell? ⟨u11.heap.size, 2, none⟩ = some (.int .i64 0) := CB.cell nW14 2
        have z16_x2 : W14.frozen? ⟨u11.heap.size, 2, none⟩ = false := CB.frozen nW14 2
        have f16_x3 : W14.cell? ⟨u11.heap.size, 3, none⟩ = some (.int .u8 0) := CB.cell nW14 3
        have z16_x3 : W14.frozen? ⟨u11.heap.size, 3, none⟩ = false := CB.frozen nW14 3
        have f16_x4 : W14.cell? ⟨u11.heap.size, 4, none⟩ = some (.string ⟨#[]⟩) := CB.cell nW14 4
        have z16_x4 : W14.frozen? ⟨u11.heap.size, 4, none⟩ = false := CB.frozen nW14 4
        have f16_x5 : W14.cell? ⟨u11.heap.size, 5, none⟩ = some (.bool false) := CB.cell nW14 5
        have z16_x5 : W14.frozen? ⟨u11.heap.size, 5, none⟩ = false := CB.frozen nW14 5
        go_simp
        go_wp2_with fail
        have g17_z := (RS.far (RS.far (RS.far (RS.far (RS.far (RS.far q15_z nW14 (by decide) 0 (.int .u8 zme)) (CB.put nW14 0 (.int .u8 zme)) (by decide) 1 (.int .i64 zep)) (CB.put (CB.put nW14 0 (.int .u8 zme)) 1 (.int .i64 zep)) (by decide) 2 (.int .i64 zst)) (CB.put (CB.put (CB.put nW14 0 (.int .u8 zme)) 1 (.int .i64 zep)) 2 (.int .i64 zst)) (by decide) 3 (.int .u8 zto)) (CB.put (CB.put (CB.put (CB.put nW14 0 (.int .u8 zme)) 1 (.int .i64 zep)) 2 (.int .i64 zst)) 3 (.int .u8 zto)) (by decide) 4 (.string zcg)) (CB.put (CB.put (CB.put (CB.put (CB.put nW14 0 (.int .u8 zme)) 1 (.int .i64 zep)) 2 (.int .i64 zst)) 3 (.int .u8 zto)) 4 (.string zcg)) (by decide) 5 (.bool zkp))
        have f16_x0 : W14.cell? ⟨u11.heap.size, 0, none⟩ = some (.int .u8 0) := CB.cell nW14 0
        have z16_x0 : W14.frozen? ⟨u11.heap.size, 0, none⟩ = false := CB.frozen nW14 0
        have f16_x1 : W14.cell? ⟨u11.heap.size, 1, none⟩ = some (.int .i64 0) := CB.cell nW14 1
        have z16_x1 : W14.frozen? ⟨u11.heap.size, 1, none⟩ = false := CB.frozen nW14 1
        have f16_x2 : W14.cell? ⟨u11.heap.size, 2, none⟩ = some (.int .i64 0) := CB.cell nW14 2
        have z16_x2 : W14.frozen? ⟨u11.heap.size, 2, none⟩ = false := CB.frozen nW14 2
        have f16_x3 : W14.cell? ⟨u11.heap.size, 3, none⟩ = some (.int .u8 0) := CB.cell nW14 3
        have z16_x3 : W14.frozen? ⟨u11.heap.size, 3, none⟩ = false := CB.frozen nW14 3
        have f16_x4 : W14.cell? ⟨u11.heap.size, 4, none⟩ = some (.string ⟨#[]⟩) := CB.cell nW14 4
        have z16_x4 : W14.frozen? ⟨u11.heap.size, 4, none⟩ = false := CB.frozen nW14 4
        have f16_x5 : W14.cell? ⟨u11.heap.size, 5, none⟩ = some (.bool false) := CB.cell nW14 5
        have z16_x5 : W14.frozen? ⟨u11.heap.size, 5, none⟩ = false := CB.frozen nW14 5
        obtain ⟨V17, hV17⟩ : ∃ V, (((((W14.setCell ⟨u11.heap.size, 0, none⟩ (.int .u8 zme)).setCell ⟨u11.heap.size, 1, none⟩ (.int .i64 zep)).setCell ⟨u11.heap.size, 2, none⟩ (.int .i64 zst)).setCell ⟨u11.heap.size, 3, none⟩ (.int .u8 zto)).setCell ⟨u11.heap.size, 4, none⟩ (.string zcg)).setCell ⟨u11.heap.size, 5, none⟩ (.bool zkp) = V := ⟨_, rfl⟩
        have nV17 : CB V17 (u11.heap.size) 31 #[.int .u8 zme, .int .i64 zep, .int .i64 zst, .int .u8 zto, .string zcg, .bool zkp] := by rw [← hV17]; exact cb_cast (CB.put (CB.put (CB.put (CB.put (CB.put (CB.put nW14 0 (.int .u8 zme)) 1 (.int .i64 zep)) 2 (.int .i64 zst)) 3 (.int .u8 zto)) 4 (.string zcg)) 5 (.bool zkp)) (by kernel_rfl)
        have mV17_s : CB V17 (w.heap.size) 25 #[.int .u8 me, .int .i64 ep, .int .i64 st, .int .u8 to, .string cg, .bool kp] := by rw [← hV17]; exact (CB.far (CB.far (CB.far (CB.far (CB.far (CB.far r15_s (p := ⟨u11.heap.size, 0, none⟩) neW14_s (.int .u8 zme)) (p := ⟨u11.heap.size, 1, none⟩) neW14_s (.int .i64 zep)) (p := ⟨u11.heap.size, 2, none⟩) neW14_s (.int .i64 zst)) (p := ⟨u11.heap.size, 3, none⟩) neW14_s (.int .u8 zto)) (p := ⟨u11.heap.size, 4, none⟩) neW14_s (.string zcg)) (p := ⟨u11.heap.size, 5, none⟩) neW14_s (.bool zkp))
        have mV17_m : CB V17 (w.heap.size + 1) 27 #[.int .i64 kd, .int .u8 fr, .int .u8 t, .int .i64 e, .string mg] := by rw [← hV17]; exact (CB.far (CB.far (CB.far (CB.far (CB.far (CB.far r15_m (p := ⟨u11.heap.size, 0, none⟩) neW14_m (.int .u8 zme)) (p := ⟨u11.heap.size, 1, none⟩) neW14_m (.int .i64 zep)) (p := ⟨u11.heap.size, 2, none⟩) neW14_m (.int .i64 zst)) (p := ⟨u11.heap.size, 3, none⟩) neW14_m (.int .u8 zto)) (p := ⟨u11.heap.size, 4, none⟩) neW14_m (.string zcg)) (p := ⟨u11.heap.size, 5, none⟩) neW14_m (.bool zkp))
        have oV17 := (Below.setCell (Below.setCell (Below.setCell (Below.setCell (Below.setCell (Below.setCell l15 (p := ⟨u11.heap.size, 0, none⟩) (by have := av_x; dsimp only; omega) (.int .u8 zme)) (p := ⟨u11.heap.size, 1, none⟩) (by have := av_x; dsimp only; omega) (.int .i64 zep)) (p := ⟨u11.heap.size, 2, none⟩) (by have := av_x; dsimp only; omega) (.int .i64 zst)) (p := ⟨u11.heap.size, 3, none⟩) (by have := av_x; dsimp only; omega) (.int .u8 zto)) (p := ⟨u11.heap.size, 4, none⟩) (by have := av_x; dsimp only; omega) (.string zcg)) (p := ⟨u11.heap.size, 5, none⟩) (by have := av_x; dsimp only; omega) (.bool zkp))
        rw [hV17] at oV17
        have HV17 := Lib.hid hV17
        have V17_eq := hV17
        clear hV17
        clear nW14 r15_s r15_m l15
        have q17_z : RS V17 37 mc 5 A n q zr := by rw [← V17_eq]; exact g17_z
        clear g17_z q15_z
        clear V17_eq
        rw [HV17.out]
        clear f16_x0 z16_x0 f16_x1 z16_x1 f16_x2 z16_x2 f16_x3 z16_x3 f16_x4 z16_x4 f16_x5 z16_x5
        have y18 := Lib.hid (show (fun V : World => V.cell? ⟨w.heap.size, 0, none⟩ = some (.int .u8 me) ∧ V.cell? ⟨w.heap.size, 1, none⟩ = some (.int .i64 ep) ∧ V.cell? ⟨w.heap.size, 2, none⟩ = some (.int .i64 st) ∧ V.cell? ⟨w.heap.size, 3, none⟩ = some (.int .u8 to) ∧ V.cell? ⟨w.heap.size, 4, none⟩ = some (.string cg) ∧ V.cell? ⟨w.heap.size, 5, none⟩ = some (.bool kp) ∧ V.cell? ⟨w.heap.size + 1, 0, none⟩ = some (.int .i64 kd) ∧ V.cell? ⟨w.heap.size + 1, 1, none⟩ = some (.int .u8 fr) ∧ V.cell? ⟨w.heap.size + 1, 2, none⟩ = some (.int .u8 t) ∧ V.cell? ⟨w.heap.size + 1, 3, none⟩ = some (.int .i64 e) ∧ V.cell? ⟨w.heap.size + 1, 4, none⟩ = some (.string mg)) V17 from ⟨CB.cell mV17_s 0, CB.cell mV17_s 1, CB.cell mV17_s 2, CB.cell mV17_s 3, CB.cell mV17_s 4, CB.cell mV17_s 5, CB.cell mV17_m 0, CB.cell mV17_m 1, CB.cell mV17_m 2, CB.cell mV17_m 3, CB.cell mV17_m 4⟩)
        refine hK.out _ _ y18.out (fun hHeld => ?_)
        clear hK K y18
        try simp only [Act.put, List.setIfInBounds_toArray, List.set_cons_zero, List.set_cons_succ]
        refine wpAnyH_takeL (i := 10) (d := some 6) (v := .slice A n q) rfl rfl (by kernel_rfl) (by kernel_rfl) (by kernel_rfl) (fun _ _ _ h => h) (Or.inl ⟨by rfl, ?_⟩) hHeld ?_
        · intro w hSw; (try dsimp only at hSw); go_simp
        try simp only [Act.put, List.setIfInBounds_toArray, List.set_cons_zero, List.set_cons_succ]
        refine wpAnyH_takeL (i := 11) (d := some 7) (v := .int .i64 (ze : Int)) rfl rfl (by kernel_rfl) (by kernel_rfl) (by kernel_rfl) (fun _ _ _ h => h) (Or.inl ⟨by rfl, ?_⟩) hHeld ?_
        · intro w hSw; (try dsimp only at hSw); go_simp
        try simp only [Act.put, List.setIfInBounds_toArray, List.set_cons_zero, List.set_cons_succ]
        refine wpAnyH_done (by kernel_rfl) ?_ _
        have f18_x0 : V17.cell? ⟨u11.heap.size, 0, none⟩ = some (.int .u8 zme) := CB.cell nV17 0
        have f18_x1 : V17.cell? ⟨u11.heap.size, 1, none⟩ = some (.int .i64 zep) := CB.cell nV17 1
        have f18_x2 : V17.cell? ⟨u11.heap.size, 2, none⟩ = some (.int .i64 zst) := CB.cell nV17 2
        have f18_x3 : V17.cell? ⟨u11.heap.size, 3, none⟩ = some (.int .u8 zto) := CB.cell nV17 3
        have f18_x4 : V17.cell? ⟨u11.heap.size, 4, none⟩ = some (.string zcg) := CB.cell nV17 4
        have f18_x5 : V17.cell? ⟨u11.heap.size, 5, none⟩ = some (.bool zkp) := CB.cell nV17 5
        have f18_m0 : V17.cell? ⟨w.heap.size + 1, 0, none⟩ = some (.int .i64 kd) := CB.cell mV17_m 0
        have f18_m1 : V17.cell? ⟨w.heap.size + 1, 1, none⟩ = some (.int .u8 fr) := CB.cell mV17_m 1
        have f18_m2 : V17.cell? ⟨w.heap.size + 1, 2, none⟩ = some (.int .u8 t) := CB.cell mV17_m 2
        have f18_m3 : V17.cell? ⟨w.heap.size + 1, 3, none⟩ = some (.int .i64 e) := CB.cell mV17_m 3
        have f18_m4 : V17.cell? ⟨w.heap.size + 1, 4, none⟩ = some (.string mg) := CB.cell mV17_m 4
        go_wp2_with fail
        refine (H3 _).mono ?_
        rintro e w19 ⟨B, n', q', rfl, hr', b19⟩
        clear f18_x0 f18_x1 f18_x2 f18_x3 f18_x4 f18_x5 f18_m0 f18_m1 f18_m2 f18_m3 f18_m4
        have q20_z := RS.on q17_z b19
        have r20_s := le_on mV17_s b19
        have r20_m := le_on mV17_m b19
        have r20_x := le_on nV17 b19
        have l20 := le_tr oV17 b19
        clear mV17_s mV17_m nV17 oV17
        clear q17_z
        clear b19
        have av_y : w.heap.size ≤ w19.heap.size := by have := l20.size; omega
        obtain ⟨W21, hW21⟩ : ∃ V, w19.alloc (.cells #[.int .u8 zme, .int .i64 zep, .int .i64 zst, .int .u8 zto, .string zcg, .bool zkp] 31) = V := ⟨_, rfl⟩
        have zW21 : w19.heap.size = w19.heap.size := by rfl
        have nW21 : CB W21 (w19.heap.size) 31 #[.int .u8 zme, .int .i64 zep, .int .i64 zst, .int .u8 zto, .string zcg, .bool zkp] := by rw [← zW21, ← hW21]; exact CB.new _ _ _
        have bW21 : Below w19.heap.size w19 W21 := by rw [← hW21]; exact le_al _ _
        have neW21_s : w.heap.size ≠ w19.heap.size := by have := CB.lt r20_s; omega
        have neW21_m : w.heap.size + 1 ≠ w19.heap.size := by have := CB.lt r20_m; omega
        have neW21_x : u11.heap.size ≠ w19.heap.size := by have := CB.lt r20_x; omega
        have HW21 := Lib.hid hW21
        clear hW21 zW21
        have q22_z := RS.on q20_z bW21
        have q22_y := RS.on hr' bW21
        have r22_s := le_on r20_s bW21
        have r22_m := le_on r20_m bW21
        have r22_x := le_on r20_x bW21
        have l22 := le_tr l20 bW21
        clear r20_s r20_m r20_x l20
        clear q20_z hr'
        clear bW21
        have f22_x0 : (w19.alloc (.cells #[.int .u8 zme, .int .i64 zep, .int .i64 zst, .int .u8 zto, .string zcg, .bool zkp] 31)).cell? ⟨u11.heap.size, 0, none⟩ = some (.int .u8 zme) := by rw [HW21.out]; exact CB.cell r22_x 0
        have f22_x1 : (w19.alloc (.cells #[.int .u8 zme, .int .i64 zep, .int .i64 zst, .int .u8 zto, .string zcg, .bool zkp] 31)).cell? ⟨u11.heap.size, 1, none⟩ = some (.int .i64 zep) := by rw [HW21.out]; exact CB.cell r22_x 1
        have f22_x2 : (w19.alloc (.cells #[.int .u8 zme, .int .i64 zep, .int .i64 zst, .int .u8 zto, .string zcg, .bool zkp] 31)).cell? ⟨u11.heap.size, 2, none⟩ = some (.int .i64 zst) := by rw [HW21.out]; exact CB.cell r22_x 2
        have f22_x3 : (w19.alloc (.cells #[.int .u8 zme, .int .i64 zep, .int .i64 zst, .int .u8 zto, .string zcg, .bool zkp] 31)).cell? ⟨u11.heap.size, 3, none⟩ = some (.int .u8 zto) := by rw [HW21.out]; exact CB.cell r22_x 3
        have f22_x4 : (w19.alloc (.cells #[.int .u8 zme, .int .i64 zep, .int .i64 zst, .int .u8 zto, .string zcg, .bool zkp] 31)).cell? ⟨u11.heap.size, 4, none⟩ = some (.string zcg) := by rw [HW21.out]; exact CB.cell r22_x 4
        have f22_x5 : (w19.alloc (.cells #[.int .u8 zme, .int .i64 zep, .int .i64 zst, .int .u8 zto, .string zcg, .bool zkp] 31)).cell? ⟨u11.heap.size, 5, none⟩ = some (.bool zkp) := by rw [HW21.out]; exact CB.cell r22_x 5
        have f22_y0 : (w19.alloc (.cells #[.int .u8 zme, .int .i64 zep, .int .i64 zst, .int .u8 zto, .string zcg, .bool zkp] 31)).cell? ⟨w19.heap.size, 0, none⟩ = some (.int .u8 zme) := by rw [HW21.out]; exact CB.cell nW21 0
        have f22_y1 : (w19.alloc (.cells #[.int .u8 zme, .int .i64 zep, .int .i64 zst, .int .u8 zto, .string zcg, .bool zkp] 31)).cell? ⟨w19.heap.size, 1, none⟩ = some (.int .i64 zep) := by rw [HW21.out]; exact CB.cell nW21 1
        have f22_y2 : (w19.alloc (.cells #[.int .u8 zme, .int .i64 zep, .int .i64 zst, .int .u8 zto, .string zcg, .bool zkp] 31)).cell? ⟨w19.heap.size, 2, none⟩ = some (.int .i64 zst) := by rw [HW21.out]; exact CB.cell nW21 2
        have f22_y3 : (w19.alloc (.cells #[.int .u8 zme, .int .i64 zep, .int .i64 zst, .int .u8 zto, .string zcg, .bool zkp] 31)).cell? ⟨w19.heap.size, 3, none⟩ = some (.int .u8 zto) := by rw [HW21.out]; exact CB.cell nW21 3
        have f22_y4 : (w19.alloc (.cells #[.int .u8 zme, .int .i64 zep, .int .i64 zst, .int .u8 zto, .string zcg, .bool zkp] 31)).cell? ⟨w19.heap.size, 4, none⟩ = some (.string zcg) := by rw [HW21.out]; exact CB.cell nW21 4
        have f22_y5 : (w19.alloc (.cells #[.int .u8 zme, .int .i64 zep, .int .i64 zst, .int .u8 zto, .string zcg, .bool zkp] 31)).cell? ⟨w19.heap.size, 5, none⟩ = some (.bool zkp) := by rw [HW21.out]; exact CB.cell nW21 5
        by_cases h0 : ze = 0
        · have t0 : ((ze : Int) != 0) = false := by simp [h0]
          have t00 : ((ze : Int) == 0) = true := by simp [h0]
          by_cases h1 : ye = 0
          · have t1 : ((ye : Int) != 0) = false := by simp [h1]
            obtain rfl := Z4.out h0 h1
            clear h0 h1
            obtain rfl : n' = n := by have a := RS.len q22_z; have b := RS.len q22_y; omega
            have q8 : ((n' : Int) == (n' : Int)) = true := beq_self_eq_true _
            have hmx : n' ≤ 9223372036854775807 := by have h1 := (RS.rr q22_z).cap; have h2 := (RS.rr q22_z).max; simp only [maxLen] at h2; omega
            go_wp2_with fail
            rw [HW21.out]
            clear f22_x0 f22_x1 f22_x2 f22_x3 f22_x4 f22_x5 f22_y0 f22_y1 f22_y2 f22_y3 f22_y4 f22_y5
            go_loopw [67] (fun iv wr => ∃ k : Nat, k ≤ n' ∧ iv = .int .i64 k ∧ Below W21.heap.size W21 wr) (fun iv _ => n' - (intOf iv).toNat)
            case atStart => exact ⟨0, by omega, rfl, Below.refl _ _⟩
            case round =>
              obtain ⟨k, hk, rfl, hbw⟩ := hrel
              obtain ⟨wz, hwz⟩ : ∃ z, z = wr := ⟨_, rfl⟩
              subst hwz
              have q73_z := RS.on q22_z hbw
              have q73_y := RS.on q22_y hbw
              have r73_s := le_on r22_s hbw
              have r73_m := le_on r22_m hbw
              have r73_x := le_on r22_x hbw
              have r73_y := le_on nW21 hbw
              have l73 := le_tr l22 hbw
              clear r22_s r22_m r22_x nW21
              clear q22_z q22_y
              by_cases hlt : k < n'
              · skip
                obtain ⟨g, off, kd', fr', t', e', mg', rfl, x1, d0, d1, d2, d3, d4⟩ := msg_at (RS.rr q73_z) hlt
                obtain ⟨g2, off2, kd2, fr2, t2, e2, mg2, rfl, x2, c0, c1, c2, c3, c4⟩ := msg_at (RS.rr q73_y) hlt
                rw [x1] at x2
                cases x2
                clear x1
                have e10 : (kd' != kd') = false := bne_self_eq_false _
                have e20 : (kd' == kd') = true := beq_self_eq_true _
                have e11 : (fr' != fr') = false := bne_self_eq_false _
                have e21 : (fr' == fr') = true := beq_self_eq_true _
                have e12 : (t' != t') = false := bne_self_eq_false _
                have e22 : (t' == t') = true := beq_self_eq_true _
                have e13 : (e' != e') = false := bne_self_eq_false _
                have e23 : (e' == e') = true := beq_self_eq_true _
                have e14 : (mg'.toList != mg'.toList) = false := bne_self_eq_false _
                have e24 : (mg'.toList == mg'.toList) = true := beq_self_eq_true _
                have e30 : decide ((n' : Int) ≤ (k : Int)) = false := by simp; omega
                go_wp2_with fail
                go_quiet (fail)
                have hl2 := Lib.hid (le_dN (k := nq) hbw)
                clear d0 d1 d2 d3 d4 c0 c1 c2 c3 c4
                go_wp2_with fail
                go_roundw
                case rel => exact ⟨k + 1, by omega, by go_num, hl2.out⟩
                case measure => simp [intOf]; omega
              · obtain rfl : k = n' := by omega
                go_wp2_with fail
                go_ret
                exact ⟨rfl, l73⟩
          · obtain rfl := Z3.out h1
            have t1 : ((ye : Int) != 0) = true := by simp; omega
            clear h0 h1
            obtain rfl : n' = 0 := RS.none_ q22_y
            go_wp2_with fail
            try rw [HW21.out]
            go_ret
            exact ⟨rfl, l22⟩
        · obtain ⟨h1, rfl⟩ := Z2.out h0
          have t1 : ((ze : Int) != 0) = true := by simp; omega
          have t2 : ((ze : Int) == 0) = false := by simp; omega
          have t3 : ((ye : Int) == (ze : Int)) = true := by simp [h1]
          clear h0 h1
          obtain rfl : n' = 0 := RS.none_ q22_y
          go_wp2_with fail
          try rw [HW21.out]
          go_ret
          exact ⟨rfl, l22⟩
      · skip
        go_simp
        go_wp2_with fail
        have av_x : w.heap.size ≤ u8.heap.size := by have := l9.size; omega
        obtain ⟨W11, hW11⟩ : ∃ V, u8.alloc (.cells #[.int .u8 0, .int .i64 0, .int .i64 0, .int .u8 0, .string ⟨#[]⟩, .bool false] 31) = V := ⟨_, rfl⟩
        have zW11 : u8.heap.size = u8.heap.size := by rfl
        have nW11 : CB W11 (u8.heap.size) 31 #[.int .u8 0, .int .i64 0, .int .i64 0, .int .u8 0, .string ⟨#[]⟩, .bool false] := by rw [← zW11, ← hW11]; exact CB.new _ _ _
        have bW11 : Below u8.heap.size u8 W11 := by rw [← hW11]; exact le_al _ _
        have neW11_s : w.heap.size ≠ u8.heap.size := by have := CB.lt r9_s; omega
        have neW11_m : w.heap.size + 1 ≠ u8.heap.size := by have := CB.lt r9_m; omega
        have HW11 := Lib.hid hW11
        clear hW11 zW11
        have r12_s := le_on r9_s bW11
        have r12_m := le_on r9_m bW11
        have l12 := le_tr l9 bW11
        clear r9_s r9_m l9
        clear bW11
        rw [HW11.out]
        have y13 := Lib.hid (show (fun V : World => V.cell? ⟨w.heap.size, 0, none⟩ = some (.int .u8 me) ∧ V.cell? ⟨w.heap.size, 1, none⟩ = some (.int .i64 ep) ∧ V.cell? ⟨w.heap.size, 2, none⟩ = some (.int .i64 st) ∧ V.cell? ⟨w.heap.size, 3, none⟩ = some (.int .u8 to) ∧ V.cell? ⟨w.heap.size, 4, none⟩ = some (.string cg) ∧ V.cell? ⟨w.heap.size, 5, none⟩ = some (.bool kp) ∧ V.cell? ⟨w.heap.size + 1, 0, none⟩ = some (.int .i64 kd) ∧ V.cell? ⟨w.heap.size + 1, 1, none⟩ = some (.int .u8 fr) ∧ V.cell? ⟨w.heap.size + 1, 2, none⟩ = some (.int .u8 t) ∧ V.cell? ⟨w.heap.size + 1, 3, none⟩ = some (.int .i64 e) ∧ V.cell? ⟨w.heap.size + 1, 4, none⟩ = some (.string mg)) W11 from ⟨CB.cell r12_s 0, CB.cell r12_s 1, CB.cell r12_s 2, CB.cell r12_s 3, CB.cell r12_s 4, CB.cell r12_s 5, CB.cell r12_m 0, CB.cell r12_m 1, CB.cell r12_m 2, CB.cell r12_m 3, CB.cell r12_m 4⟩)
        refine hK.out _ _ y13.out (fun hHeld => ?_)
        clear hK K y13
        try simp only [Act.put, List.setIfInBounds_toArray, List.set_cons_zero, List.set_cons_succ]
        refine wpAnyH_ready (rs := [3]) (by kernel_rfl) (by simp) ?_
        refine AllReadyH.cons rfl (fun K hK => ?_) AllReadyH.nil
        go_simp
        refine (H1 _).mono ?_
        rintro e u14 ⟨A, n, q, rfl, hr, b14⟩
        have r15_s := le_on r12_s b14
        have r15_m := le_on r12_m b14
        have r15_x := le_on nW11 b14
        have l15 := le_tr l12 b14
        clear r12_s r12_m nW11 l12
        clear b14
        go_wp2_with fail
        have y16 := Lib.hid (show (fun V : World => V.cell? ⟨w.heap.size, 0, none⟩ = some (.int .u8 me) ∧ V.cell? ⟨w.heap.size, 1, none⟩ = some (.int .i64 ep) ∧ V.cell? ⟨w.heap.size, 2, none⟩ = some (.int .i64 st) ∧ V.cell? ⟨w.heap.size, 3, none⟩ = some (.int .u8 to) ∧ V.cell? ⟨w.heap.size, 4, none⟩ = some (.string cg) ∧ V.cell? ⟨w.heap.size, 5, none⟩ = some (.bool kp) ∧ V.cell? ⟨w.heap.size + 1, 0, none⟩ = some (.int .i64 kd) ∧ V.cell? ⟨w.heap.size + 1, 1, none⟩ = some (.int .u8 fr) ∧ V.cell? ⟨w.heap.size + 1, 2, none⟩ = some (.int .u8 t) ∧ V.cell? ⟨w.heap.size + 1, 3, none⟩ = some (.int .i64 e) ∧ V.cell? ⟨w.heap.size + 1, 4, none⟩ = some (.string mg)) u14 from ⟨CB.cell r15_s 0, CB.cell r15_s 1, CB.cell r15_s 2, CB.cell r15_s 3, CB.cell r15_s 4, CB.cell r15_s 5, CB.cell r15_m 0, CB.cell r15_m 1, CB.cell r15_m 2, CB.cell r15_m 3, CB.cell r15_m 4⟩)
        refine hK.out _ _ y16.out (fun hHeld => ?_)
        clear hK K y16
        try simp only [Act.put, List.setIfInBounds_toArray, List.set_cons_zero, List.set_cons_succ]
        refine wpAnyH_takeL (i := 4) (d := some 29) (v := .tuple #[.agg #[.int .u8 zme, .int .i64 zep, .int .i64 zst, .int .u8 zto, .string zcg, .bool zkp], .slice A n q, .int .i64 (ze : Int)]) rfl rfl (by kernel_rfl) (by kernel_rfl) (by kernel_rfl) (fun _ _ _ h => h) (Or.inl ⟨by rfl, ?_⟩) hHeld ?_
        · intro w hSw; (try dsimp only at hSw); go_simp
        try simp only [Act.put, List.setIfInBounds_toArray, List.set_cons_zero, List.set_cons_succ]
        refine wpAnyH_takeL (i := 5) (d := some 34) (v := .agg #[.int .u8 zme, .int .i64 zep, .int .i64 zst, .int .u8 zto, .string zcg, .bool zkp]) rfl rfl (by kernel_rfl) (by kernel_rfl) (by kernel_rfl) (fun _ _ _ h => h) (Or.inl ⟨by rfl, ?_⟩) hHeld ?_
        · intro w hSw; (try dsimp only at hSw); go_simp
        try simp only [Act.put, List.setIfInBounds_toArray, List.set_cons_zero, List.set_cons_succ]
        refine wpAnyH_takeL (i := 6) (d := some 35) (v := .slice A n q) rfl rfl (by kernel_rfl) (by kernel_rfl) (by kernel_rfl) (fun _ _ _ h => h) (Or.inl ⟨by rfl, ?_⟩) hHeld ?_
        · intro w hSw; (try dsimp only at hSw); go_simp
        try simp only [Act.put, List.setIfInBounds_toArray, List.set_cons_zero, List.set_cons_succ]
        refine wpAnyH_takeL (i := 7) (d := some 36) (v := .int .i64 (ze : Int)) rfl rfl (by kernel_rfl) (by kernel_rfl) (by kernel_rfl) (fun _ _ _ h => h) (Or.inl ⟨by rfl, ?_⟩) hHeld ?_
        · intro w hSw; (try dsimp only at hSw); go_simp
        try simp only [Act.put, List.setIfInBounds_toArray, List.set_cons_zero, List.set_cons_succ]
        refine wpAnyH_ready (rs := [9]) (by kernel_rfl) (by simp) ?_
        refine AllReadyH.cons rfl (fun K hK => ?_) AllReadyH.nil
        have f16_x0 : u14.cell? ⟨u8.heap.size, 0, none⟩ = some (.int .u8 0) := CB.cell r15_x 0
        have z16_x0 : u14.frozen? ⟨u8.heap.size, 0, none⟩ = false := CB.frozen r15_x 0
        have f16_x1 : u14.cell? ⟨u8.heap.size, 1, none⟩ = some (.int .i64 0) := CB.cell r15_x 1
        have z16_x1 : u14.frozen? ⟨u8.heap.size, 1, none⟩ = false := CB.frozen r15_x 1
        have f16_x2 : u14.cell? ⟨u8.heap.size, 2, none⟩ = some (.int .i64 0) := CB.cell r15_x 2
        have z16_x2 : u14.frozen? ⟨u8.heap.size, 2, none⟩ = false := CB.frozen r15_x 2
        have f16_x3 : u14.cell? ⟨u8.heap.size, 3, none⟩ = some (.int .u8 0) := CB.cell r15_x 3
        have z16_x3 : u14.frozen? ⟨u8.heap.size, 3, none⟩ = false := CB.frozen r15_x 3
        have f16_x4 : u14.cell? ⟨u8.heap.size, 4, none⟩ = some (.string ⟨#[]⟩) := CB.cell r15_x 4
        have z16_x4 : u14.frozen? ⟨u8.heap.size, 4, none⟩ = false := CB.frozen r15_x 4
        have f16_x5 : u14.cell? ⟨u8.heap.size, 5, none⟩ = some (.bool false) := CB.cell r15_x 5
        have z16_x5 : u14.frozen? ⟨u8.heap.size, 5, none⟩ = false := CB.frozen r15_x 5
        go_simp
        go_wp2_with fail
        have g17_z := (RS.far (RS.far (RS.far (RS.far (RS.far (RS.far hr r15_x (by decide) 0 (.int .u8 zme)) (CB.put r15_x 0 (.int .u8 zme)) (by decide) 1 (.int .i64 zep)) (CB.put (CB.put r15_x 0 (.int .u8 zme)) 1 (.int .i64 zep)) (by decide) 2 (.int .i64 zst)) (CB.put (CB.put (CB.put r15_x 0 (.int .u8 zme)) 1 (.int .i64 zep)) 2 (.int .i64 zst)) (by decide) 3 (.int .u8 zto)) (CB.put (CB.put (CB.put (CB.put r15_x 0 (.int .u8 zme)) 1 (.int .i64 zep)) 2 (.int .i64 zst)) 3 (.int .u8 zto)) (by decide) 4 (.string zcg)) (CB.put (CB.put (CB.put (CB.put (CB.put r15_x 0 (.int .u8 zme)) 1 (.int .i64 zep)) 2 (.int .i64 zst)) 3 (.int .u8 zto)) 4 (.string zcg)) (by decide) 5 (.bool zkp))
        have f16_x0 : u14.cell? ⟨u8.heap.size, 0, none⟩ = some (.int .u8 0) := CB.cell r15_x 0
        have z16_x0 : u14.frozen? ⟨u8.heap.size, 0, none⟩ = false := CB.frozen r15_x 0
        have f16_x1 : u14.cell? ⟨u8.heap.size, 1, none⟩ = some (.int .i64 0) := CB.cell r15_x 1
        have z16_x1 : u14.frozen? ⟨u8.heap.size, 1, none⟩ = false := CB.frozen r15_x 1
        have f16_x2 : u14.cell? ⟨u8.heap.size, 2, none⟩ = some (.int .i64 0) := CB.cell r15_x 2
        have z16_x2 : u14.frozen? ⟨u8.heap.size, 2, none⟩ = false := CB.frozen r15_x 2
        have f16_x3 : u14.cell? ⟨u8.heap.size, 3, none⟩ = some (.int .u8 0) := CB.cell r15_x 3
        have z16_x3 : u14.frozen? ⟨u8.heap.size, 3, none⟩ = false := CB.frozen r15_x 3
        have f16_x4 : u14.cell? ⟨u8.heap.size, 4, none⟩ = some (.string ⟨#[]⟩) := CB.cell r15_x 4
        have z16_x4 : u14.frozen? ⟨u8.heap.size, 4, none⟩ = false := CB.frozen r15_x 4
        have f16_x5 : u14.cell? ⟨u8.heap.size, 5, none⟩ = some (.bool false) := CB.cell r15_x 5
        have z16_x5 : u14.frozen? ⟨u8.heap.size, 5, none⟩ = false := CB.frozen r15_x 5
        obtain ⟨V17, hV17⟩ : ∃ V, (((((u14.setCell ⟨u8.heap.size, 0, none⟩ (.int .u8 zme)).setCell ⟨u8.heap.size, 1, none⟩ (.int .i64 zep)).setCell ⟨u8.heap.size, 2, none⟩ (.int .i64 zst)).setCell ⟨u8.heap.size, 3, none⟩ (.int .u8 zto)).setCell ⟨u8.heap.size, 4, none⟩ (.string zcg)).setCell ⟨u8.heap.size, 5, none⟩ (.bool zkp) = V := ⟨_, rfl⟩
        have nV17 : CB V17 (u8.heap.size) 31 #[.int .u8 zme, .int .i64 zep, .int .i64 zst, .int .u8 zto, .string zcg, .bool zkp] := by rw [← hV17]; exact cb_cast (CB.put (CB.put (CB.put (CB.put (CB.put (CB.put r15_x 0 (.int .u8 zme)) 1 (.int .i64 zep)) 2 (.int .i64 zst)) 3 (.int .u8 zto)) 4 (.string zcg)) 5 (.bool zkp)) (by kernel_rfl)
        have mV17_s : CB V17 (w.heap.size) 25 #[.int .u8 me, .int .i64 ep, .int .i64 st, .int .u8 to, .string cg, .bool kp] := by rw [← hV17]; exact (CB.far (CB.far (CB.far (CB.far (CB.far (CB.far r15_s (p := ⟨u8.heap.size, 0, none⟩) neW11_s (.int .u8 zme)) (p := ⟨u8.heap.size, 1, none⟩) neW11_s (.int .i64 zep)) (p := ⟨u8.heap.size, 2, none⟩) neW11_s (.int .i64 zst)) (p := ⟨u8.heap.size, 3, none⟩) neW11_s (.int .u8 zto)) (p := ⟨u8.heap.size, 4, none⟩) neW11_s (.string zcg)) (p := ⟨u8.heap.size, 5, none⟩) neW11_s (.bool zkp))
        have mV17_m : CB V17 (w.heap.size + 1) 27 #[.int .i64 kd, .int .u8 fr, .int .u8 t, .int .i64 e, .string mg] := by rw [← hV17]; exact (CB.far (CB.far (CB.far (CB.far (CB.far (CB.far r15_m (p := ⟨u8.heap.size, 0, none⟩) neW11_m (.int .u8 zme)) (p := ⟨u8.heap.size, 1, none⟩) neW11_m (.int .i64 zep)) (p := ⟨u8.heap.size, 2, none⟩) neW11_m (.int .i64 zst)) (p := ⟨u8.heap.size, 3, none⟩) neW11_m (.int .u8 zto)) (p := ⟨u8.heap.size, 4, none⟩) neW11_m (.string zcg)) (p := ⟨u8.heap.size, 5, none⟩) neW11_m (.bool zkp))
        have oV17 := (Below.setCell (Below.setCell (Below.setCell (Below.setCell (Below.setCell (Below.setCell l15 (p := ⟨u8.heap.size, 0, none⟩) (by have := av_x; dsimp only; omega) (.int .u8 zme)) (p := ⟨u8.heap.size, 1, none⟩) (by have := av_x; dsimp only; omega) (.int .i64 zep)) (p := ⟨u8.heap.size, 2, none⟩) (by have := av_x; dsimp only; omega) (.int .i64 zst)) (p := ⟨u8.heap.size, 3, none⟩) (by have := av_x; dsimp only; omega) (.int .u8 zto)) (p := ⟨u8.heap.size, 4, none⟩) (by have := av_x; dsimp only; omega) (.string zcg)) (p := ⟨u8.heap.size, 5, none⟩) (by have := av_x; dsimp only; omega) (.bool zkp))
        rw [hV17] at oV17
        have HV17 := Lib.hid hV17
        have V17_eq := hV17
        clear hV17
        clear r15_x r15_s r15_m l15
        have q17_z : RS V17 37 mc 5 A n q zr := by rw [← V17_eq]; exact g17_z
        clear g17_z hr
        clear V17_eq
        rw [HV17.out]
        clear f16_x0 z16_x0 f16_x1 z16_x1 f16_x2 z16_x2 f16_x3 z16_x3 f16_x4 z16_x4 f16_x5 z16_x5
        have y18 := Lib.hid (show (fun V : World => V.cell? ⟨w.heap.size, 0, none⟩ = some (.int .u8 me) ∧ V.cell? ⟨w.heap.size, 1, none⟩ = some (.int .i64 ep) ∧ V.cell? ⟨w.heap.size, 2, none⟩ = some (.int .i64 st) ∧ V.cell? ⟨w.heap.size, 3, none⟩ = some (.int .u8 to) ∧ V.cell? ⟨w.heap.size, 4, none⟩ = some (.string cg) ∧ V.cell? ⟨w.heap.size, 5, none⟩ = some (.bool kp) ∧ V.cell? ⟨w.heap.size + 1, 0, none⟩ = some (.int .i64 kd) ∧ V.cell? ⟨w.heap.size + 1, 1, none⟩ = some (.int .u8 fr) ∧ V.cell? ⟨w.heap.size + 1, 2, none⟩ = some (.int .u8 t) ∧ V.cell? ⟨w.heap.size + 1, 3, none⟩ = some (.int .i64 e) ∧ V.cell? ⟨w.heap.size + 1, 4, none⟩ = some (.string mg)) V17 from ⟨CB.cell mV17_s 0, CB.cell mV17_s 1, CB.cell mV17_s 2, CB.cell mV17_s 3, CB.cell mV17_s 4, CB.cell mV17_s 5, CB.cell mV17_m 0, CB.cell mV17_m 1, CB.cell mV17_m 2, CB.cell mV17_m 3, CB.cell mV17_m 4⟩)
        refine hK.out _ _ y18.out (fun hHeld => ?_)
        clear hK K y18
        try simp only [Act.put, List.setIfInBounds_toArray, List.set_cons_zero, List.set_cons_succ]
        refine wpAnyH_takeL (i := 10) (d := some 6) (v := .slice A n q) rfl rfl (by kernel_rfl) (by kernel_rfl) (by kernel_rfl) (fun _ _ _ h => h) (Or.inl ⟨by rfl, ?_⟩) hHeld ?_
        · intro w hSw; (try dsimp only at hSw); go_simp
        try simp only [Act.put, List.setIfInBounds_toArray, List.set_cons_zero, List.set_cons_succ]
        refine wpAnyH_takeL (i := 11) (d := some 7) (v := .int .i64 (ze : Int)) rfl rfl (by kernel_rfl) (by kernel_rfl) (by kernel_rfl) (fun _ _ _ h => h) (Or.inl ⟨by rfl, ?_⟩) hHeld ?_
        · intro w hSw; (try dsimp only at hSw); go_simp
        try simp only [Act.put, List.setIfInBounds_toArray, List.set_cons_zero, List.set_cons_succ]
        refine wpAnyH_done (by kernel_rfl) ?_ _
        have f18_x0 : V17.cell? ⟨u8.heap.size, 0, none⟩ = some (.int .u8 zme) := CB.cell nV17 0
        have f18_x1 : V17.cell? ⟨u8.heap.size, 1, none⟩ = some (.int .i64 zep) := CB.cell nV17 1
        have f18_x2 : V17.cell? ⟨u8.heap.size, 2, none⟩ = some (.int .i64 zst) := CB.cell nV17 2
        have f18_x3 : V17.cell? ⟨u8.heap.size, 3, none⟩ = some (.int .u8 zto) := CB.cell nV17 3
        have f18_x4 : V17.cell? ⟨u8.heap.size, 4, none⟩ = some (.string zcg) := CB.cell nV17 4
        have f18_x5 : V17.cell? ⟨u8.heap.size, 5, none⟩ = some (.bool zkp) := CB.cell nV17 5
        have f18_m0 : V17.cell? ⟨w.heap.size + 1, 0, none⟩ = some (.int .i64 kd) := CB.cell mV17_m 0
        have f18_m1 : V17.cell? ⟨w.heap.size + 1, 1, none⟩ = some (.int .u8 fr) := CB.cell mV17_m 1
        have f18_m2 : V17.cell? ⟨w.heap.size + 1, 2, none⟩ = some (.int .u8 t) := CB.cell mV17_m 2
        have f18_m3 : V17.cell? ⟨w.heap.size + 1, 3, none⟩ = some (.int .i64 e) := CB.cell mV17_m 3
        have f18_m4 : V17.cell? ⟨w.heap.size + 1, 4, none⟩ = some (.string mg) := CB.cell mV17_m 4
        go_wp2_with fail
        refine (H3 _).mono ?_
        rintro e w19 ⟨B, n', q', rfl, hr', b19⟩
        clear f18_x0 f18_x1 f18_x2 f18_x3 f18_x4 f18_x5 f18_m0 f18_m1 f18_m2 f18_m3 f18_m4
        have q20_z := RS.on q17_z b19
        have r20_s := le_on mV17_s b19
        have r20_m := le_on mV17_m b19
        have r20_x := le_on nV17 b19
        have l20 := le_tr oV17 b19
        clear mV17_s mV17_m nV17 oV17
        clear q17_z
        clear b19
        have av_y : w.heap.size ≤ w19.heap.size := by have := l20.size; omega
        obtain ⟨W21, hW21⟩ : ∃ V, w19.alloc (.cells #[.int .u8 zme, .int .i64 zep, .int .i64 zst, .int .u8 zto, .string zcg, .bool zkp] 31) = V := ⟨_, rfl⟩
        have zW21 : w19.heap.size = w19.heap.size := by rfl
        have nW21 : CB W21 (w19.heap.size) 31 #[.int .u8 zme, .int .i64 zep, .int .i64 zst, .int .u8 zto, .string zcg, .bool zkp] := by rw [← zW21, ← hW21]; exact CB.new _ _ _
        have bW21 : Below w19.heap.size w19 W21 := by rw [← hW21]; exact le_al _ _
        have neW21_s : w.heap.size ≠ w19.heap.size := by have := CB.lt r20_s; omega
        have neW21_m : w.heap.size + 1 ≠ w19.heap.size := by have := CB.lt r20_m; omega
        have neW21_x : u8.heap.size ≠ w19.heap.size := by have := CB.lt r20_x; omega
        have HW21 := Lib.hid hW21
        clear hW21 zW21
        have q22_z := RS.on q20_z bW21
        have q22_y := RS.on hr' bW21
        have r22_s := le_on r20_s bW21
        have r22_m := le_on r20_m bW21
        have r22_x := le_on r20_x bW21
        have l22 := le_tr l20 bW21
        clear r20_s r20_m r20_x l20
        clear q20_z hr'
        clear bW21
        have f22_x0 : (w19.alloc (.cells #[.int .u8 zme, .int .i64 zep, .int .i64 zst, .int .u8 zto, .string zcg, .bool zkp] 31)).cell? ⟨u8.heap.size, 0, none⟩ = some (.int .u8 zme) := by rw [HW21.out]; exact CB.cell r22_x 0
        have f22_x1 : (w19.alloc (.cells #[.int .u8 zme, .int .i64 zep, .int .i64 zst, .int .u8 zto, .string zcg, .bool zkp] 31)).cell? ⟨u8.heap.size, 1, none⟩ = some (.int .i64 zep) := by rw [HW21.out]; exact CB.cell r22_x 1
        have f22_x2 : (w19.alloc (.cells #[.int .u8 zme, .int .i64 zep, .int .i64 zst, .int .u8 zto, .string zcg, .bool zkp] 31)).cell? ⟨u8.heap.size, 2, none⟩ = some (.int .i64 zst) := by rw [HW21.out]; exact CB.cell r22_x 2
        have f22_x3 : (w19.alloc (.cells #[.int .u8 zme, .int .i64 zep, .int .i64 zst, .int .u8 zto, .string zcg, .bool zkp] 31)).cell? ⟨u8.heap.size, 3, none⟩ = some (.int .u8 zto) := by rw [HW21.out]; exact CB.cell r22_x 3
        have f22_x4 : (w19.alloc (.cells #[.int .u8 zme, .int .i64 zep, .int .i64 zst, .int .u8 zto, .string zcg, .bool zkp] 31)).cell? ⟨u8.heap.size, 4, none⟩ = some (.string zcg) := by rw [HW21.out]; exact CB.cell r22_x 4
        have f22_x5 : (w19.alloc (.cells #[.int .u8 zme, .int .i64 zep, .int .i64 zst, .int .u8 zto, .string zcg, .bool zkp] 31)).cell? ⟨u8.heap.size, 5, none⟩ = some (.bool zkp) := by rw [HW21.out]; exact CB.cell r22_x 5
        have f22_y0 : (w19.alloc (.cells #[.int .u8 zme, .int .i64 zep, .int .i64 zst, .int .u8 zto, .string zcg, .bool zkp] 31)).cell? ⟨w19.heap.size, 0, none⟩ = some (.int .u8 zme) := by rw [HW21.out]; exact CB.cell nW21 0
        have f22_y1 : (w19.alloc (.cells #[.int .u8 zme, .int .i64 zep, .int .i64 zst, .int .u8 zto, .string zcg, .bool zkp] 31)).cell? ⟨w19.heap.size, 1, none⟩ = some (.int .i64 zep) := by rw [HW21.out]; exact CB.cell nW21 1
        have f22_y2 : (w19.alloc (.cells #[.int .u8 zme, .int .i64 zep, .int .i64 zst, .int .u8 zto, .string zcg, .bool zkp] 31)).cell? ⟨w19.heap.size, 2, none⟩ = some (.int .i64 zst) := by rw [HW21.out]; exact CB.cell nW21 2
        have f22_y3 : (w19.alloc (.cells #[.int .u8 zme, .int .i64 zep, .int .i64 zst, .int .u8 zto, .string zcg, .bool zkp] 31)).cell? ⟨w19.heap.size, 3, none⟩ = some (.int .u8 zto) := by rw [HW21.out]; exact CB.cell nW21 3
        have f22_y4 : (w19.alloc (.cells #[.int .u8 zme, .int .i64 zep, .int .i64 zst, .int .u8 zto, .string zcg, .bool zkp] 31)).cell? ⟨w19.heap.size, 4, none⟩ = some (.string zcg) := by rw [HW21.out]; exact CB.cell nW21 4
        have f22_y5 : (w19.alloc (.cells #[.int .u8 zme, .int .i64 zep, .int .i64 zst, .int .u8 zto, .string zcg, .bool zkp] 31)).cell? ⟨w19.heap.size, 5, none⟩ = some (.bool zkp) := by rw [HW21.out]; exact CB.cell nW21 5
        by_cases h0 : ze = 0
        · have t0 : ((ze : Int) != 0) = false := by simp [h0]
          have t00 : ((ze : Int) == 0) = true := by simp [h0]
          by_cases h1 : ye = 0
          · have t1 : ((ye : Int) != 0) = false := by simp [h1]
            obtain rfl := Z4.out h0 h1
            clear h0 h1
            obtain rfl : n' = n := by have a := RS.len q22_z; have b := RS.len q22_y; omega
            have q8 : ((n' : Int) == (n' : Int)) = true := beq_self_eq_true _
            have hmx : n' ≤ 9223372036854775807 := by have h1 := (RS.rr q22_z).cap; have h2 := (RS.rr q22_z).max; simp only [maxLen] at h2; omega
            go_wp2_with fail
            rw [HW21.out]
            clear f22_x0 f22_x1 f22_x2 f22_x3 f22_x4 f22_x5 f22_y0 f22_y1 f22_y2 f22_y3 f22_y4 f22_y5
            go_loopw [67] (fun iv wr => ∃ k : Nat, k ≤ n' ∧ iv = .int .i64 k ∧ Below W21.heap.size W21 wr) (fun iv _ => n' - (intOf iv).toNat)
            case atStart => exact ⟨0, by omega, rfl, Below.refl _ _⟩
            case round =>
              obtain ⟨k, hk, rfl, hbw⟩ := hrel
              obtain ⟨wz, hwz⟩ : ∃ z, z = wr := ⟨_, rfl⟩
              subst hwz
              have q73_z := RS.on q22_z hbw
              have q73_y := RS.on q22_y hbw
              have r73_s := le_on r22_s hbw
              have r73_m := le_on r22_m hbw
              have r73_x := le_on r22_x hbw
              have r73_y := le_on nW21 hbw
              have l73 := le_tr l22 hbw
              clear r22_s r22_m r22_x nW21
              clear q22_z q22_y
              by_cases hlt : k < n'
              · skip
                obtain ⟨g, off, kd', fr', t', e', mg', rfl, x1, d0, d1, d2, d3, d4⟩ := msg_at (RS.rr q73_z) hlt
                obtain ⟨g2, off2, kd2, fr2, t2, e2, mg2, rfl, x2, c0, c1, c2, c3, c4⟩ := msg_at (RS.rr q73_y) hlt
                rw [x1] at x2
                cases x2
                clear x1
                have e10 : (kd' != kd') = false := bne_self_eq_false _
                have e20 : (kd' == kd') = true := beq_self_eq_true _
                have e11 : (fr' != fr') = false := bne_self_eq_false _
                have e21 : (fr' == fr') = true := beq_self_eq_true _
                have e12 : (t' != t') = false := bne_self_eq_false _
                have e22 : (t' == t') = true := beq_self_eq_true _
                have e13 : (e' != e') = false := bne_self_eq_false _
                have e23 : (e' == e') = true := beq_self_eq_true _
                have e14 : (mg'.toList != mg'.toList) = false := bne_self_eq_false _
                have e24 : (mg'.toList == mg'.toList) = true := beq_self_eq_true _
                have e30 : decide ((n' : Int) ≤ (k : Int)) = false := by simp; omega
                go_wp2_with fail
                go_quiet (fail)
                have hl2 := Lib.hid (le_dN (k := nq) hbw)
                clear d0 d1 d2 d3 d4 c0 c1 c2 c3 c4
                go_wp2_with fail
                go_roundw
                case rel => exact ⟨k + 1, by omega, by go_num, hl2.out⟩
                case measure => simp [intOf]; omega
              · obtain rfl : k = n' := by omega
                go_wp2_with fail
                go_ret
                exact ⟨rfl, l73⟩
          · obtain rfl := Z3.out h1
            have t1 : ((ye : Int) != 0) = true := by simp; omega
            clear h0 h1
            obtain rfl : n' = 0 := RS.none_ q22_y
            go_wp2_with fail
            try rw [HW21.out]
            go_ret
            exact ⟨rfl, l22⟩
        · obtain ⟨h1, rfl⟩ := Z2.out h0
          have t1 : ((ze : Int) != 0) = true := by simp; omega
          have t2 : ((ze : Int) == 0) = false := by simp; omega
          have t3 : ((ye : Int) == (ze : Int)) = true := by simp [h1]
          clear h0 h1
          obtain rfl : n' = 0 := RS.none_ q22_y
          go_wp2_with fail
          try rw [HW21.out]
          go_ret
          exact ⟨rfl, l22⟩
    · skip
      go_simp
      go_wp2_with fail
      have av_x : w.heap.size ≤ D6.heap.size := by have := l7.size; omega
      obtain ⟨W8, hW8⟩ : ∃ V, D6.alloc (.cells #[.int .u8 0, .int .i64 0, .int .i64 0, .int .u8 0, .string ⟨#[]⟩, .bool false] 31) = V := ⟨_, rfl⟩
      have zW8 : D6.heap.size = D6.heap.size := by rfl
      have nW8 : CB W8 (D6.heap.size) 31 #[.int .u8 0, .int .i64 0, .int .i64 0, .int .u8 0, .string ⟨#[]⟩, .bool false] := by rw [← zW8, ← hW8]; exact CB.new _ _ _
      have bW8 : Below D6.heap.size D6 W8 := by rw [← hW8]; exact le_al _ _
      have neW8_s : w.heap.size ≠ D6.heap.size := by have := CB.lt r7_s; omega
      have neW8_m : w.heap.size + 1 ≠ D6.heap.size := by have := CB.lt r7_m; omega
      have HW8 := Lib.hid hW8
      clear hW8 zW8
      have r9_s := le_on r7_s bW8
      have r9_m := le_on r7_m bW8
      have l9 := le_tr l7 bW8
      clear r7_s r7_m l7
      clear bW8
      rw [HW8.out]
      have y10 := Lib.hid (show (fun V : World => V.cell? ⟨w.heap.size, 0, none⟩ = some (.int .u8 me) ∧ V.cell? ⟨w.heap.size, 1, none⟩ = some (.int .i64 ep) ∧ V.cell? ⟨w.heap.size, 2, none⟩ = some (.int .i64 st) ∧ V.cell? ⟨w.heap.size, 3, none⟩ = some (.int .u8 to) ∧ V.cell? ⟨w.heap.size, 4, none⟩ = some (.string cg) ∧ V.cell? ⟨w.heap.size, 5, none⟩ = some (.bool kp) ∧ V.cell? ⟨w.heap.size + 1, 0, none⟩ = some (.int .i64 kd) ∧ V.cell? ⟨w.heap.size + 1, 1, none⟩ = some (.int .u8 fr) ∧ V.cell? ⟨w.heap.size + 1, 2, none⟩ = some (.int .u8 t) ∧ V.cell? ⟨w.heap.size + 1, 3, none⟩ = some (.int .i64 e) ∧ V.cell? ⟨w.heap.size + 1, 4, none⟩ = some (.string mg)) W8 from ⟨CB.cell r9_s 0, CB.cell r9_s 1, CB.cell r9_s 2, CB.cell r9_s 3, CB.cell r9_s 4, CB.cell r9_s 5, CB.cell r9_m 0, CB.cell r9_m 1, CB.cell r9_m 2, CB.cell r9_m 3, CB.cell r9_m 4⟩)
      refine hK.out _ _ y10.out (fun hHeld => ?_)
      clear hK K y10
      try simp only [Act.put, List.setIfInBounds_toArray, List.set_cons_zero, List.set_cons_succ]
      refine wpAnyH_ready (rs := [1]) (by kernel_rfl) (by simp) ?_
      refine AllReadyH.cons rfl (fun K hK => ?_) AllReadyH.nil
      go_simp
      refine (theirs_c me ep st to cg kp _).mono ?_
      rintro e u11 ⟨rfl, b11⟩
      have r12_s := le_on r9_s b11
      have r12_m := le_on r9_m b11
      have r12_x := le_on nW8 b11
      have l12 := le_tr l9 b11
      clear r9_s r9_m nW8 l9
      clear b11
      go_wp2_with fail
      have y13 := Lib.hid (show (fun V : World => V.cell? ⟨w.heap.size, 0, none⟩ = some (.int .u8 me) ∧ V.cell? ⟨w.heap.size, 1, none⟩ = some (.int .i64 ep) ∧ V.cell? ⟨w.heap.size, 2, none⟩ = some (.int .i64 st) ∧ V.cell? ⟨w.heap.size, 3, none⟩ = some (.int .u8 to) ∧ V.cell? ⟨w.heap.size, 4, none⟩ = some (.string cg) ∧ V.cell? ⟨w.heap.size, 5, none⟩ = some (.bool kp) ∧ V.cell? ⟨w.heap.size + 1, 0, none⟩ = some (.int .i64 kd) ∧ V.cell? ⟨w.heap.size + 1, 1, none⟩ = some (.int .u8 fr) ∧ V.cell? ⟨w.heap.size + 1, 2, none⟩ = some (.int .u8 t) ∧ V.cell? ⟨w.heap.size + 1, 3, none⟩ = some (.int .i64 e) ∧ V.cell? ⟨w.heap.size + 1, 4, none⟩ = some (.string mg)) u11 from ⟨CB.cell r12_s 0, CB.cell r12_s 1, CB.cell r12_s 2, CB.cell r12_s 3, CB.cell r12_s 4, CB.cell r12_s 5, CB.cell r12_m 0, CB.cell r12_m 1, CB.cell r12_m 2, CB.cell r12_m 3, CB.cell r12_m 4⟩)
      refine hK.out _ _ y13.out (fun hHeld => ?_)
      clear hK K y13
      try simp only [Act.put, List.setIfInBounds_toArray, List.set_cons_zero, List.set_cons_succ]
      refine wpAnyH_ready (rs := [3]) (by kernel_rfl) (by simp) ?_
      refine AllReadyH.cons rfl (fun K hK => ?_) AllReadyH.nil
      go_simp
      refine (H1 _).mono ?_
      rintro e u14 ⟨A, n, q, rfl, hr, b14⟩
      have r15_s := le_on r12_s b14
      have r15_m := le_on r12_m b14
      have r15_x := le_on r12_x b14
      have l15 := le_tr l12 b14
      clear r12_s r12_m r12_x l12
      clear b14
      go_wp2_with fail
      have y16 := Lib.hid (show (fun V : World => V.cell? ⟨w.heap.size, 0, none⟩ = some (.int .u8 me) ∧ V.cell? ⟨w.heap.size, 1, none⟩ = some (.int .i64 ep) ∧ V.cell? ⟨w.heap.size, 2, none⟩ = some (.int .i64 st) ∧ V.cell? ⟨w.heap.size, 3, none⟩ = some (.int .u8 to) ∧ V.cell? ⟨w.heap.size, 4, none⟩ = some (.string cg) ∧ V.cell? ⟨w.heap.size, 5, none⟩ = some (.bool kp) ∧ V.cell? ⟨w.heap.size + 1, 0, none⟩ = some (.int .i64 kd) ∧ V.cell? ⟨w.heap.size + 1, 1, none⟩ = some (.int .u8 fr) ∧ V.cell? ⟨w.heap.size + 1, 2, none⟩ = some (.int .u8 t) ∧ V.cell? ⟨w.heap.size + 1, 3, none⟩ = some (.int .i64 e) ∧ V.cell? ⟨w.heap.size + 1, 4, none⟩ = some (.string mg)) u14 from ⟨CB.cell r15_s 0, CB.cell r15_s 1, CB.cell r15_s 2, CB.cell r15_s 3, CB.cell r15_s 4, CB.cell r15_s 5, CB.cell r15_m 0, CB.cell r15_m 1, CB.cell r15_m 2, CB.cell r15_m 3, CB.cell r15_m 4⟩)
      refine hK.out _ _ y16.out (fun hHeld => ?_)
      clear hK K y16
      try simp only [Act.put, List.setIfInBounds_toArray, List.set_cons_zero, List.set_cons_succ]
      refine wpAnyH_takeL (i := 4) (d := some 29) (v := .tuple #[.agg #[.int .u8 zme, .int .i64 zep, .int .i64 zst, .int .u8 zto, .string zcg, .bool zkp], .slice A n q, .int .i64 (ze : Int)]) rfl rfl (by kernel_rfl) (by kernel_rfl) (by kernel_rfl) (fun _ _ _ h => h) (Or.inl ⟨by rfl, ?_⟩) hHeld ?_
      · intro w hSw; (try dsimp only at hSw); go_simp
      try simp only [Act.put, List.setIfInBounds_toArray, List.set_cons_zero, List.set_cons_succ]
      refine wpAnyH_takeL (i := 5) (d := some 34) (v := .agg #[.int .u8 zme, .int .i64 zep, .int .i64 zst, .int .u8 zto, .string zcg, .bool zkp]) rfl rfl (by kernel_rfl) (by kernel_rfl) (by kernel_rfl) (fun _ _ _ h => h) (Or.inl ⟨by rfl, ?_⟩) hHeld ?_
      · intro w hSw; (try dsimp only at hSw); go_simp
      try simp only [Act.put, List.setIfInBounds_toArray, List.set_cons_zero, List.set_cons_succ]
      refine wpAnyH_takeL (i := 6) (d := some 35) (v := .slice A n q) rfl rfl (by kernel_rfl) (by kernel_rfl) (by kernel_rfl) (fun _ _ _ h => h) (Or.inl ⟨by rfl, ?_⟩) hHeld ?_
      · intro w hSw; (try dsimp only at hSw); go_simp
      try simp only [Act.put, List.setIfInBounds_toArray, List.set_cons_zero, List.set_cons_succ]
      refine wpAnyH_takeL (i := 7) (d := some 36) (v := .int .i64 (ze : Int)) rfl rfl (by kernel_rfl) (by kernel_rfl) (by kernel_rfl) (fun _ _ _ h => h) (Or.inl ⟨by rfl, ?_⟩) hHeld ?_
      · intro w hSw; (try dsimp only at hSw); go_simp
      try simp only [Act.put, List.setIfInBounds_toArray, List.set_cons_zero, List.set_cons_succ]
      refine wpAnyH_ready (rs := [9]) (by kernel_rfl) (by simp) ?_
      refine AllReadyH.cons rfl (fun K hK => ?_) AllReadyH.nil
      have f16_x0 : u14.cell? ⟨D6.heap.size, 0, none⟩ = some (.int .u8 0) := CB.cell r15_x 0
      have z16_x0 : u14.frozen? ⟨D6.heap.size, 0, none⟩ = false := CB.frozen r15_x 0
      have f16_x1 : u14.cell? ⟨D6.heap.size, 1, none⟩ = some (.int .i64 0) := CB.cell r15_x 1
      have z16_x1 : u14.frozen? ⟨D6.heap.size, 1, none⟩ = false := CB.frozen r15_x 1
      have f16_x2 : u14.cell? ⟨D6.heap.size, 2, none⟩ = some (.int .i64 0) := CB.cell r15_x 2
      have z16_x2 : u14.frozen? ⟨D6.heap.size, 2, none⟩ = false := CB.frozen r15_x 2
      have f16_x3 : u14.cell? ⟨D6.heap.size, 3, none⟩ = some (.int .u8 0) := CB.cell r15_x 3
      have z16_x3 : u14.frozen? ⟨D6.heap.size, 3, none⟩ = false := CB.frozen r15_x 3
      have f16_x4 : u14.cell? ⟨D6.heap.size, 4, none⟩ = some (.string ⟨#[]⟩) := CB.cell r15_x 4
      have z16_x4 : u14.frozen? ⟨D6.heap.size, 4, none⟩ = false := CB.frozen r15_x 4
      have f16_x5 : u14.cell? ⟨D6.heap.size, 5, none⟩ = some (.bool false) := CB.cell r15_x 5
      have z16_x5 : u14.frozen? ⟨D6.heap.size, 5, none⟩ = false := CB.frozen r15_x 5
      go_simp
      go_wp2_with fail
      have g17_z := (RS.far (RS.far (RS.far (RS.far (RS.far (RS.far hr r15_x (by decide) 0 (.int .u8 zme)) (CB.put r15_x 0 (.int .u8 zme)) (by decide) 1 (.int .i64 zep)) (CB.put (CB.put r15_x 0 (.int .u8 zme)) 1 (.int .i64 zep)) (by decide) 2 (.int .i64 zst)) (CB.put (CB.put (CB.put r15_x 0 (.int .u8 zme)) 1 (.int .i64 zep)) 2 (.int .i64 zst)) (by decide) 3 (.int .u8 zto)) (CB.put (CB.put (CB.put (CB.put r15_x 0 (.int .u8 zme)) 1 (.int .i64 zep)) 2 (.int .i64 zst)) 3 (.int .u8 zto)) (by decide) 4 (.string zcg)) (CB.put (CB.put (CB.put (CB.put (CB.put r15_x 0 (.int .u8 zme)) 1 (.int .i64 zep)) 2 (.int .i64 zst)) 3 (.int .u8 zto)) 4 (.string zcg)) (by decide) 5 (.bool zkp))
      have f16_x0 : u14.cell? ⟨D6.heap.size, 0, none⟩ = some (.int .u8 0) := CB.cell r15_x 0
      have z16_x0 : u14.frozen? ⟨D6.heap.size, 0, none⟩ = false := CB.frozen r15_x 0
      have f16_x1 : u14.cell? ⟨D6.heap.size, 1, none⟩ = some (.int .i64 0) := CB.cell r15_x 1
      have z16_x1 : u14.frozen? ⟨D6.heap.size, 1, none⟩ = false := CB.frozen r15_x 1
      have f16_x2 : u14.cell? ⟨D6.heap.size, 2, none⟩ = some (.int .i64 0) := CB.cell r15_x 2
      have z16_x2 : u14.frozen? ⟨D6.heap.size, 2, none⟩ = false := CB.frozen r15_x 2
      have f16_x3 : u14.cell? ⟨D6.heap.size, 3, none⟩ = some (.int .u8 0) := CB.cell r15_x 3
      have z16_x3 : u14.frozen? ⟨D6.heap.size, 3, none⟩ = false := CB.frozen r15_x 3
      have f16_x4 : u14.cell? ⟨D6.heap.size, 4, none⟩ = some (.string ⟨#[]⟩) := CB.cell r15_x 4
      have z16_x4 : u14.frozen? ⟨D6.heap.size, 4, none⟩ = false := CB.frozen r15_x 4
      have f16_x5 : u14.cell? ⟨D6.heap.size, 5, none⟩ = some (.bool false) := CB.cell r15_x 5
      have z16_x5 : u14.frozen? ⟨D6.heap.size, 5, none⟩ = false := CB.frozen r15_x 5
      obtain ⟨V17, hV17⟩ : ∃ V, (((((u14.setCell ⟨D6.heap.size, 0, none⟩ (.int .u8 zme)).setCell ⟨D6.heap.size, 1, none⟩ (.int .i64 zep)).setCell ⟨D6.heap.size, 2, none⟩ (.int .i64 zst)).setCell ⟨D6.heap.size, 3, none⟩ (.int .u8 zto)).setCell ⟨D6.heap.size, 4, none⟩ (.string zcg)).setCell ⟨D6.heap.size, 5, none⟩ (.bool zkp) = V := ⟨_, rfl⟩
      have nV17 : CB V17 (D6.heap.size) 31 #[.int .u8 zme, .int .i64 zep, .int .i64 zst, .int .u8 zto, .string zcg, .bool zkp] := by rw [← hV17]; exact cb_cast (CB.put (CB.put (CB.put (CB.put (CB.put (CB.put r15_x 0 (.int .u8 zme)) 1 (.int .i64 zep)) 2 (.int .i64 zst)) 3 (.int .u8 zto)) 4 (.string zcg)) 5 (.bool zkp)) (by kernel_rfl)
      have mV17_s : CB V17 (w.heap.size) 25 #[.int .u8 me, .int .i64 ep, .int .i64 st, .int .u8 to, .string cg, .bool kp] := by rw [← hV17]; exact (CB.far (CB.far (CB.far (CB.far (CB.far (CB.far r15_s (p := ⟨D6.heap.size, 0, none⟩) neW8_s (.int .u8 zme)) (p := ⟨D6.heap.size, 1, none⟩) neW8_s (.int .i64 zep)) (p := ⟨D6.heap.size, 2, none⟩) neW8_s (.int .i64 zst)) (p := ⟨D6.heap.size, 3, none⟩) neW8_s (.int .u8 zto)) (p := ⟨D6.heap.size, 4, none⟩) neW8_s (.string zcg)) (p := ⟨D6.heap.size, 5, none⟩) neW8_s (.bool zkp))
      have mV17_m : CB V17 (w.heap.size + 1) 27 #[.int .i64 kd, .int .u8 fr, .int .u8 t, .int .i64 e, .string mg] := by rw [← hV17]; exact (CB.far (CB.far (CB.far (CB.far (CB.far (CB.far r15_m (p := ⟨D6.heap.size, 0, none⟩) neW8_m (.int .u8 zme)) (p := ⟨D6.heap.size, 1, none⟩) neW8_m (.int .i64 zep)) (p := ⟨D6.heap.size, 2, none⟩) neW8_m (.int .i64 zst)) (p := ⟨D6.heap.size, 3, none⟩) neW8_m (.int .u8 zto)) (p := ⟨D6.heap.size, 4, none⟩) neW8_m (.string zcg)) (p := ⟨D6.heap.size, 5, none⟩) neW8_m (.bool zkp))
      have oV17 := (Below.setCell (Below.setCell (Below.setCell (Below.setCell (Below.setCell (Below.setCell l15 (p := ⟨D6.heap.size, 0, none⟩) (by have := av_x; dsimp only; omega) (.int .u8 zme)) (p := ⟨D6.heap.size, 1, none⟩) (by have := av_x; dsimp only; omega) (.int .i64 zep)) (p := ⟨D6.heap.size, 2, none⟩) (by have := av_x; dsimp only; omega) (.int .i64 zst)) (p := ⟨D6.heap.size, 3, none⟩) (by have := av_x; dsimp only; omega) (.int .u8 zto)) (p := ⟨D6.heap.size, 4, none⟩) (by have := av_x; dsimp only; omega) (.string zcg)) (p := ⟨D6.heap.size, 5, none⟩) (by have := av_x; dsimp only; omega) (.bool zkp))
      rw [hV17] at oV17
      have HV17 := Lib.hid hV17
      have V17_eq := hV17
      clear hV17
      clear r15_x r15_s r15_m l15
      have q17_z : RS V17 37 mc 5 A n q zr := by rw [← V17_eq]; exact g17_z
      clear g17_z hr
      clear V17_eq
      rw [HV17.out]
      clear f16_x0 z16_x0 f16_x1 z16_x1 f16_x2 z16_x2 f16_x3 z16_x3 f16_x4 z16_x4 f16_x5 z16_x5
      have y18 := Lib.hid (show (fun V : World => V.cell? ⟨w.heap.size, 0, none⟩ = some (.int .u8 me) ∧ V.cell? ⟨w.heap.size, 1, none⟩ = some (.int .i64 ep) ∧ V.cell? ⟨w.heap.size, 2, none⟩ = some (.int .i64 st) ∧ V.cell? ⟨w.heap.size, 3, none⟩ = some (.int .u8 to) ∧ V.cell? ⟨w.heap.size, 4, none⟩ = some (.string cg) ∧ V.cell? ⟨w.heap.size, 5, none⟩ = some (.bool kp) ∧ V.cell? ⟨w.heap.size + 1, 0, none⟩ = some (.int .i64 kd) ∧ V.cell? ⟨w.heap.size + 1, 1, none⟩ = some (.int .u8 fr) ∧ V.cell? ⟨w.heap.size + 1, 2, none⟩ = some (.int .u8 t) ∧ V.cell? ⟨w.heap.size + 1, 3, none⟩ = some (.int .i64 e) ∧ V.cell? ⟨w.heap.size + 1, 4, none⟩ = some (.string mg)) V17 from ⟨CB.cell mV17_s 0, CB.cell mV17_s 1, CB.cell mV17_s 2, CB.cell mV17_s 3, CB.cell mV17_s 4, CB.cell mV17_s 5, CB.cell mV17_m 0, CB.cell mV17_m 1, CB.cell mV17_m 2, CB.cell mV17_m 3, CB.cell mV17_m 4⟩)
      refine hK.out _ _ y18.out (fun hHeld => ?_)
      clear hK K y18
      try simp only [Act.put, List.setIfInBounds_toArray, List.set_cons_zero, List.set_cons_succ]
      refine wpAnyH_takeL (i := 10) (d := some 6) (v := .slice A n q) rfl rfl (by kernel_rfl) (by kernel_rfl) (by kernel_rfl) (fun _ _ _ h => h) (Or.inl ⟨by rfl, ?_⟩) hHeld ?_
      · intro w hSw; (try dsimp only at hSw); go_simp
      try simp only [Act.put, List.setIfInBounds_toArray, List.set_cons_zero, List.set_cons_succ]
      refine wpAnyH_takeL (i := 11) (d := some 7) (v := .int .i64 (ze : Int)) rfl rfl (by kernel_rfl) (by kernel_rfl) (by kernel_rfl) (fun _ _ _ h => h) (Or.inl ⟨by rfl, ?_⟩) hHeld ?_
      · intro w hSw; (try dsimp only at hSw); go_simp
      try simp only [Act.put, List.setIfInBounds_toArray, List.set_cons_zero, List.set_cons_succ]
      refine wpAnyH_done (by kernel_rfl) ?_ _
      have f18_x0 : V17.cell? ⟨D6.heap.size, 0, none⟩ = some (.int .u8 zme) := CB.cell nV17 0
      have f18_x1 : V17.cell? ⟨D6.heap.size, 1, none⟩ = some (.int .i64 zep) := CB.cell nV17 1
      have f18_x2 : V17.cell? ⟨D6.heap.size, 2, none⟩ = some (.int .i64 zst) := CB.cell nV17 2
      have f18_x3 : V17.cell? ⟨D6.heap.size, 3, none⟩ = some (.int .u8 zto) := CB.cell nV17 3
      have f18_x4 : V17.cell? ⟨D6.heap.size, 4, none⟩ = some (.string zcg) := CB.cell nV17 4
      have f18_x5 : V17.cell? ⟨D6.heap.size, 5, none⟩ = some (.bool zkp) := CB.cell nV17 5
      have f18_m0 : V17.cell? ⟨w.heap.size + 1, 0, none⟩ = some (.int .i64 kd) := CB.cell mV17_m 0
      have f18_m1 : V17.cell? ⟨w.heap.size + 1, 1, none⟩ = some (.int .u8 fr) := CB.cell mV17_m 1
      have f18_m2 : V17.cell? ⟨w.heap.size + 1, 2, none⟩ = some (.int .u8 t) := CB.cell mV17_m 2
      have f18_m3 : V17.cell? ⟨w.heap.size + 1, 3, none⟩ = some (.int .i64 e) := CB.cell mV17_m 3
      have f18_m4 : V17.cell? ⟨w.heap.size + 1, 4, none⟩ = some (.string mg) := CB.cell mV17_m 4
      go_wp2_with fail
      refine (H3 _).mono ?_
      rintro e w19 ⟨B, n', q', rfl, hr', b19⟩
      clear f18_x0 f18_x1 f18_x2 f18_x3 f18_x4 f18_x5 f18_m0 f18_m1 f18_m2 f18_m3 f18_m4
      have q20_z := RS.on q17_z b19
      have r20_s := le_on mV17_s b19
      have r20_m := le_on mV17_m b19
      have r20_x := le_on nV17 b19
      have l20 := le_tr oV17 b19
      clear mV17_s mV17_m nV17 oV17
      clear q17_z
      clear b19
      have av_y : w.heap.size ≤ w19.heap.size := by have := l20.size; omega
      obtain ⟨W21, hW21⟩ : ∃ V, w19.alloc (.cells #[.int .u8 zme, .int .i64 zep, .int .i64 zst, .int .u8 zto, .string zcg, .bool zkp] 31) = V := ⟨_, rfl⟩
      have zW21 : w19.heap.size = w19.heap.size := by rfl
      have nW21 : CB W21 (w19.heap.size) 31 #[.int .u8 zme, .int .i64 zep, .int .i64 zst, .int .u8 zto, .string zcg, .bool zkp] := by rw [← zW21, ← hW21]; exact CB.new _ _ _
      have bW21 : Below w19.heap.size w19 W21 := by rw [← hW21]; exact le_al _ _
      have neW21_s : w.heap.size ≠ w19.heap.size := by have := CB.lt r20_s; omega
      have neW21_m : w.heap.size + 1 ≠ w19.heap.size := by have := CB.lt r20_m; omega
      have neW21_x : D6.heap.size ≠ w19.heap.size := by have := CB.lt r20_x; omega
      have HW21 := Lib.hid hW21
      clear hW21 zW21
      have q22_z := RS.on q20_z bW21
      have q22_y := RS.on hr' bW21
      have r22_s := le_on r20_s bW21
      have r22_m := le_on r20_m bW21
      have r22_x := le_on r20_x bW21
      have l22 := le_tr l20 bW21
      clear r20_s r20_m r20_x l20
      clear q20_z hr'
      clear bW21
      have f22_x0 : (w19.alloc (.cells #[.int .u8 zme, .int .i64 zep, .int .i64 zst, .int .u8 zto, .string zcg, .bool zkp] 31)).cell? ⟨D6.heap.size, 0, none⟩ = some (.int .u8 zme) := by rw [HW21.out]; exact CB.cell r22_x 0
      have f22_x1 : (w19.alloc (.cells #[.int .u8 zme, .int .i64 zep, .int .i64 zst, .int .u8 zto, .string zcg, .bool zkp] 31)).cell? ⟨D6.heap.size, 1, none⟩ = some (.int .i64 zep) := by rw [HW21.out]; exact CB.cell r22_x 1
      have f22_x2 : (w19.alloc (.cells #[.int .u8 zme, .int .i64 zep, .int .i64 zst, .int .u8 zto, .string zcg, .bool zkp] 31)).cell? ⟨D6.heap.size, 2, none⟩ = some (.int .i64 zst) := by rw [HW21.out]; exact CB.cell r22_x 2
      have f22_x3 : (w19.alloc (.cells #[.int .u8 zme, .int .i64 zep, .int .i64 zst, .int .u8 zto, .string zcg, .bool zkp] 31)).cell? ⟨D6.heap.size, 3, none⟩ = some (.int .u8 zto) := by rw [HW21.out]; exact CB.cell r22_x 3
      have f22_x4 : (w19.alloc (.cells #[.int .u8 zme, .int .i64 zep, .int .i64 zst, .int .u8 zto, .string zcg, .bool zkp] 31)).cell? ⟨D6.heap.size, 4, none⟩ = some (.string zcg) := by rw [HW21.out]; exact CB.cell r22_x 4
      have f22_x5 : (w19.alloc (.cells #[.int .u8 zme, .int .i64 zep, .int .i64 zst, .int .u8 zto, .string zcg, .bool zkp] 31)).cell? ⟨D6.heap.size, 5, none⟩ = some (.bool zkp) := by rw [HW21.out]; exact CB.cell r22_x 5
      have f22_y0 : (w19.alloc (.cells #[.int .u8 zme, .int .i64 zep, .int .i64 zst, .int .u8 zto, .string zcg, .bool zkp] 31)).cell? ⟨w19.heap.size, 0, none⟩ = some (.int .u8 zme) := by rw [HW21.out]; exact CB.cell nW21 0
      have f22_y1 : (w19.alloc (.cells #[.int .u8 zme, .int .i64 zep, .int .i64 zst, .int .u8 zto, .string zcg, .bool zkp] 31)).cell? ⟨w19.heap.size, 1, none⟩ = some (.int .i64 zep) := by rw [HW21.out]; exact CB.cell nW21 1
      have f22_y2 : (w19.alloc (.cells #[.int .u8 zme, .int .i64 zep, .int .i64 zst, .int .u8 zto, .string zcg, .bool zkp] 31)).cell? ⟨w19.heap.size, 2, none⟩ = some (.int .i64 zst) := by rw [HW21.out]; exact CB.cell nW21 2
      have f22_y3 : (w19.alloc (.cells #[.int .u8 zme, .int .i64 zep, .int .i64 zst, .int .u8 zto, .string zcg, .bool zkp] 31)).cell? ⟨w19.heap.size, 3, none⟩ = some (.int .u8 zto) := by rw [HW21.out]; exact CB.cell nW21 3
      have f22_y4 : (w19.alloc (.cells #[.int .u8 zme, .int .i64 zep, .int .i64 zst, .int .u8 zto, .string zcg, .bool zkp] 31)).cell? ⟨w19.heap.size, 4, none⟩ = some (.string zcg) := by rw [HW21.out]; exact CB.cell nW21 4
      have f22_y5 : (w19.alloc (.cells #[.int .u8 zme, .int .i64 zep, .int .i64 zst, .int .u8 zto, .string zcg, .bool zkp] 31)).cell? ⟨w19.heap.size, 5, none⟩ = some (.bool zkp) := by rw [HW21.out]; exact CB.cell nW21 5
      by_cases h0 : ze = 0
      · have t0 : ((ze : Int) != 0) = false := by simp [h0]
        have t00 : ((ze : Int) == 0) = true := by simp [h0]
        by_cases h1 : ye = 0
        · have t1 : ((ye : Int) != 0) = false := by simp [h1]
          obtain rfl := Z4.out h0 h1
          clear h0 h1
          obtain rfl : n' = n := by have a := RS.len q22_z; have b := RS.len q22_y; omega
          have q8 : ((n' : Int) == (n' : Int)) = true := beq_self_eq_true _
          have hmx : n' ≤ 9223372036854775807 := by have h1 := (RS.rr q22_z).cap; have h2 := (RS.rr q22_z).max; simp only [maxLen] at h2; omega
          go_wp2_with fail
          rw [HW21.out]
          clear f22_x0 f22_x1 f22_x2 f22_x3 f22_x4 f22_x5 f22_y0 f22_y1 f22_y2 f22_y3 f22_y4 f22_y5
          go_loopw [67] (fun iv wr => ∃ k : Nat, k ≤ n' ∧ iv = .int .i64 k ∧ Below W21.heap.size W21 wr) (fun iv _ => n' - (intOf iv).toNat)
          case atStart => exact ⟨0, by omega, rfl, Below.refl _ _⟩
          case round =>
            obtain ⟨k, hk, rfl, hbw⟩ := hrel
            obtain ⟨wz, hwz⟩ : ∃ z, z = wr := ⟨_, rfl⟩
            subst hwz
            have q73_z := RS.on q22_z hbw
            have q73_y := RS.on q22_y hbw
            have r73_s := le_on r22_s hbw
            have r73_m := le_on r22_m hbw
            have r73_x := le_on r22_x hbw
            have r73_y := le_on nW21 hbw
            have l73 := le_tr l22 hbw
            clear r22_s r22_m r22_x nW21
            clear q22_z q22_y
            by_cases hlt : k < n'
            · skip
              obtain ⟨g, off, kd', fr', t', e', mg', rfl, x1, d0, d1, d2, d3, d4⟩ := msg_at (RS.rr q73_z) hlt
              obtain ⟨g2, off2, kd2, fr2, t2, e2, mg2, rfl, x2, c0, c1, c2, c3, c4⟩ := msg_at (RS.rr q73_y) hlt
              rw [x1] at x2
              cases x2
              clear x1
              have e10 : (kd' != kd') = false := bne_self_eq_false _
              have e20 : (kd' == kd') = true := beq_self_eq_true _
              have e11 : (fr' != fr') = false := bne_self_eq_false _
              have e21 : (fr' == fr') = true := beq_self_eq_true _
              have e12 : (t' != t') = false := bne_self_eq_false _
              have e22 : (t' == t') = true := beq_self_eq_true _
              have e13 : (e' != e') = false := bne_self_eq_false _
              have e23 : (e' == e') = true := beq_self_eq_true _
              have e14 : (mg'.toList != mg'.toList) = false := bne_self_eq_false _
              have e24 : (mg'.toList == mg'.toList) = true := beq_self_eq_true _
              have e30 : decide ((n' : Int) ≤ (k : Int)) = false := by simp; omega
              go_wp2_with fail
              go_quiet (fail)
              have hl2 := Lib.hid (le_dN (k := nq) hbw)
              clear d0 d1 d2 d3 d4 c0 c1 c2 c3 c4
              go_wp2_with fail
              go_roundw
              case rel => exact ⟨k + 1, by omega, by go_num, hl2.out⟩
              case measure => simp [intOf]; omega
            · obtain rfl : k = n' := by omega
              go_wp2_with fail
              go_ret
              exact ⟨rfl, l73⟩
        · obtain rfl := Z3.out h1
          have t1 : ((ye : Int) != 0) = true := by simp; omega
          clear h0 h1
          obtain rfl : n' = 0 := RS.none_ q22_y
          go_wp2_with fail
          try rw [HW21.out]
          go_ret
          exact ⟨rfl, l22⟩
      · obtain ⟨h1, rfl⟩ := Z2.out h0
        have t1 : ((ze : Int) != 0) = true := by simp; omega
        have t2 : ((ze : Int) == 0) = false := by simp; omega
        have t3 : ((ye : Int) == (ze : Int)) = true := by simp [h1]
        clear h0 h1
        obtain rfl : n' = 0 := RS.none_ q22_y
        go_wp2_with fail
        try rw [HW21.out]
        go_ret
        exact ⟨rfl, l22⟩
end Go.Proofs.Ytmghckddofefkaa
