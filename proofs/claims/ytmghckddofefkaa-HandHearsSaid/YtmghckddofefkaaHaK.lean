/-
  The walk of the law HandHears: it returns true and leaves all memory that was there. No condition.
-/
import Derived.Test.YtmghckddofefkaaHaH
import Derived.Test.YtmghckddofefkaaHaJ
set_option linter.unusedVariables false
set_option linter.unusedSimpArgs false
namespace Go.Proofs.Ytmghckddofefkaa
open Go.RowKit

set_option maxRecDepth 100000 in
set_option maxHeartbeats 8000000 in
theorem hears_walk (me ep st to : Int) (cg : ByteArray) (kp : Bool) (kd fr t e : Int) (mg : ByteArray) (w : World) : Calls Try.prog 3 #[.agg #[.int .u8 me, .int .i64 ep, .int .i64 st, .int .u8 to, .string cg, .bool kp], .agg #[.int .i64 kd, .int .u8 fr, .int .u8 t, .int .i64 e, .string mg]] w fun r w' => r = .returned (.bool true) ∧ Below w.heap.size w w' := by
  obtain ⟨⟨⟨zme, ⟨zep, zst, zto⟩, zcg, zkp⟩, zr, ze⟩, hd⟩ : ∃ d, hearM ⟨me, ⟨ep, st, to⟩, cg, kp⟩ ⟨kd, fr, t, e, mg⟩ = d := ⟨_, rfl⟩
  have H1 : ∀ W, Calls Try.prog 11 #[.agg #[.int .u8 me, .int .i64 ep, .int .i64 st, .int .u8 to, .string cg, .bool kp], .agg #[.int .i64 kd, .int .u8 fr, .int .u8 t, .int .i64 e, .string mg]] W (fun r w' => ∃ A n q, r = .returned (.tuple #[.agg #[.int .u8 zme, .int .i64 zep, .int .i64 zst, .int .u8 zto, .string zcg, .bool zkp], .slice A n q, .int .i64 (ze : Int)]) ∧ RS w' 37 mc 5 A n q zr ∧ Below W.heap.size W w') := fun W => (by
    have := hear_c me ep st to cg kp kd fr t e mg W
    rw [hd] at this
    exact this)
  have H2 : ∀ W, Calls Try.prog 13 #[.agg #[.int .u8 me, .int .i64 ep, .int .i64 st, .int .u8 to, .string cg, .bool kp], .agg #[.int .i64 kd, .int .u8 fr, .int .u8 t, .int .i64 e, .string mg]] W (fun r w' => ∃ A n q, r = .returned (.agg #[.int .u8 zme, .int .i64 zep, .int .i64 zst, .int .u8 zto, .string zcg, .bool zkp, .slice A n q, .int .i64 (ze : Int)]) ∧ RS w' 27 mc 5 A n q zr ∧ Below W.heap.size W w') := fun W => (by
    have := hear_r me ep st to cg kp kd fr t e mg W
    rw [hd] at this
    exact this)
  have q1 : (zme == zme) = true := beq_self_eq_true _
  have q2 : (zep == zep) = true := beq_self_eq_true _
  have q3 : (zst == zst) = true := beq_self_eq_true _
  have q4 : (zto == zto) = true := beq_self_eq_true _
  have q5 : (zcg.toList == zcg.toList) = true := beq_self_eq_true _
  have q6 : (zkp == zkp) = true := beq_self_eq_true _
  have q7 : ((ze : Int) == (ze : Int)) = true := beq_self_eq_true _
  clear hd
  have O1 := fun W => ours_c zme zep zst zto zcg zkp W
  obtain ⟨W1, hW1⟩ : ∃ V, (w.alloc (.cells #[.int .u8 me, .int .i64 ep, .int .i64 st, .int .u8 to, .string cg, .bool kp] 25)).alloc (.cells #[.int .i64 kd, .int .u8 fr, .int .u8 t, .int .i64 e, .string mg] 27) = V := ⟨_, rfl⟩
  have nW1_s : CB W1 (w.heap.size) 25 #[.int .u8 me, .int .i64 ep, .int .i64 st, .int .u8 to, .string cg, .bool kp] := by
    rw [← hW1]
    have := ((CB.new w 25 #[.int .u8 me, .int .i64 ep, .int .i64 st, .int .u8 to, .string cg, .bool kp]).alloc (.cells #[.int .i64 kd, .int .u8 fr, .int .u8 t, .int .i64 e, .string mg] 27))
    simpa using this
  have nW1_m : CB W1 (w.heap.size + 1) 27 #[.int .i64 kd, .int .u8 fr, .int .u8 t, .int .i64 e, .string mg] := by
    rw [← hW1]
    have := (CB.new (w.alloc (.cells #[.int .u8 me, .int .i64 ep, .int .i64 st, .int .u8 to, .string cg, .bool kp] 25)) 27 #[.int .i64 kd, .int .u8 fr, .int .u8 t, .int .i64 e, .string mg])
    simpa using this
  have neW1_01 : w.heap.size ≠ w.heap.size + 1 := by omega
  have lW1 : Below w.heap.size w W1 := by rw [← hW1]; exact le_tr (le_al _ _) (le_al _ _)
  have HW1 := Lib.hid hW1
  clear hW1
  go_enter Try.func3, Try.ntmps3
  go_wp2_with fail
  rw [HW1.out]
  refine (alive_c _).mono ?_
  rintro e w2 ⟨rfl, b2⟩
  have r3_s := le_on nW1_s b2
  have r3_m := le_on nW1_m b2
  have l3 := le_tr lW1 b2
  clear nW1_s nW1_m lW1
  clear b2
  have f3_s0 : w2.cell? ⟨w.heap.size, 0, none⟩ = some (.int .u8 me) := CB.cell r3_s 0
  have f3_s1 : w2.cell? ⟨w.heap.size, 1, none⟩ = some (.int .i64 ep) := CB.cell r3_s 1
  have f3_s2 : w2.cell? ⟨w.heap.size, 2, none⟩ = some (.int .i64 st) := CB.cell r3_s 2
  have f3_s3 : w2.cell? ⟨w.heap.size, 3, none⟩ = some (.int .u8 to) := CB.cell r3_s 3
  have f3_s4 : w2.cell? ⟨w.heap.size, 4, none⟩ = some (.string cg) := CB.cell r3_s 4
  have f3_s5 : w2.cell? ⟨w.heap.size, 5, none⟩ = some (.bool kp) := CB.cell r3_s 5
  have f3_m0 : w2.cell? ⟨w.heap.size + 1, 0, none⟩ = some (.int .i64 kd) := CB.cell r3_m 0
  have f3_m1 : w2.cell? ⟨w.heap.size + 1, 1, none⟩ = some (.int .u8 fr) := CB.cell r3_m 1
  have f3_m2 : w2.cell? ⟨w.heap.size + 1, 2, none⟩ = some (.int .u8 t) := CB.cell r3_m 2
  have f3_m3 : w2.cell? ⟨w.heap.size + 1, 3, none⟩ = some (.int .i64 e) := CB.cell r3_m 3
  have f3_m4 : w2.cell? ⟨w.heap.size + 1, 4, none⟩ = some (.string mg) := CB.cell r3_m 4
  by_cases hcg : (600 : Int) < (cg.size : Int)
  · have hcg' : decide ((600 : Int) < (cg.size : Int)) = true := by simp [hcg]
    go_wp2_with fail
    go_ret
    exact ⟨rfl, l3⟩
  have hcg' : decide ((600 : Int) < (cg.size : Int)) = false := by simp [hcg]
  clear hcg
  by_cases hmg : (600 : Int) < (mg.size : Int)
  · have hmg' : decide ((600 : Int) < (mg.size : Int)) = true := by simp [hmg]
    go_wp2_with fail
    go_ret
    exact ⟨rfl, l3⟩
  have hmg' : decide ((600 : Int) < (mg.size : Int)) = false := by simp [hmg]
  clear hmg
  go_wp2_with fail
  clear f3_s0 f3_s1 f3_s2 f3_s3 f3_s4 f3_s5 f3_m0 f3_m1 f3_m2 f3_m3 f3_m4
  have y4 := Lib.hid (show (fun V : World => V.cell? ⟨w.heap.size, 0, none⟩ = some (.int .u8 me) ∧ V.cell? ⟨w.heap.size, 1, none⟩ = some (.int .i64 ep) ∧ V.cell? ⟨w.heap.size, 2, none⟩ = some (.int .i64 st) ∧ V.cell? ⟨w.heap.size, 3, none⟩ = some (.int .u8 to) ∧ V.cell? ⟨w.heap.size, 4, none⟩ = some (.string cg) ∧ V.cell? ⟨w.heap.size, 5, none⟩ = some (.bool kp) ∧ V.cell? ⟨w.heap.size + 1, 0, none⟩ = some (.int .i64 kd) ∧ V.cell? ⟨w.heap.size + 1, 1, none⟩ = some (.int .u8 fr) ∧ V.cell? ⟨w.heap.size + 1, 2, none⟩ = some (.int .u8 t) ∧ V.cell? ⟨w.heap.size + 1, 3, none⟩ = some (.int .i64 e) ∧ V.cell? ⟨w.heap.size + 1, 4, none⟩ = some (.string mg)) w2 from ⟨CB.cell r3_s 0, CB.cell r3_s 1, CB.cell r3_s 2, CB.cell r3_s 3, CB.cell r3_s 4, CB.cell r3_s 5, CB.cell r3_m 0, CB.cell r3_m 1, CB.cell r3_m 2, CB.cell r3_m 3, CB.cell r3_m 4⟩)
  refine wp_region_held_drew (S := (fun V : World => V.cell? ⟨w.heap.size, 0, none⟩ = some (.int .u8 me) ∧ V.cell? ⟨w.heap.size, 1, none⟩ = some (.int .i64 ep) ∧ V.cell? ⟨w.heap.size, 2, none⟩ = some (.int .i64 st) ∧ V.cell? ⟨w.heap.size, 3, none⟩ = some (.int .u8 to) ∧ V.cell? ⟨w.heap.size, 4, none⟩ = some (.string cg) ∧ V.cell? ⟨w.heap.size, 5, none⟩ = some (.bool kp) ∧ V.cell? ⟨w.heap.size + 1, 0, none⟩ = some (.int .i64 kd) ∧ V.cell? ⟨w.heap.size + 1, 1, none⟩ = some (.int .u8 fr) ∧ V.cell? ⟨w.heap.size + 1, 2, none⟩ = some (.int .u8 t) ∧ V.cell? ⟨w.heap.size + 1, 3, none⟩ = some (.int .i64 e) ∧ V.cell? ⟨w.heap.size + 1, 4, none⟩ = some (.string mg))) (by kernel_rfl) y4.out (fun hHeld => ?_)
  obtain ⟨D4, hD4⟩ : ∃ V, w2.drew = V := ⟨_, rfl⟩
  have b4 : Below w2.heap.size w2 D4 := by rw [← hD4]; exact le_dr (Below.refl _ _)
  rw [hD4] at hHeld ⊢
  clear hD4
  have r5_s := le_on r3_s b4
  have r5_m := le_on r3_m b4
  have l5 := le_tr l3 b4
  clear r3_s r3_m l3
  clear b4
  refine wpAnyH_takeL (i := 0) (d := some 22) (v := .agg #[.int .u8 me, .int .i64 ep, .int .i64 st, .int .u8 to, .string cg, .bool kp]) rfl rfl (by kernel_rfl) (by kernel_rfl) (by kernel_rfl) (fun _ _ _ h => h) (Or.inl ⟨by rfl, ?_⟩) hHeld ?_
  · intro w hSw; (try dsimp only at hSw); go_simp
  try simp only [Act.put, List.setIfInBounds_toArray, List.set_cons_zero, List.set_cons_succ]
  refine wpAnyH_takeL (i := 2) (d := some 24) (v := .agg #[.int .i64 kd, .int .u8 fr, .int .u8 t, .int .i64 e, .string mg]) rfl rfl (by kernel_rfl) (by kernel_rfl) (by kernel_rfl) (fun _ _ _ h => h) (Or.inl ⟨by rfl, ?_⟩) hHeld ?_
  · intro w hSw; (try dsimp only at hSw); go_simp
  try simp only [Act.put, List.setIfInBounds_toArray, List.set_cons_zero, List.set_cons_succ]
  refine wpAnyH_ready (rs := [1, 8]) (by kernel_rfl) (by simp) ?_
  refine AllReadyH.cons rfl (fun K hK => ?_) (AllReadyH.cons rfl (fun K hK => ?_) AllReadyH.nil)
  · skip
    go_simp
    refine (theirs_c me ep st to cg kp _).mono ?_
    rintro e u6 ⟨rfl, b6⟩
    have r7_s := le_on r5_s b6
    have r7_m := le_on r5_m b6
    have l7 := le_tr l5 b6
    clear r5_s r5_m l5
    clear b6
    go_wp2_with fail
    have y8 := Lib.hid (show (fun V : World => V.cell? ⟨w.heap.size, 0, none⟩ = some (.int .u8 me) ∧ V.cell? ⟨w.heap.size, 1, none⟩ = some (.int .i64 ep) ∧ V.cell? ⟨w.heap.size, 2, none⟩ = some (.int .i64 st) ∧ V.cell? ⟨w.heap.size, 3, none⟩ = some (.int .u8 to) ∧ V.cell? ⟨w.heap.size, 4, none⟩ = some (.string cg) ∧ V.cell? ⟨w.heap.size, 5, none⟩ = some (.bool kp) ∧ V.cell? ⟨w.heap.size + 1, 0, none⟩ = some (.int .i64 kd) ∧ V.cell? ⟨w.heap.size + 1, 1, none⟩ = some (.int .u8 fr) ∧ V.cell? ⟨w.heap.size + 1, 2, none⟩ = some (.int .u8 t) ∧ V.cell? ⟨w.heap.size + 1, 3, none⟩ = some (.int .i64 e) ∧ V.cell? ⟨w.heap.size + 1, 4, none⟩ = some (.string mg)) u6 from ⟨CB.cell r7_s 0, CB.cell r7_s 1, CB.cell r7_s 2, CB.cell r7_s 3, CB.cell r7_s 4, CB.cell r7_s 5, CB.cell r7_m 0, CB.cell r7_m 1, CB.cell r7_m 2, CB.cell r7_m 3, CB.cell r7_m 4⟩)
    refine hK.out _ _ y8.out (fun hHeld => ?_)
    clear hK K y8
    try simp only [Act.put, List.setIfInBounds_toArray, List.set_cons_zero, List.set_cons_succ]
    refine wpAnyH_ready (rs := [3, 8]) (by kernel_rfl) (by simp) ?_
    refine AllReadyH.cons rfl (fun K hK => ?_) (AllReadyH.cons rfl (fun K hK => ?_) AllReadyH.nil)
    · skip
      go_simp
      refine (H1 _).mono ?_
      rintro e u9 ⟨A, n, q, rfl, hr, b9⟩
      have r10_s := le_on r7_s b9
      have r10_m := le_on r7_m b9
      have l10 := le_tr l7 b9
      clear r7_s r7_m l7
      clear b9
      go_wp2_with fail
      have y11 := Lib.hid (show (fun V : World => V.cell? ⟨w.heap.size, 0, none⟩ = some (.int .u8 me) ∧ V.cell? ⟨w.heap.size, 1, none⟩ = some (.int .i64 ep) ∧ V.cell? ⟨w.heap.size, 2, none⟩ = some (.int .i64 st) ∧ V.cell? ⟨w.heap.size, 3, none⟩ = some (.int .u8 to) ∧ V.cell? ⟨w.heap.size, 4, none⟩ = some (.string cg) ∧ V.cell? ⟨w.heap.size, 5, none⟩ = some (.bool kp) ∧ V.cell? ⟨w.heap.size + 1, 0, none⟩ = some (.int .i64 kd) ∧ V.cell? ⟨w.heap.size + 1, 1, none⟩ = some (.int .u8 fr) ∧ V.cell? ⟨w.heap.size + 1, 2, none⟩ = some (.int .u8 t) ∧ V.cell? ⟨w.heap.size + 1, 3, none⟩ = some (.int .i64 e) ∧ V.cell? ⟨w.heap.size + 1, 4, none⟩ = some (.string mg)) u9 from ⟨CB.cell r10_s 0, CB.cell r10_s 1, CB.cell r10_s 2, CB.cell r10_s 3, CB.cell r10_s 4, CB.cell r10_s 5, CB.cell r10_m 0, CB.cell r10_m 1, CB.cell r10_m 2, CB.cell r10_m 3, CB.cell r10_m 4⟩)
      refine hK.out _ _ y11.out (fun hHeld => ?_)
      clear hK K y11
      try simp only [Act.put, List.setIfInBounds_toArray, List.set_cons_zero, List.set_cons_succ]
      refine wpAnyH_takeL (i := 4) (d := some 21) (v := .tuple #[.agg #[.int .u8 zme, .int .i64 zep, .int .i64 zst, .int .u8 zto, .string zcg, .bool zkp], .slice A n q, .int .i64 (ze : Int)]) rfl rfl (by kernel_rfl) (by kernel_rfl) (by kernel_rfl) (fun _ _ _ h => h) (Or.inl ⟨by rfl, ?_⟩) hHeld ?_
      · intro w hSw; (try dsimp only at hSw); go_simp
      try simp only [Act.put, List.setIfInBounds_toArray, List.set_cons_zero, List.set_cons_succ]
      refine wpAnyH_takeL (i := 5) (d := some 26) (v := .agg #[.int .u8 zme, .int .i64 zep, .int .i64 zst, .int .u8 zto, .string zcg, .bool zkp]) rfl rfl (by kernel_rfl) (by kernel_rfl) (by kernel_rfl) (fun _ _ _ h => h) (Or.inl ⟨by rfl, ?_⟩) hHeld ?_
      · intro w hSw; (try dsimp only at hSw); go_simp
      try simp only [Act.put, List.setIfInBounds_toArray, List.set_cons_zero, List.set_cons_succ]
      refine wpAnyH_takeL (i := 6) (d := some 27) (v := .slice A n q) rfl rfl (by kernel_rfl) (by kernel_rfl) (by kernel_rfl) (fun _ _ _ h => h) (Or.inl ⟨by rfl, ?_⟩) hHeld ?_
      · intro w hSw; (try dsimp only at hSw); go_simp
      try simp only [Act.put, List.setIfInBounds_toArray, List.set_cons_zero, List.set_cons_succ]
      refine wpAnyH_takeL (i := 7) (d := some 28) (v := .int .i64 (ze : Int)) rfl rfl (by kernel_rfl) (by kernel_rfl) (by kernel_rfl) (fun _ _ _ h => h) (Or.inl ⟨by rfl, ?_⟩) hHeld ?_
      · intro w hSw; (try dsimp only at hSw); go_simp
      try simp only [Act.put, List.setIfInBounds_toArray, List.set_cons_zero, List.set_cons_succ]
      refine wpAnyH_ready (rs := [8]) (by kernel_rfl) (by simp) ?_
      refine AllReadyH.cons rfl (fun K hK => ?_) AllReadyH.nil
      go_simp
      go_wp2_with fail
      have av_x : w.heap.size ≤ u9.heap.size := by have := l10.size; omega
      obtain ⟨W12, hW12⟩ : ∃ V, u9.alloc (.cells #[.int .u8 0, .int .i64 0, .int .i64 0, .int .u8 0, .string ⟨#[]⟩, .bool false] 31) = V := ⟨_, rfl⟩
      have zW12 : u9.heap.size = u9.heap.size := by rfl
      have nW12 : CB W12 (u9.heap.size) 31 #[.int .u8 0, .int .i64 0, .int .i64 0, .int .u8 0, .string ⟨#[]⟩, .bool false] := by rw [← zW12, ← hW12]; exact CB.new _ _ _
      have bW12 : Below u9.heap.size u9 W12 := by rw [← hW12]; exact le_al _ _
      have neW12_s : w.heap.size ≠ u9.heap.size := by have := CB.lt r10_s; omega
      have neW12_m : w.heap.size + 1 ≠ u9.heap.size := by have := CB.lt r10_m; omega
      have HW12 := Lib.hid hW12
      clear hW12 zW12
      have q13_z := RS.on hr bW12
      have r13_s := le_on r10_s bW12
      have r13_m := le_on r10_m bW12
      have l13 := le_tr l10 bW12
      clear r10_s r10_m l10
      clear hr
      clear bW12
      rw [HW12.out]
      have y14 := Lib.hid (show (fun V : World => V.cell? ⟨w.heap.size, 0, none⟩ = some (.int .u8 me) ∧ V.cell? ⟨w.heap.size, 1, none⟩ = some (.int .i64 ep) ∧ V.cell? ⟨w.heap.size, 2, none⟩ = some (.int .i64 st) ∧ V.cell? ⟨w.heap.size, 3, none⟩ = some (.int .u8 to) ∧ V.cell? ⟨w.heap.size, 4, none⟩ = some (.string cg) ∧ V.cell? ⟨w.heap.size, 5, none⟩ = some (.bool kp) ∧ V.cell? ⟨w.heap.size + 1, 0, none⟩ = some (.int .i64 kd) ∧ V.cell? ⟨w.heap.size + 1, 1, none⟩ = some (.int .u8 fr) ∧ V.cell? ⟨w.heap.size + 1, 2, none⟩ = some (.int .u8 t) ∧ V.cell? ⟨w.heap.size + 1, 3, none⟩ = some (.int .i64 e) ∧ V.cell? ⟨w.heap.size + 1, 4, none⟩ = some (.string mg)) W12 from ⟨CB.cell r13_s 0, CB.cell r13_s 1, CB.cell r13_s 2, CB.cell r13_s 3, CB.cell r13_s 4, CB.cell r13_s 5, CB.cell r13_m 0, CB.cell r13_m 1, CB.cell r13_m 2, CB.cell r13_m 3, CB.cell r13_m 4⟩)
      refine hK.out _ _ y14.out (fun hHeld => ?_)
      clear hK K y14
      try simp only [Act.put, List.setIfInBounds_toArray, List.set_cons_zero, List.set_cons_succ]
      refine wpAnyH_ready (rs := [9]) (by kernel_rfl) (by simp) ?_
      refine AllReadyH.cons rfl (fun K hK => ?_) AllReadyH.nil
      have f14_x0 : W12.cell? ⟨u9.heap.size, 0, none⟩ = some (.int .u8 0) := CB.cell nW12 0
      have z14_x0 : W12.frozen? ⟨u9.heap.size, 0, none⟩ = false := CB.frozen nW12 0
      have f14_x1 : W12.cell? ⟨u9.heap.size, 1, none⟩ = some (.int .i64 0) := CB.cell nW12 1
      have z14_x1 : W12.frozen? ⟨u9.heap.size, 1, none⟩ = false := CB.frozen nW12 1
      have f14_x2 : W12.cell? ⟨u9.heap.size, 2, none⟩ = some (.int .i64 0) := CB.cell nW12 2
      have z14_x2 : W12.frozen? ⟨u9.heap.size, 2, none⟩ = false := CB.frozen nW12 2
      have f14_x3 : W12.cell? ⟨u9.heap.size, 3, none⟩ = some (.int .u8 0) := CB.cell nW12 3
      have z14_x3 : W12.frozen? ⟨u9.heap.size, 3, none⟩ = false := CB.frozen nW12 3
      have f14_x4 : W12.cell? ⟨u9.heap.size, 4, none⟩ = some (.string ⟨#[]⟩) := CB.cell nW12 4
      have z14_x4 : W12.frozen? ⟨u9.heap.size, 4, none⟩ = false := CB.frozen nW12 4
      have f14_x5 : W12.cell? ⟨u9.heap.size, 5, none⟩ = some (.bool false) := CB.cell nW12 5
      have z14_x5 : W12.frozen? ⟨u9.heap.size, 5, none⟩ = false := CB.frozen nW12 5
      go_simp
      go_wp2_with fail
      have g15_z := (RS.far (RS.far (RS.far (RS.far (RS.far (RS.far q13_z nW12 (by decide) 0 (.int .u8 zme)) (CB.put nW12 0 (.int .u8 zme)) (by decide) 1 (.int .i64 zep)) (CB.put (CB.put nW12 0 (.int .u8 zme)) 1 (.int .i64 zep)) (by decide) 2 (.int .i64 zst)) (CB.put (CB.put (CB.put nW12 0 (.int .u8 zme)) 1 (.int .i64 zep)) 2 (.int .i64 zst)) (by decide) 3 (.int .u8 zto)) (CB.put (CB.put (CB.put (CB.put nW12 0 (.int .u8 zme)) 1 (.int .i64 zep)) 2 (.int .i64 zst)) 3 (.int .u8 zto)) (by decide) 4 (.string zcg)) (CB.put (CB.put (CB.put (CB.put (CB.put nW12 0 (.int .u8 zme)) 1 (.int .i64 zep)) 2 (.int .i64 zst)) 3 (.int .u8 zto)) 4 (.string zcg)) (by decide) 5 (.bool zkp))
      have f14_x0 : W12.cell? ⟨u9.heap.size, 0, none⟩ = some (.int .u8 0) := CB.cell nW12 0
      have z14_x0 : W12.frozen? ⟨u9.heap.size, 0, none⟩ = false := CB.frozen nW12 0
      have f14_x1 : W12.cell? ⟨u9.heap.size, 1, none⟩ = some (.int .i64 0) := CB.cell nW12 1
      have z14_x1 : W12.frozen? ⟨u9.heap.size, 1, none⟩ = false := CB.frozen nW12 1
      have f14_x2 : W12.cell? ⟨u9.heap.size, 2, none⟩ = some (.int .i64 0) := CB.cell nW12 2
      have z14_x2 : W12.frozen? ⟨u9.heap.size, 2, none⟩ = false := CB.frozen nW12 2
      have f14_x3 : W12.cell? ⟨u9.heap.size, 3, none⟩ = some (.int .u8 0) := CB.cell nW12 3
      have z14_x3 : W12.frozen? ⟨u9.heap.size, 3, none⟩ = false := CB.frozen nW12 3
      have f14_x4 : W12.cell? ⟨u9.heap.size, 4, none⟩ = some (.string ⟨#[]⟩) := CB.cell nW12 4
      have z14_x4 : W12.frozen? ⟨u9.heap.size, 4, none⟩ = false := CB.frozen nW12 4
      have f14_x5 : W12.cell? ⟨u9.heap.size, 5, none⟩ = some (.bool false) := CB.cell nW12 5
      have z14_x5 : W12.frozen? ⟨u9.heap.size, 5, none⟩ = false := CB.frozen nW12 5
      obtain ⟨V15, hV15⟩ : ∃ V, (((((W12.setCell ⟨u9.heap.size, 0, none⟩ (.int .u8 zme)).setCell ⟨u9.heap.size, 1, none⟩ (.int .i64 zep)).setCell ⟨u9.heap.size, 2, none⟩ (.int .i64 zst)).setCell ⟨u9.heap.size, 3, none⟩ (.int .u8 zto)).setCell ⟨u9.heap.size, 4, none⟩ (.string zcg)).setCell ⟨u9.heap.size, 5, none⟩ (.bool zkp) = V := ⟨_, rfl⟩
      have nV15 : CB V15 (u9.heap.size) 31 #[.int .u8 zme, .int .i64 zep, .int .i64 zst, .int .u8 zto, .string zcg, .bool zkp] := by rw [← hV15]; exact cb_cast (CB.put (CB.put (CB.put (CB.put (CB.put (CB.put nW12 0 (.int .u8 zme)) 1 (.int .i64 zep)) 2 (.int .i64 zst)) 3 (.int .u8 zto)) 4 (.string zcg)) 5 (.bool zkp)) (by kernel_rfl)
      have mV15_s : CB V15 (w.heap.size) 25 #[.int .u8 me, .int .i64 ep, .int .i64 st, .int .u8 to, .string cg, .bool kp] := by rw [← hV15]; exact (CB.far (CB.far (CB.far (CB.far (CB.far (CB.far r13_s (p := ⟨u9.heap.size, 0, none⟩) neW12_s (.int .u8 zme)) (p := ⟨u9.heap.size, 1, none⟩) neW12_s (.int .i64 zep)) (p := ⟨u9.heap.size, 2, none⟩) neW12_s (.int .i64 zst)) (p := ⟨u9.heap.size, 3, none⟩) neW12_s (.int .u8 zto)) (p := ⟨u9.heap.size, 4, none⟩) neW12_s (.string zcg)) (p := ⟨u9.heap.size, 5, none⟩) neW12_s (.bool zkp))
      have mV15_m : CB V15 (w.heap.size + 1) 27 #[.int .i64 kd, .int .u8 fr, .int .u8 t, .int .i64 e, .string mg] := by rw [← hV15]; exact (CB.far (CB.far (CB.far (CB.far (CB.far (CB.far r13_m (p := ⟨u9.heap.size, 0, none⟩) neW12_m (.int .u8 zme)) (p := ⟨u9.heap.size, 1, none⟩) neW12_m (.int .i64 zep)) (p := ⟨u9.heap.size, 2, none⟩) neW12_m (.int .i64 zst)) (p := ⟨u9.heap.size, 3, none⟩) neW12_m (.int .u8 zto)) (p := ⟨u9.heap.size, 4, none⟩) neW12_m (.string zcg)) (p := ⟨u9.heap.size, 5, none⟩) neW12_m (.bool zkp))
      have oV15 := (Below.setCell (Below.setCell (Below.setCell (Below.setCell (Below.setCell (Below.setCell l13 (p := ⟨u9.heap.size, 0, none⟩) (by have := av_x; dsimp only; omega) (.int .u8 zme)) (p := ⟨u9.heap.size, 1, none⟩) (by have := av_x; dsimp only; omega) (.int .i64 zep)) (p := ⟨u9.heap.size, 2, none⟩) (by have := av_x; dsimp only; omega) (.int .i64 zst)) (p := ⟨u9.heap.size, 3, none⟩) (by have := av_x; dsimp only; omega) (.int .u8 zto)) (p := ⟨u9.heap.size, 4, none⟩) (by have := av_x; dsimp only; omega) (.string zcg)) (p := ⟨u9.heap.size, 5, none⟩) (by have := av_x; dsimp only; omega) (.bool zkp))
      rw [hV15] at oV15
      have HV15 := Lib.hid hV15
      have V15_eq := hV15
      clear hV15
      clear nW12 r13_s r13_m l13
      have q15_z : RS V15 37 mc 5 A n q zr := by rw [← V15_eq]; exact g15_z
      clear g15_z q13_z
      clear V15_eq
      rw [HV15.out]
      clear f14_x0 z14_x0 f14_x1 z14_x1 f14_x2 z14_x2 f14_x3 z14_x3 f14_x4 z14_x4 f14_x5 z14_x5
      have y16 := Lib.hid (show (fun V : World => V.cell? ⟨w.heap.size, 0, none⟩ = some (.int .u8 me) ∧ V.cell? ⟨w.heap.size, 1, none⟩ = some (.int .i64 ep) ∧ V.cell? ⟨w.heap.size, 2, none⟩ = some (.int .i64 st) ∧ V.cell? ⟨w.heap.size, 3, none⟩ = some (.int .u8 to) ∧ V.cell? ⟨w.heap.size, 4, none⟩ = some (.string cg) ∧ V.cell? ⟨w.heap.size, 5, none⟩ = some (.bool kp) ∧ V.cell? ⟨w.heap.size + 1, 0, none⟩ = some (.int .i64 kd) ∧ V.cell? ⟨w.heap.size + 1, 1, none⟩ = some (.int .u8 fr) ∧ V.cell? ⟨w.heap.size + 1, 2, none⟩ = some (.int .u8 t) ∧ V.cell? ⟨w.heap.size + 1, 3, none⟩ = some (.int .i64 e) ∧ V.cell? ⟨w.heap.size + 1, 4, none⟩ = some (.string mg)) V15 from ⟨CB.cell mV15_s 0, CB.cell mV15_s 1, CB.cell mV15_s 2, CB.cell mV15_s 3, CB.cell mV15_s 4, CB.cell mV15_s 5, CB.cell mV15_m 0, CB.cell mV15_m 1, CB.cell mV15_m 2, CB.cell mV15_m 3, CB.cell mV15_m 4⟩)
      refine hK.out _ _ y16.out (fun hHeld => ?_)
      clear hK K y16
      try simp only [Act.put, List.setIfInBounds_toArray, List.set_cons_zero, List.set_cons_succ]
      refine wpAnyH_takeL (i := 10) (d := some 6) (v := .slice A n q) rfl rfl (by kernel_rfl) (by kernel_rfl) (by kernel_rfl) (fun _ _ _ h => h) (Or.inl ⟨by rfl, ?_⟩) hHeld ?_
      · intro w hSw; (try dsimp only at hSw); go_simp
      try simp only [Act.put, List.setIfInBounds_toArray, List.set_cons_zero, List.set_cons_succ]
      refine wpAnyH_takeL (i := 11) (d := some 7) (v := .int .i64 (ze : Int)) rfl rfl (by kernel_rfl) (by kernel_rfl) (by kernel_rfl) (fun _ _ _ h => h) (Or.inl ⟨by rfl, ?_⟩) hHeld ?_
      · intro w hSw; (try dsimp only at hSw); go_simp
      try simp only [Act.put, List.setIfInBounds_toArray, List.set_cons_zero, List.set_cons_succ]
      refine wpAnyH_done (by kernel_rfl) ?_ _
      have f16_s0 : V15.cell? ⟨w.heap.size, 0, none⟩ = some (.int .u8 me) := CB.cell mV15_s 0
      have f16_s1 : V15.cell? ⟨w.heap.size, 1, none⟩ = some (.int .i64 ep) := CB.cell mV15_s 1
      have f16_s2 : V15.cell? ⟨w.heap.size, 2, none⟩ = some (.int .i64 st) := CB.cell mV15_s 2
      have f16_s3 : V15.cell? ⟨w.heap.size, 3, none⟩ = some (.int .u8 to) := CB.cell mV15_s 3
      have f16_s4 : V15.cell? ⟨w.heap.size, 4, none⟩ = some (.string cg) := CB.cell mV15_s 4
      have f16_s5 : V15.cell? ⟨w.heap.size, 5, none⟩ = some (.bool kp) := CB.cell mV15_s 5
      have f16_m0 : V15.cell? ⟨w.heap.size + 1, 0, none⟩ = some (.int .i64 kd) := CB.cell mV15_m 0
      have f16_m1 : V15.cell? ⟨w.heap.size + 1, 1, none⟩ = some (.int .u8 fr) := CB.cell mV15_m 1
      have f16_m2 : V15.cell? ⟨w.heap.size + 1, 2, none⟩ = some (.int .u8 t) := CB.cell mV15_m 2
      have f16_m3 : V15.cell? ⟨w.heap.size + 1, 3, none⟩ = some (.int .i64 e) := CB.cell mV15_m 3
      have f16_m4 : V15.cell? ⟨w.heap.size + 1, 4, none⟩ = some (.string mg) := CB.cell mV15_m 4
      go_wp2_with fail
      refine (H2 _).mono ?_
      rintro e w17 ⟨B, n', q', rfl, hr', b17⟩
      clear f16_s0 f16_s1 f16_s2 f16_s3 f16_s4 f16_s5 f16_m0 f16_m1 f16_m2 f16_m3 f16_m4
      have q18_z := RS.on q15_z b17
      have r18_s := le_on mV15_s b17
      have r18_m := le_on mV15_m b17
      have r18_x := le_on nV15 b17
      have l18 := le_tr oV15 b17
      clear mV15_s mV15_m nV15 oV15
      clear q15_z
      clear b17
      have av_d : w.heap.size ≤ w17.heap.size := by have := l18.size; omega
      obtain ⟨W19, hW19⟩ : ∃ V, w17.alloc (.cells #[.int .u8 zme, .int .i64 zep, .int .i64 zst, .int .u8 zto, .string zcg, .bool zkp, .slice B n' q', .int .i64 (ze : Int)] 40) = V := ⟨_, rfl⟩
      have zW19 : w17.heap.size = w17.heap.size := by rfl
      have nW19 : CB W19 (w17.heap.size) 40 #[.int .u8 zme, .int .i64 zep, .int .i64 zst, .int .u8 zto, .string zcg, .bool zkp, .slice B n' q', .int .i64 (ze : Int)] := by rw [← zW19, ← hW19]; exact CB.new _ _ _
      have bW19 : Below w17.heap.size w17 W19 := by rw [← hW19]; exact le_al _ _
      have neW19_s : w.heap.size ≠ w17.heap.size := by have := CB.lt r18_s; omega
      have neW19_m : w.heap.size + 1 ≠ w17.heap.size := by have := CB.lt r18_m; omega
      have neW19_x : u9.heap.size ≠ w17.heap.size := by have := CB.lt r18_x; omega
      have HW19 := Lib.hid hW19
      clear hW19 zW19
      have q20_z := RS.on q18_z bW19
      have q20_y := RS.on hr' bW19
      have r20_s := le_on r18_s bW19
      have r20_m := le_on r18_m bW19
      have r20_x := le_on r18_x bW19
      have l20 := le_tr l18 bW19
      clear r18_s r18_m r18_x l18
      clear q18_z hr'
      clear bW19
      go_wp2_with fail
      rw [HW19.out]
      have y21 := Lib.hid (show (fun V : World => V.cell? ⟨u9.heap.size, 0, none⟩ = some (.int .u8 zme) ∧ V.cell? ⟨u9.heap.size, 1, none⟩ = some (.int .i64 zep) ∧ V.cell? ⟨u9.heap.size, 2, none⟩ = some (.int .i64 zst) ∧ V.cell? ⟨u9.heap.size, 3, none⟩ = some (.int .u8 zto) ∧ V.cell? ⟨u9.heap.size, 4, none⟩ = some (.string zcg) ∧ V.cell? ⟨u9.heap.size, 5, none⟩ = some (.bool zkp) ∧ V.cell? ⟨w17.heap.size, 0, none⟩ = some (.int .u8 zme) ∧ V.cell? ⟨w17.heap.size, 1, none⟩ = some (.int .i64 zep) ∧ V.cell? ⟨w17.heap.size, 2, none⟩ = some (.int .i64 zst) ∧ V.cell? ⟨w17.heap.size, 3, none⟩ = some (.int .u8 zto) ∧ V.cell? ⟨w17.heap.size, 4, none⟩ = some (.string zcg) ∧ V.cell? ⟨w17.heap.size, 5, none⟩ = some (.bool zkp) ∧ V.cell? ⟨w17.heap.size, 6, none⟩ = some (.slice B n' q') ∧ V.cell? ⟨w17.heap.size, 7, none⟩ = some (.int .i64 (ze : Int))) W19 from ⟨CB.cell r20_x 0, CB.cell r20_x 1, CB.cell r20_x 2, CB.cell r20_x 3, CB.cell r20_x 4, CB.cell r20_x 5, CB.cell nW19 0, CB.cell nW19 1, CB.cell nW19 2, CB.cell nW19 3, CB.cell nW19 4, CB.cell nW19 5, CB.cell nW19 6, CB.cell nW19 7⟩)
      refine wp_region_held_drew (S := (fun V : World => V.cell? ⟨u9.heap.size, 0, none⟩ = some (.int .u8 zme) ∧ V.cell? ⟨u9.heap.size, 1, none⟩ = some (.int .i64 zep) ∧ V.cell? ⟨u9.heap.size, 2, none⟩ = some (.int .i64 zst) ∧ V.cell? ⟨u9.heap.size, 3, none⟩ = some (.int .u8 zto) ∧ V.cell? ⟨u9.heap.size, 4, none⟩ = some (.string zcg) ∧ V.cell? ⟨u9.heap.size, 5, none⟩ = some (.bool zkp) ∧ V.cell? ⟨w17.heap.size, 0, none⟩ = some (.int .u8 zme) ∧ V.cell? ⟨w17.heap.size, 1, none⟩ = some (.int .i64 zep) ∧ V.cell? ⟨w17.heap.size, 2, none⟩ = some (.int .i64 zst) ∧ V.cell? ⟨w17.heap.size, 3, none⟩ = some (.int .u8 zto) ∧ V.cell? ⟨w17.heap.size, 4, none⟩ = some (.string zcg) ∧ V.cell? ⟨w17.heap.size, 5, none⟩ = some (.bool zkp) ∧ V.cell? ⟨w17.heap.size, 6, none⟩ = some (.slice B n' q') ∧ V.cell? ⟨w17.heap.size, 7, none⟩ = some (.int .i64 (ze : Int)))) (by kernel_rfl) y21.out (fun hHeld => ?_)
      obtain ⟨D21, hD21⟩ : ∃ V, W19.drew = V := ⟨_, rfl⟩
      have b21 : Below W19.heap.size W19 D21 := by rw [← hD21]; exact le_dr (Below.refl _ _)
      rw [hD21] at hHeld ⊢
      clear hD21
      have q22_z := RS.on q20_z b21
      have q22_y := RS.on q20_y b21
      have r22_s := le_on r20_s b21
      have r22_m := le_on r20_m b21
      have r22_x := le_on r20_x b21
      have r22_d := le_on nW19 b21
      have l22 := le_tr l20 b21
      clear r20_s r20_m r20_x nW19 l20
      clear q20_z q20_y
      clear b21
      refine wpAnyH_takeL (i := 0) (d := some 32) (v := .agg #[.int .u8 zme, .int .i64 zep, .int .i64 zst, .int .u8 zto, .string zcg, .bool zkp]) rfl rfl (by kernel_rfl) (by kernel_rfl) (by kernel_rfl) (fun _ _ _ h => h) (Or.inl ⟨by rfl, ?_⟩) hHeld ?_
      · intro w hSw; (try dsimp only at hSw); go_simp
      try simp only [Act.put, List.setIfInBounds_toArray, List.set_cons_zero, List.set_cons_succ]
      refine wpAnyH_takeL (i := 2) (d := some 34) (v := .pointer (some ⟨w17.heap.size, 0, none⟩)) rfl rfl (by kernel_rfl) (by kernel_rfl) (by kernel_rfl) (fun _ _ _ h => h) (Or.inl ⟨by rfl, ?_⟩) hHeld ?_
      · intro w hSw; (try dsimp only at hSw); go_simp
      try simp only [Act.put, List.setIfInBounds_toArray, List.set_cons_zero, List.set_cons_succ]
      refine wpAnyH_takeL (i := 3) (d := some 35) (v := .agg #[.int .u8 zme, .int .i64 zep, .int .i64 zst, .int .u8 zto, .string zcg, .bool zkp]) rfl rfl (by kernel_rfl) (by kernel_rfl) (by kernel_rfl) (fun _ _ _ h => h) (Or.inl ⟨by rfl, ?_⟩) hHeld ?_
      · intro w hSw; (try dsimp only at hSw); go_simp
      try simp only [Act.put, List.setIfInBounds_toArray, List.set_cons_zero, List.set_cons_succ]
      refine wpAnyH_ready (rs := [1]) (by kernel_rfl) (by simp) ?_
      refine AllReadyH.cons rfl (fun K hK => ?_) AllReadyH.nil
      go_simp
      refine (O1 _).mono ?_
      rintro e u23 ⟨rfl, b23⟩
      have q24_z := RS.on q22_z b23
      have q24_y := RS.on q22_y b23
      have r24_s := le_on r22_s b23
      have r24_m := le_on r22_m b23
      have r24_x := le_on r22_x b23
      have r24_d := le_on r22_d b23
      have l24 := le_tr l22 b23
      clear r22_s r22_m r22_x r22_d l22
      clear q22_z q22_y
      clear b23
      go_wp2_with fail
      have y25 := Lib.hid (show (fun V : World => V.cell? ⟨u9.heap.size, 0, none⟩ = some (.int .u8 zme) ∧ V.cell? ⟨u9.heap.size, 1, none⟩ = some (.int .i64 zep) ∧ V.cell? ⟨u9.heap.size, 2, none⟩ = some (.int .i64 zst) ∧ V.cell? ⟨u9.heap.size, 3, none⟩ = some (.int .u8 zto) ∧ V.cell? ⟨u9.heap.size, 4, none⟩ = some (.string zcg) ∧ V.cell? ⟨u9.heap.size, 5, none⟩ = some (.bool zkp) ∧ V.cell? ⟨w17.heap.size, 0, none⟩ = some (.int .u8 zme) ∧ V.cell? ⟨w17.heap.size, 1, none⟩ = some (.int .i64 zep) ∧ V.cell? ⟨w17.heap.size, 2, none⟩ = some (.int .i64 zst) ∧ V.cell? ⟨w17.heap.size, 3, none⟩ = some (.int .u8 zto) ∧ V.cell? ⟨w17.heap.size, 4, none⟩ = some (.string zcg) ∧ V.cell? ⟨w17.heap.size, 5, none⟩ = some (.bool zkp) ∧ V.cell? ⟨w17.heap.size, 6, none⟩ = some (.slice B n' q') ∧ V.cell? ⟨w17.heap.size, 7, none⟩ = some (.int .i64 (ze : Int))) u23 from ⟨CB.cell r24_x 0, CB.cell r24_x 1, CB.cell r24_x 2, CB.cell r24_x 3, CB.cell r24_x 4, CB.cell r24_x 5, CB.cell r24_d 0, CB.cell r24_d 1, CB.cell r24_d 2, CB.cell r24_d 3, CB.cell r24_d 4, CB.cell r24_d 5, CB.cell r24_d 6, CB.cell r24_d 7⟩)
      refine hK.out _ _ y25.out (fun hHeld => ?_)
      clear hK K y25
      try simp only [Act.put, List.setIfInBounds_toArray, List.set_cons_zero, List.set_cons_succ]
      refine wpAnyH_takeL (i := 4) (d := some 36) (v := .bool true) rfl rfl (by kernel_rfl) (by kernel_rfl) (by kernel_rfl) (fun _ _ _ h => h) (Or.inl ⟨by rfl, ?_⟩) hHeld ?_
      · intro w hSw; (try dsimp only at hSw); go_simp
      try simp only [Act.put, List.setIfInBounds_toArray, List.set_cons_zero, List.set_cons_succ]
      refine wpAnyH_takeL (i := 5) (d := some 37) (v := .bool true) rfl rfl (by kernel_rfl) (by kernel_rfl) (by kernel_rfl) (fun _ _ _ h => h) (Or.inl ⟨by rfl, ?_⟩) hHeld ?_
      · intro w hSw; (try dsimp only at hSw); go_simp
      try simp only [Act.put, List.setIfInBounds_toArray, List.set_cons_zero, List.set_cons_succ]
      refine wpAnyH_takeL (i := 6) (d := some 38) (v := .slice A n q) rfl rfl (by kernel_rfl) (by kernel_rfl) (by kernel_rfl) (fun _ _ _ h => h) (Or.inl ⟨by rfl, ?_⟩) hHeld ?_
      · intro w hSw; (try dsimp only at hSw); go_simp
      try simp only [Act.put, List.setIfInBounds_toArray, List.set_cons_zero, List.set_cons_succ]
      refine wpAnyH_takeL (i := 7) (d := some 39) (v := .pointer (some ⟨w17.heap.size, 6, none⟩)) rfl rfl (by kernel_rfl) (by kernel_rfl) (by kernel_rfl) (fun _ _ _ h => h) (Or.inl ⟨by rfl, ?_⟩) hHeld ?_
      · intro w hSw; (try dsimp only at hSw); go_simp
      try simp only [Act.put, List.setIfInBounds_toArray, List.set_cons_zero, List.set_cons_succ]
      refine wpAnyH_takeL (i := 8) (d := some 40) (v := .slice B n' q') rfl rfl (by kernel_rfl) (by kernel_rfl) (by kernel_rfl) (fun _ _ _ h => h) (Or.inl ⟨by rfl, ?_⟩) hHeld ?_
      · intro w hSw; (try dsimp only at hSw); go_simp
      try simp only [Act.put, List.setIfInBounds_toArray, List.set_cons_zero, List.set_cons_succ]
      refine wpAnyH_ready (rs := [9]) (by kernel_rfl) (by simp) ?_
      refine AllReadyH.cons rfl (fun K hK => ?_) AllReadyH.nil
      go_simp
      refine (hsame_c A B n q n' q' zr _ (RS.rr q24_z) (RS.rr q24_y)).mono ?_
      rintro e u26 ⟨rfl, b26⟩
      have q27_z := RS.on q24_z b26
      have q27_y := RS.on q24_y b26
      have r27_s := le_on r24_s b26
      have r27_m := le_on r24_m b26
      have r27_x := le_on r24_x b26
      have r27_d := le_on r24_d b26
      have l27 := le_tr l24 b26
      clear r24_s r24_m r24_x r24_d l24
      clear q24_z q24_y
      clear b26
      go_wp2_with fail
      have y28 := Lib.hid (show (fun V : World => V.cell? ⟨u9.heap.size, 0, none⟩ = some (.int .u8 zme) ∧ V.cell? ⟨u9.heap.size, 1, none⟩ = some (.int .i64 zep) ∧ V.cell? ⟨u9.heap.size, 2, none⟩ = some (.int .i64 zst) ∧ V.cell? ⟨u9.heap.size, 3, none⟩ = some (.int .u8 zto) ∧ V.cell? ⟨u9.heap.size, 4, none⟩ = some (.string zcg) ∧ V.cell? ⟨u9.heap.size, 5, none⟩ = some (.bool zkp) ∧ V.cell? ⟨w17.heap.size, 0, none⟩ = some (.int .u8 zme) ∧ V.cell? ⟨w17.heap.size, 1, none⟩ = some (.int .i64 zep) ∧ V.cell? ⟨w17.heap.size, 2, none⟩ = some (.int .i64 zst) ∧ V.cell? ⟨w17.heap.size, 3, none⟩ = some (.int .u8 zto) ∧ V.cell? ⟨w17.heap.size, 4, none⟩ = some (.string zcg) ∧ V.cell? ⟨w17.heap.size, 5, none⟩ = some (.bool zkp) ∧ V.cell? ⟨w17.heap.size, 6, none⟩ = some (.slice B n' q') ∧ V.cell? ⟨w17.heap.size, 7, none⟩ = some (.int .i64 (ze : Int))) u26 from ⟨CB.cell r27_x 0, CB.cell r27_x 1, CB.cell r27_x 2, CB.cell r27_x 3, CB.cell r27_x 4, CB.cell r27_x 5, CB.cell r27_d 0, CB.cell r27_d 1, CB.cell r27_d 2, CB.cell r27_d 3, CB.cell r27_d 4, CB.cell r27_d 5, CB.cell r27_d 6, CB.cell r27_d 7⟩)
      refine hK.out _ _ y28.out (fun hHeld => ?_)
      clear hK K y28
      try simp only [Act.put, List.setIfInBounds_toArray, List.set_cons_zero, List.set_cons_succ]
      refine wpAnyH_takeL (i := 10) (d := some 42) (v := .bool true) rfl rfl (by kernel_rfl) (by kernel_rfl) (by kernel_rfl) (fun _ _ _ h => h) (Or.inl ⟨by rfl, ?_⟩) hHeld ?_
      · intro w hSw; (try dsimp only at hSw); go_simp
      try simp only [Act.put, List.setIfInBounds_toArray, List.set_cons_zero, List.set_cons_succ]
      refine wpAnyH_takeL (i := 11) (d := some 43) (v := .bool true) rfl rfl (by kernel_rfl) (by kernel_rfl) (by kernel_rfl) (fun _ _ _ h => h) (Or.inl ⟨by rfl, ?_⟩) hHeld ?_
      · intro w hSw; (try dsimp only at hSw); go_simp
      try simp only [Act.put, List.setIfInBounds_toArray, List.set_cons_zero, List.set_cons_succ]
      refine wpAnyH_takeL (i := 12) (d := some 44) (v := .int .i64 (ze : Int)) rfl rfl (by kernel_rfl) (by kernel_rfl) (by kernel_rfl) (fun _ _ _ h => h) (Or.inl ⟨by rfl, ?_⟩) hHeld ?_
      · intro w hSw; (try dsimp only at hSw); go_simp
      try simp only [Act.put, List.setIfInBounds_toArray, List.set_cons_zero, List.set_cons_succ]
      refine wpAnyH_takeL (i := 13) (d := some 45) (v := .pointer (some ⟨w17.heap.size, 7, none⟩)) rfl rfl (by kernel_rfl) (by kernel_rfl) (by kernel_rfl) (fun _ _ _ h => h) (Or.inl ⟨by rfl, ?_⟩) hHeld ?_
      · intro w hSw; (try dsimp only at hSw); go_simp
      try simp only [Act.put, List.setIfInBounds_toArray, List.set_cons_zero, List.set_cons_succ]
      refine wpAnyH_takeL (i := 14) (d := some 46) (v := .int .i64 (ze : Int)) rfl rfl (by kernel_rfl) (by kernel_rfl) (by kernel_rfl) (fun _ _ _ h => h) (Or.inl ⟨by rfl, ?_⟩) hHeld ?_
      · intro w hSw; (try dsimp only at hSw); go_simp
      try simp only [Act.put, List.setIfInBounds_toArray, List.set_cons_zero, List.set_cons_succ]
      refine wpAnyH_takeL (i := 15) (d := some 47) (v := .bool true) rfl rfl (by kernel_rfl) (by kernel_rfl) (by kernel_rfl) (fun _ _ _ h => h) (Or.inl ⟨by rfl, ?_⟩) hHeld ?_
      · intro w hSw; (try dsimp only at hSw); go_simp
      try simp only [Act.put, List.setIfInBounds_toArray, List.set_cons_zero, List.set_cons_succ]
      refine wpAnyH_takeL (i := 16) (d := some 48) (v := .bool true) rfl rfl (by kernel_rfl) (by kernel_rfl) (by kernel_rfl) (fun _ _ _ h => h) (Or.inl ⟨by rfl, ?_⟩) hHeld ?_
      · intro w hSw; (try dsimp only at hSw); go_simp
      try simp only [Act.put, List.setIfInBounds_toArray, List.set_cons_zero, List.set_cons_succ]
      refine wpAnyH_takeL (i := 17) (d := some 4) (v := .bool true) rfl rfl (by kernel_rfl) (by kernel_rfl) (by kernel_rfl) (fun _ _ _ h => h) (Or.inl ⟨by rfl, ?_⟩) hHeld ?_
      · intro w hSw; (try dsimp only at hSw); go_simp
      try simp only [Act.put, List.setIfInBounds_toArray, List.set_cons_zero, List.set_cons_succ]
      refine wpAnyH_done (by kernel_rfl) ?_ _
      go_wp2_with fail
      go_ret
      exact ⟨rfl, l27⟩
    · skip
      go_simp
      go_wp2_with fail
      have av_x : w.heap.size ≤ u6.heap.size := by have := l7.size; omega
      obtain ⟨W9, hW9⟩ : ∃ V, u6.alloc (.cells #[.int .u8 0, .int .i64 0, .int .i64 0, .int .u8 0, .string ⟨#[]⟩, .bool false] 31) = V := ⟨_, rfl⟩
      have zW9 : u6.heap.size = u6.heap.size := by rfl
      have nW9 : CB W9 (u6.heap.size) 31 #[.int .u8 0, .int .i64 0, .int .i64 0, .int .u8 0, .string ⟨#[]⟩, .bool false] := by rw [← zW9, ← hW9]; exact CB.new _ _ _
      have bW9 : Below u6.heap.size u6 W9 := by rw [← hW9]; exact le_al _ _
      have neW9_s : w.heap.size ≠ u6.heap.size := by have := CB.lt r7_s; omega
      have neW9_m : w.heap.size + 1 ≠ u6.heap.size := by have := CB.lt r7_m; omega
      have HW9 := Lib.hid hW9
      clear hW9 zW9
      have r10_s := le_on r7_s bW9
      have r10_m := le_on r7_m bW9
      have l10 := le_tr l7 bW9
      clear r7_s r7_m l7
      clear bW9
      rw [HW9.out]
      have y11 := Lib.hid (show (fun V : World => V.cell? ⟨w.heap.size, 0, none⟩ = some (.int .u8 me) ∧ V.cell? ⟨w.heap.size, 1, none⟩ = some (.int .i64 ep) ∧ V.cell? ⟨w.heap.size, 2, none⟩ = some (.int .i64 st) ∧ V.cell? ⟨w.heap.size, 3, none⟩ = some (.int .u8 to) ∧ V.cell? ⟨w.heap.size, 4, none⟩ = some (.string cg) ∧ V.cell? ⟨w.heap.size, 5, none⟩ = some (.bool kp) ∧ V.cell? ⟨w.heap.size + 1, 0, none⟩ = some (.int .i64 kd) ∧ V.cell? ⟨w.heap.size + 1, 1, none⟩ = some (.int .u8 fr) ∧ V.cell? ⟨w.heap.size + 1, 2, none⟩ = some (.int .u8 t) ∧ V.cell? ⟨w.heap.size + 1, 3, none⟩ = some (.int .i64 e) ∧ V.cell? ⟨w.heap.size + 1, 4, none⟩ = some (.string mg)) W9 from ⟨CB.cell r10_s 0, CB.cell r10_s 1, CB.cell r10_s 2, CB.cell r10_s 3, CB.cell r10_s 4, CB.cell r10_s 5, CB.cell r10_m 0, CB.cell r10_m 1, CB.cell r10_m 2, CB.cell r10_m 3, CB.cell r10_m 4⟩)
      refine hK.out _ _ y11.out (fun hHeld => ?_)
      clear hK K y11
      try simp only [Act.put, List.setIfInBounds_toArray, List.set_cons_zero, List.set_cons_succ]
      refine wpAnyH_ready (rs := [3]) (by kernel_rfl) (by simp) ?_
      refine AllReadyH.cons rfl (fun K hK => ?_) AllReadyH.nil
      go_simp
      refine (H1 _).mono ?_
      rintro e u12 ⟨A, n, q, rfl, hr, b12⟩
      have r13_s := le_on r10_s b12
      have r13_m := le_on r10_m b12
      have r13_x := le_on nW9 b12
      have l13 := le_tr l10 b12
      clear r10_s r10_m nW9 l10
      clear b12
      go_wp2_with fail
      have y14 := Lib.hid (show (fun V : World => V.cell? ⟨w.heap.size, 0, none⟩ = some (.int .u8 me) ∧ V.cell? ⟨w.heap.size, 1, none⟩ = some (.int .i64 ep) ∧ V.cell? ⟨w.heap.size, 2, none⟩ = some (.int .i64 st) ∧ V.cell? ⟨w.heap.size, 3, none⟩ = some (.int .u8 to) ∧ V.cell? ⟨w.heap.size, 4, none⟩ = some (.string cg) ∧ V.cell? ⟨w.heap.size, 5, none⟩ = some (.bool kp) ∧ V.cell? ⟨w.heap.size + 1, 0, none⟩ = some (.int .i64 kd) ∧ V.cell? ⟨w.heap.size + 1, 1, none⟩ = some (.int .u8 fr) ∧ V.cell? ⟨w.heap.size + 1, 2, none⟩ = some (.int .u8 t) ∧ V.cell? ⟨w.heap.size + 1, 3, none⟩ = some (.int .i64 e) ∧ V.cell? ⟨w.heap.size + 1, 4, none⟩ = some (.string mg)) u12 from ⟨CB.cell r13_s 0, CB.cell r13_s 1, CB.cell r13_s 2, CB.cell r13_s 3, CB.cell r13_s 4, CB.cell r13_s 5, CB.cell r13_m 0, CB.cell r13_m 1, CB.cell r13_m 2, CB.cell r13_m 3, CB.cell r13_m 4⟩)
      refine hK.out _ _ y14.out (fun hHeld => ?_)
      clear hK K y14
      try simp only [Act.put, List.setIfInBounds_toArray, List.set_cons_zero, List.set_cons_succ]
      refine wpAnyH_takeL (i := 4) (d := some 21) (v := .tuple #[.agg #[.int .u8 zme, .int .i64 zep, .int .i64 zst, .int .u8 zto, .string zcg, .bool zkp], .slice A n q, .int .i64 (ze : Int)]) rfl rfl (by kernel_rfl) (by kernel_rfl) (by kernel_rfl) (fun _ _ _ h => h) (Or.inl ⟨by rfl, ?_⟩) hHeld ?_
      · intro w hSw; (try dsimp only at hSw); go_simp
      try simp only [Act.put, List.setIfInBounds_toArray, List.set_cons_zero, List.set_cons_succ]
      refine wpAnyH_takeL (i := 5) (d := some 26) (v := .agg #[.int .u8 zme, .int .i64 zep, .int .i64 zst, .int .u8 zto, .string zcg, .bool zkp]) rfl rfl (by kernel_rfl) (by kernel_rfl) (by kernel_rfl) (fun _ _ _ h => h) (Or.inl ⟨by rfl, ?_⟩) hHeld ?_
      · intro w hSw; (try dsimp only at hSw); go_simp
      try simp only [Act.put, List.setIfInBounds_toArray, List.set_cons_zero, List.set_cons_succ]
      refine wpAnyH_takeL (i := 6) (d := some 27) (v := .slice A n q) rfl rfl (by kernel_rfl) (by kernel_rfl) (by kernel_rfl) (fun _ _ _ h => h) (Or.inl ⟨by rfl, ?_⟩) hHeld ?_
      · intro w hSw; (try dsimp only at hSw); go_simp
      try simp only [Act.put, List.setIfInBounds_toArray, List.set_cons_zero, List.set_cons_succ]
      refine wpAnyH_takeL (i := 7) (d := some 28) (v := .int .i64 (ze : Int)) rfl rfl (by kernel_rfl) (by kernel_rfl) (by kernel_rfl) (fun _ _ _ h => h) (Or.inl ⟨by rfl, ?_⟩) hHeld ?_
      · intro w hSw; (try dsimp only at hSw); go_simp
      try simp only [Act.put, List.setIfInBounds_toArray, List.set_cons_zero, List.set_cons_succ]
      refine wpAnyH_ready (rs := [9]) (by kernel_rfl) (by simp) ?_
      refine AllReadyH.cons rfl (fun K hK => ?_) AllReadyH.nil
      have f14_x0 : u12.cell? ⟨u6.heap.size, 0, none⟩ = some (.int .u8 0) := CB.cell r13_x 0
      have z14_x0 : u12.frozen? ⟨u6.heap.size, 0, none⟩ = false := CB.frozen r13_x 0
      have f14_x1 : u12.cell? ⟨u6.heap.size, 1, none⟩ = some (.int .i64 0) := CB.cell r13_x 1
      have z14_x1 : u12.frozen? ⟨u6.heap.size, 1, none⟩ = false := CB.frozen r13_x 1
      have f14_x2 : u12.cell? ⟨u6.heap.size, 2, none⟩ = some (.int .i64 0) := CB.cell r13_x 2
      have z14_x2 : u12.frozen? ⟨u6.heap.size, 2, none⟩ = false := CB.frozen r13_x 2
      have f14_x3 : u12.cell? ⟨u6.heap.size, 3, none⟩ = some (.int .u8 0) := CB.cell r13_x 3
      have z14_x3 : u12.frozen? ⟨u6.heap.size, 3, none⟩ = false := CB.frozen r13_x 3
      have f14_x4 : u12.cell? ⟨u6.heap.size, 4, none⟩ = some (.string ⟨#[]⟩) := CB.cell r13_x 4
      have z14_x4 : u12.frozen? ⟨u6.heap.size, 4, none⟩ = false := CB.frozen r13_x 4
      have f14_x5 : u12.cell? ⟨u6.heap.size, 5, none⟩ = some (.bool false) := CB.cell r13_x 5
      have z14_x5 : u12.frozen? ⟨u6.heap.size, 5, none⟩ = false := CB.frozen r13_x 5
      go_simp
      go_wp2_with fail
      have g15_z := (RS.far (RS.far (RS.far (RS.far (RS.far (RS.far hr r13_x (by decide) 0 (.int .u8 zme)) (CB.put r13_x 0 (.int .u8 zme)) (by decide) 1 (.int .i64 zep)) (CB.put (CB.put r13_x 0 (.int .u8 zme)) 1 (.int .i64 zep)) (by decide) 2 (.int .i64 zst)) (CB.put (CB.put (CB.put r13_x 0 (.int .u8 zme)) 1 (.int .i64 zep)) 2 (.int .i64 zst)) (by decide) 3 (.int .u8 zto)) (CB.put (CB.put (CB.put (CB.put r13_x 0 (.int .u8 zme)) 1 (.int .i64 zep)) 2 (.int .i64 zst)) 3 (.int .u8 zto)) (by decide) 4 (.string zcg)) (CB.put (CB.put (CB.put (CB.put (CB.put r13_x 0 (.int .u8 zme)) 1 (.int .i64 zep)) 2 (.int .i64 zst)) 3 (.int .u8 zto)) 4 (.string zcg)) (by decide) 5 (.bool zkp))
      have f14_x0 : u12.cell? ⟨u6.heap.size, 0, none⟩ = some (.int .u8 0) := CB.cell r13_x 0
      have z14_x0 : u12.frozen? ⟨u6.heap.size, 0, none⟩ = false := CB.frozen r13_x 0
      have f14_x1 : u12.cell? ⟨u6.heap.size, 1, none⟩ = some (.int .i64 0) := CB.cell r13_x 1
      have z14_x1 : u12.frozen? ⟨u6.heap.size, 1, none⟩ = false := CB.frozen r13_x 1
      have f14_x2 : u12.cell? ⟨u6.heap.size, 2, none⟩ = some (.int .i64 0) := CB.cell r13_x 2
      have z14_x2 : u12.frozen? ⟨u6.heap.size, 2, none⟩ = false := CB.frozen r13_x 2
      have f14_x3 : u12.cell? ⟨u6.heap.size, 3, none⟩ = some (.int .u8 0) := CB.cell r13_x 3
      have z14_x3 : u12.frozen? ⟨u6.heap.size, 3, none⟩ = false := CB.frozen r13_x 3
      have f14_x4 : u12.cell? ⟨u6.heap.size, 4, none⟩ = some (.string ⟨#[]⟩) := CB.cell r13_x 4
      have z14_x4 : u12.frozen? ⟨u6.heap.size, 4, none⟩ = false := CB.frozen r13_x 4
      have f14_x5 : u12.cell? ⟨u6.heap.size, 5, none⟩ = some (.bool false) := CB.cell r13_x 5
      have z14_x5 : u12.frozen? ⟨u6.heap.size, 5, none⟩ = false := CB.frozen r13_x 5
      obtain ⟨V15, hV15⟩ : ∃ V, (((((u12.setCell ⟨u6.heap.size, 0, none⟩ (.int .u8 zme)).setCell ⟨u6.heap.size, 1, none⟩ (.int .i64 zep)).setCell ⟨u6.heap.size, 2, none⟩ (.int .i64 zst)).setCell ⟨u6.heap.size, 3, none⟩ (.int .u8 zto)).setCell ⟨u6.heap.size, 4, none⟩ (.string zcg)).setCell ⟨u6.heap.size, 5, none⟩ (.bool zkp) = V := ⟨_, rfl⟩
      have nV15 : CB V15 (u6.heap.size) 31 #[.int .u8 zme, .int .i64 zep, .int .i64 zst, .int .u8 zto, .string zcg, .bool zkp] := by rw [← hV15]; exact cb_cast (CB.put (CB.put (CB.put (CB.put (CB.put (CB.put r13_x 0 (.int .u8 zme)) 1 (.int .i64 zep)) 2 (.int .i64 zst)) 3 (.int .u8 zto)) 4 (.string zcg)) 5 (.bool zkp)) (by kernel_rfl)
      have mV15_s : CB V15 (w.heap.size) 25 #[.int .u8 me, .int .i64 ep, .int .i64 st, .int .u8 to, .string cg, .bool kp] := by rw [← hV15]; exact (CB.far (CB.far (CB.far (CB.far (CB.far (CB.far r13_s (p := ⟨u6.heap.size, 0, none⟩) neW9_s (.int .u8 zme)) (p := ⟨u6.heap.size, 1, none⟩) neW9_s (.int .i64 zep)) (p := ⟨u6.heap.size, 2, none⟩) neW9_s (.int .i64 zst)) (p := ⟨u6.heap.size, 3, none⟩) neW9_s (.int .u8 zto)) (p := ⟨u6.heap.size, 4, none⟩) neW9_s (.string zcg)) (p := ⟨u6.heap.size, 5, none⟩) neW9_s (.bool zkp))
      have mV15_m : CB V15 (w.heap.size + 1) 27 #[.int .i64 kd, .int .u8 fr, .int .u8 t, .int .i64 e, .string mg] := by rw [← hV15]; exact (CB.far (CB.far (CB.far (CB.far (CB.far (CB.far r13_m (p := ⟨u6.heap.size, 0, none⟩) neW9_m (.int .u8 zme)) (p := ⟨u6.heap.size, 1, none⟩) neW9_m (.int .i64 zep)) (p := ⟨u6.heap.size, 2, none⟩) neW9_m (.int .i64 zst)) (p := ⟨u6.heap.size, 3, none⟩) neW9_m (.int .u8 zto)) (p := ⟨u6.heap.size, 4, none⟩) neW9_m (.string zcg)) (p := ⟨u6.heap.size, 5, none⟩) neW9_m (.bool zkp))
      have oV15 := (Below.setCell (Below.setCell (Below.setCell (Below.setCell (Below.setCell (Below.setCell l13 (p := ⟨u6.heap.size, 0, none⟩) (by have := av_x; dsimp only; omega) (.int .u8 zme)) (p := ⟨u6.heap.size, 1, none⟩) (by have := av_x; dsimp only; omega) (.int .i64 zep)) (p := ⟨u6.heap.size, 2, none⟩) (by have := av_x; dsimp only; omega) (.int .i64 zst)) (p := ⟨u6.heap.size, 3, none⟩) (by have := av_x; dsimp only; omega) (.int .u8 zto)) (p := ⟨u6.heap.size, 4, none⟩) (by have := av_x; dsimp only; omega) (.string zcg)) (p := ⟨u6.heap.size, 5, none⟩) (by have := av_x; dsimp only; omega) (.bool zkp))
      rw [hV15] at oV15
      have HV15 := Lib.hid hV15
      have V15_eq := hV15
      clear hV15
      clear r13_x r13_s r13_m l13
      have q15_z : RS V15 37 mc 5 A n q zr := by rw [← V15_eq]; exact g15_z
      clear g15_z hr
      clear V15_eq
      rw [HV15.out]
      clear f14_x0 z14_x0 f14_x1 z14_x1 f14_x2 z14_x2 f14_x3 z14_x3 f14_x4 z14_x4 f14_x5 z14_x5
      have y16 := Lib.hid (show (fun V : World => V.cell? ⟨w.heap.size, 0, none⟩ = some (.int .u8 me) ∧ V.cell? ⟨w.heap.size, 1, none⟩ = some (.int .i64 ep) ∧ V.cell? ⟨w.heap.size, 2, none⟩ = some (.int .i64 st) ∧ V.cell? ⟨w.heap.size, 3, none⟩ = some (.int .u8 to) ∧ V.cell? ⟨w.heap.size, 4, none⟩ = some (.string cg) ∧ V.cell? ⟨w.heap.size, 5, none⟩ = some (.bool kp) ∧ V.cell? ⟨w.heap.size + 1, 0, none⟩ = some (.int .i64 kd) ∧ V.cell? ⟨w.heap.size + 1, 1, none⟩ = some (.int .u8 fr) ∧ V.cell? ⟨w.heap.size + 1, 2, none⟩ = some (.int .u8 t) ∧ V.cell? ⟨w.heap.size + 1, 3, none⟩ = some (.int .i64 e) ∧ V.cell? ⟨w.heap.size + 1, 4, none⟩ = some (.string mg)) V15 from ⟨CB.cell mV15_s 0, CB.cell mV15_s 1, CB.cell mV15_s 2, CB.cell mV15_s 3, CB.cell mV15_s 4, CB.cell mV15_s 5, CB.cell mV15_m 0, CB.cell mV15_m 1, CB.cell mV15_m 2, CB.cell mV15_m 3, CB.cell mV15_m 4⟩)
      refine hK.out _ _ y16.out (fun hHeld => ?_)
      clear hK K y16
      try simp only [Act.put, List.setIfInBounds_toArray, List.set_cons_zero, List.set_cons_succ]
      refine wpAnyH_takeL (i := 10) (d := some 6) (v := .slice A n q) rfl rfl (by kernel_rfl) (by kernel_rfl) (by kernel_rfl) (fun _ _ _ h => h) (Or.inl ⟨by rfl, ?_⟩) hHeld ?_
      · intro w hSw; (try dsimp only at hSw); go_simp
      try simp only [Act.put, List.setIfInBounds_toArray, List.set_cons_zero, List.set_cons_succ]
      refine wpAnyH_takeL (i := 11) (d := some 7) (v := .int .i64 (ze : Int)) rfl rfl (by kernel_rfl) (by kernel_rfl) (by kernel_rfl) (fun _ _ _ h => h) (Or.inl ⟨by rfl, ?_⟩) hHeld ?_
      · intro w hSw; (try dsimp only at hSw); go_simp
      try simp only [Act.put, List.setIfInBounds_toArray, List.set_cons_zero, List.set_cons_succ]
      refine wpAnyH_done (by kernel_rfl) ?_ _
      have f16_s0 : V15.cell? ⟨w.heap.size, 0, none⟩ = some (.int .u8 me) := CB.cell mV15_s 0
      have f16_s1 : V15.cell? ⟨w.heap.size, 1, none⟩ = some (.int .i64 ep) := CB.cell mV15_s 1
      have f16_s2 : V15.cell? ⟨w.heap.size, 2, none⟩ = some (.int .i64 st) := CB.cell mV15_s 2
      have f16_s3 : V15.cell? ⟨w.heap.size, 3, none⟩ = some (.int .u8 to) := CB.cell mV15_s 3
      have f16_s4 : V15.cell? ⟨w.heap.size, 4, none⟩ = some (.string cg) := CB.cell mV15_s 4
      have f16_s5 : V15.cell? ⟨w.heap.size, 5, none⟩ = some (.bool kp) := CB.cell mV15_s 5
      have f16_m0 : V15.cell? ⟨w.heap.size + 1, 0, none⟩ = some (.int .i64 kd) := CB.cell mV15_m 0
      have f16_m1 : V15.cell? ⟨w.heap.size + 1, 1, none⟩ = some (.int .u8 fr) := CB.cell mV15_m 1
      have f16_m2 : V15.cell? ⟨w.heap.size + 1, 2, none⟩ = some (.int .u8 t) := CB.cell mV15_m 2
      have f16_m3 : V15.cell? ⟨w.heap.size + 1, 3, none⟩ = some (.int .i64 e) := CB.cell mV15_m 3
      have f16_m4 : V15.cell? ⟨w.heap.size + 1, 4, none⟩ = some (.string mg) := CB.cell mV15_m 4
      go_wp2_with fail
      refine (H2 _).mono ?_
      rintro e w17 ⟨B, n', q', rfl, hr', b17⟩
      clear f16_s0 f16_s1 f16_s2 f16_s3 f16_s4 f16_s5 f16_m0 f16_m1 f16_m2 f16_m3 f16_m4
      have q18_z := RS.on q15_z b17
      have r18_s := le_on mV15_s b17
      have r18_m := le_on mV15_m b17
      have r18_x := le_on nV15 b17
      have l18 := le_tr oV15 b17
      clear mV15_s mV15_m nV15 oV15
      clear q15_z
      clear b17
      have av_d : w.heap.size ≤ w17.heap.size := by have := l18.size; omega
      obtain ⟨W19, hW19⟩ : ∃ V, w17.alloc (.cells #[.int .u8 zme, .int .i64 zep, .int .i64 zst, .int .u8 zto, .string zcg, .bool zkp, .slice B n' q', .int .i64 (ze : Int)] 40) = V := ⟨_, rfl⟩
      have zW19 : w17.heap.size = w17.heap.size := by rfl
      have nW19 : CB W19 (w17.heap.size) 40 #[.int .u8 zme, .int .i64 zep, .int .i64 zst, .int .u8 zto, .string zcg, .bool zkp, .slice B n' q', .int .i64 (ze : Int)] := by rw [← zW19, ← hW19]; exact CB.new _ _ _
      have bW19 : Below w17.heap.size w17 W19 := by rw [← hW19]; exact le_al _ _
      have neW19_s : w.heap.size ≠ w17.heap.size := by have := CB.lt r18_s; omega
      have neW19_m : w.heap.size + 1 ≠ w17.heap.size := by have := CB.lt r18_m; omega
      have neW19_x : u6.heap.size ≠ w17.heap.size := by have := CB.lt r18_x; omega
      have HW19 := Lib.hid hW19
      clear hW19 zW19
      have q20_z := RS.on q18_z bW19
      have q20_y := RS.on hr' bW19
      have r20_s := le_on r18_s bW19
      have r20_m := le_on r18_m bW19
      have r20_x := le_on r18_x bW19
      have l20 := le_tr l18 bW19
      clear r18_s r18_m r18_x l18
      clear q18_z hr'
      clear bW19
      go_wp2_with fail
      rw [HW19.out]
      have y21 := Lib.hid (show (fun V : World => V.cell? ⟨u6.heap.size, 0, none⟩ = some (.int .u8 zme) ∧ V.cell? ⟨u6.heap.size, 1, none⟩ = some (.int .i64 zep) ∧ V.cell? ⟨u6.heap.size, 2, none⟩ = some (.int .i64 zst) ∧ V.cell? ⟨u6.heap.size, 3, none⟩ = some (.int .u8 zto) ∧ V.cell? ⟨u6.heap.size, 4, none⟩ = some (.string zcg) ∧ V.cell? ⟨u6.heap.size, 5, none⟩ = some (.bool zkp) ∧ V.cell? ⟨w17.heap.size, 0, none⟩ = some (.int .u8 zme) ∧ V.cell? ⟨w17.heap.size, 1, none⟩ = some (.int .i64 zep) ∧ V.cell? ⟨w17.heap.size, 2, none⟩ = some (.int .i64 zst) ∧ V.cell? ⟨w17.heap.size, 3, none⟩ = some (.int .u8 zto) ∧ V.cell? ⟨w17.heap.size, 4, none⟩ = some (.string zcg) ∧ V.cell? ⟨w17.heap.size, 5, none⟩ = some (.bool zkp) ∧ V.cell? ⟨w17.heap.size, 6, none⟩ = some (.slice B n' q') ∧ V.cell? ⟨w17.heap.size, 7, none⟩ = some (.int .i64 (ze : Int))) W19 from ⟨CB.cell r20_x 0, CB.cell r20_x 1, CB.cell r20_x 2, CB.cell r20_x 3, CB.cell r20_x 4, CB.cell r20_x 5, CB.cell nW19 0, CB.cell nW19 1, CB.cell nW19 2, CB.cell nW19 3, CB.cell nW19 4, CB.cell nW19 5, CB.cell nW19 6, CB.cell nW19 7⟩)
      refine wp_region_held_drew (S := (fun V : World => V.cell? ⟨u6.heap.size, 0, none⟩ = some (.int .u8 zme) ∧ V.cell? ⟨u6.heap.size, 1, none⟩ = some (.int .i64 zep) ∧ V.cell? ⟨u6.heap.size, 2, none⟩ = some (.int .i64 zst) ∧ V.cell? ⟨u6.heap.size, 3, none⟩ = some (.int .u8 zto) ∧ V.cell? ⟨u6.heap.size, 4, none⟩ = some (.string zcg) ∧ V.cell? ⟨u6.heap.size, 5, none⟩ = some (.bool zkp) ∧ V.cell? ⟨w17.heap.size, 0, none⟩ = some (.int .u8 zme) ∧ V.cell? ⟨w17.heap.size, 1, none⟩ = some (.int .i64 zep) ∧ V.cell? ⟨w17.heap.size, 2, none⟩ = some (.int .i64 zst) ∧ V.cell? ⟨w17.heap.size, 3, none⟩ = some (.int .u8 zto) ∧ V.cell? ⟨w17.heap.size, 4, none⟩ = some (.string zcg) ∧ V.cell? ⟨w17.heap.size, 5, none⟩ = some (.bool zkp) ∧ V.cell? ⟨w17.heap.size, 6, none⟩ = some (.slice B n' q') ∧ V.cell? ⟨w17.heap.size, 7, none⟩ = some (.int .i64 (ze : Int)))) (by kernel_rfl) y21.out (fun hHeld => ?_)
      obtain ⟨D21, hD21⟩ : ∃ V, W19.drew = V := ⟨_, rfl⟩
      have b21 : Below W19.heap.size W19 D21 := by rw [← hD21]; exact le_dr (Below.refl _ _)
      rw [hD21] at hHeld ⊢
      clear hD21
      have q22_z := RS.on q20_z b21
      have q22_y := RS.on q20_y b21
      have r22_s := le_on r20_s b21
      have r22_m := le_on r20_m b21
      have r22_x := le_on r20_x b21
      have r22_d := le_on nW19 b21
      have l22 := le_tr l20 b21
      clear r20_s r20_m r20_x nW19 l20
      clear q20_z q20_y
      clear b21
      refine wpAnyH_takeL (i := 0) (d := some 32) (v := .agg #[.int .u8 zme, .int .i64 zep, .int .i64 zst, .int .u8 zto, .string zcg, .bool zkp]) rfl rfl (by kernel_rfl) (by kernel_rfl) (by kernel_rfl) (fun _ _ _ h => h) (Or.inl ⟨by rfl, ?_⟩) hHeld ?_
      · intro w hSw; (try dsimp only at hSw); go_simp
      try simp only [Act.put, List.setIfInBounds_toArray, List.set_cons_zero, List.set_cons_succ]
      refine wpAnyH_takeL (i := 2) (d := some 34) (v := .pointer (some ⟨w17.heap.size, 0, none⟩)) rfl rfl (by kernel_rfl) (by kernel_rfl) (by kernel_rfl) (fun _ _ _ h => h) (Or.inl ⟨by rfl, ?_⟩) hHeld ?_
      · intro w hSw; (try dsimp only at hSw); go_simp
      try simp only [Act.put, List.setIfInBounds_toArray, List.set_cons_zero, List.set_cons_succ]
      refine wpAnyH_takeL (i := 3) (d := some 35) (v := .agg #[.int .u8 zme, .int .i64 zep, .int .i64 zst, .int .u8 zto, .string zcg, .bool zkp]) rfl rfl (by kernel_rfl) (by kernel_rfl) (by kernel_rfl) (fun _ _ _ h => h) (Or.inl ⟨by rfl, ?_⟩) hHeld ?_
      · intro w hSw; (try dsimp only at hSw); go_simp
      try simp only [Act.put, List.setIfInBounds_toArray, List.set_cons_zero, List.set_cons_succ]
      refine wpAnyH_ready (rs := [1]) (by kernel_rfl) (by simp) ?_
      refine AllReadyH.cons rfl (fun K hK => ?_) AllReadyH.nil
      go_simp
      refine (O1 _).mono ?_
      rintro e u23 ⟨rfl, b23⟩
      have q24_z := RS.on q22_z b23
      have q24_y := RS.on q22_y b23
      have r24_s := le_on r22_s b23
      have r24_m := le_on r22_m b23
      have r24_x := le_on r22_x b23
      have r24_d := le_on r22_d b23
      have l24 := le_tr l22 b23
      clear r22_s r22_m r22_x r22_d l22
      clear q22_z q22_y
      clear b23
      go_wp2_with fail
      have y25 := Lib.hid (show (fun V : World => V.cell? ⟨u6.heap.size, 0, none⟩ = some (.int .u8 zme) ∧ V.cell? ⟨u6.heap.size, 1, none⟩ = some (.int .i64 zep) ∧ V.cell? ⟨u6.heap.size, 2, none⟩ = some (.int .i64 zst) ∧ V.cell? ⟨u6.heap.size, 3, none⟩ = some (.int .u8 zto) ∧ V.cell? ⟨u6.heap.size, 4, none⟩ = some (.string zcg) ∧ V.cell? ⟨u6.heap.size, 5, none⟩ = some (.bool zkp) ∧ V.cell? ⟨w17.heap.size, 0, none⟩ = some (.int .u8 zme) ∧ V.cell? ⟨w17.heap.size, 1, none⟩ = some (.int .i64 zep) ∧ V.cell? ⟨w17.heap.size, 2, none⟩ = some (.int .i64 zst) ∧ V.cell? ⟨w17.heap.size, 3, none⟩ = some (.int .u8 zto) ∧ V.cell? ⟨w17.heap.size, 4, none⟩ = some (.string zcg) ∧ V.cell? ⟨w17.heap.size, 5, none⟩ = some (.bool zkp) ∧ V.cell? ⟨w17.heap.size, 6, none⟩ = some (.slice B n' q') ∧ V.cell? ⟨w17.heap.size, 7, none⟩ = some (.int .i64 (ze : Int))) u23 from ⟨CB.cell r24_x 0, CB.cell r24_x 1, CB.cell r24_x 2, CB.cell r24_x 3, CB.cell r24_x 4, CB.cell r24_x 5, CB.cell r24_d 0, CB.cell r24_d 1, CB.cell r24_d 2, CB.cell r24_d 3, CB.cell r24_d 4, CB.cell r24_d 5, CB.cell r24_d 6, CB.cell r24_d 7⟩)
      refine hK.out _ _ y25.out (fun hHeld => ?_)
      clear hK K y25
      try simp only [Act.put, List.setIfInBounds_toArray, List.set_cons_zero, List.set_cons_succ]
      refine wpAnyH_takeL (i := 4) (d := some 36) (v := .bool true) rfl rfl (by kernel_rfl) (by kernel_rfl) (by kernel_rfl) (fun _ _ _ h => h) (Or.inl ⟨by rfl, ?_⟩) hHeld ?_
      · intro w hSw; (try dsimp only at hSw); go_simp
      try simp only [Act.put, List.setIfInBounds_toArray, List.set_cons_zero, List.set_cons_succ]
      refine wpAnyH_takeL (i := 5) (d := some 37) (v := .bool true) rfl rfl (by kernel_rfl) (by kernel_rfl) (by kernel_rfl) (fun _ _ _ h => h) (Or.inl ⟨by rfl, ?_⟩) hHeld ?_
      · intro w hSw; (try dsimp only at hSw); go_simp
      try simp only [Act.put, List.setIfInBounds_toArray, List.set_cons_zero, List.set_cons_succ]
      refine wpAnyH_takeL (i := 6) (d := some 38) (v := .slice A n q) rfl rfl (by kernel_rfl) (by kernel_rfl) (by kernel_rfl) (fun _ _ _ h => h) (Or.inl ⟨by rfl, ?_⟩) hHeld ?_
      · intro w hSw; (try dsimp only at hSw); go_simp
      try simp only [Act.put, List.setIfInBounds_toArray, List.set_cons_zero, List.set_cons_succ]
      refine wpAnyH_takeL (i := 7) (d := some 39) (v := .pointer (some ⟨w17.heap.size, 6, none⟩)) rfl rfl (by kernel_rfl) (by kernel_rfl) (by kernel_rfl) (fun _ _ _ h => h) (Or.inl ⟨by rfl, ?_⟩) hHeld ?_
      · intro w hSw; (try dsimp only at hSw); go_simp
      try simp only [Act.put, List.setIfInBounds_toArray, List.set_cons_zero, List.set_cons_succ]
      refine wpAnyH_takeL (i := 8) (d := some 40) (v := .slice B n' q') rfl rfl (by kernel_rfl) (by kernel_rfl) (by kernel_rfl) (fun _ _ _ h => h) (Or.inl ⟨by rfl, ?_⟩) hHeld ?_
      · intro w hSw; (try dsimp only at hSw); go_simp
      try simp only [Act.put, List.setIfInBounds_toArray, List.set_cons_zero, List.set_cons_succ]
      refine wpAnyH_ready (rs := [9]) (by kernel_rfl) (by simp) ?_
      refine AllReadyH.cons rfl (fun K hK => ?_) AllReadyH.nil
      go_simp
      refine (hsame_c A B n q n' q' zr _ (RS.rr q24_z) (RS.rr q24_y)).mono ?_
      rintro e u26 ⟨rfl, b26⟩
      have q27_z := RS.on q24_z b26
      have q27_y := RS.on q24_y b26
      have r27_s := le_on r24_s b26
      have r27_m := le_on r24_m b26
      have r27_x := le_on r24_x b26
      have r27_d := le_on r24_d b26
      have l27 := le_tr l24 b26
      clear r24_s r24_m r24_x r24_d l24
      clear q24_z q24_y
      clear b26
      go_wp2_with fail
      have y28 := Lib.hid (show (fun V : World => V.cell? ⟨u6.heap.size, 0, none⟩ = some (.int .u8 zme) ∧ V.cell? ⟨u6.heap.size, 1, none⟩ = some (.int .i64 zep) ∧ V.cell? ⟨u6.heap.size, 2, none⟩ = some (.int .i64 zst) ∧ V.cell? ⟨u6.heap.size, 3, none⟩ = some (.int .u8 zto) ∧ V.cell? ⟨u6.heap.size, 4, none⟩ = some (.string zcg) ∧ V.cell? ⟨u6.heap.size, 5, none⟩ = some (.bool zkp) ∧ V.cell? ⟨w17.heap.size, 0, none⟩ = some (.int .u8 zme) ∧ V.cell? ⟨w17.heap.size, 1, none⟩ = some (.int .i64 zep) ∧ V.cell? ⟨w17.heap.size, 2, none⟩ = some (.int .i64 zst) ∧ V.cell? ⟨w17.heap.size, 3, none⟩ = some (.int .u8 zto) ∧ V.cell? ⟨w17.heap.size, 4, none⟩ = some (.string zcg) ∧ V.cell? ⟨w17.heap.size, 5, none⟩ = some (.bool zkp) ∧ V.cell? ⟨w17.heap.size, 6, none⟩ = some (.slice B n' q') ∧ V.cell? ⟨w17.heap.size, 7, none⟩ = some (.int .i64 (ze : Int))) u26 from ⟨CB.cell r27_x 0, CB.cell r27_x 1, CB.cell r27_x 2, CB.cell r27_x 3, CB.cell r27_x 4, CB.cell r27_x 5, CB.cell r27_d 0, CB.cell r27_d 1, CB.cell r27_d 2, CB.cell r27_d 3, CB.cell r27_d 4, CB.cell r27_d 5, CB.cell r27_d 6, CB.cell r27_d 7⟩)
      refine hK.out _ _ y28.out (fun hHeld => ?_)
      clear hK K y28
      try simp only [Act.put, List.setIfInBounds_toArray, List.set_cons_zero, List.set_cons_succ]
      refine wpAnyH_takeL (i := 10) (d := some 42) (v := .bool true) rfl rfl (by kernel_rfl) (by kernel_rfl) (by kernel_rfl) (fun _ _ _ h => h) (Or.inl ⟨by rfl, ?_⟩) hHeld ?_
      · intro w hSw; (try dsimp only at hSw); go_simp
      try simp only [Act.put, List.setIfInBounds_toArray, List.set_cons_zero, List.set_cons_succ]
      refine wpAnyH_takeL (i := 11) (d := some 43) (v := .bool true) rfl rfl (by kernel_rfl) (by kernel_rfl) (by kernel_rfl) (fun _ _ _ h => h) (Or.inl ⟨by rfl, ?_⟩) hHeld ?_
      · intro w hSw; (try dsimp only at hSw); go_simp
      try simp only [Act.put, List.setIfInBounds_toArray, List.set_cons_zero, List.set_cons_succ]
      refine wpAnyH_takeL (i := 12) (d := some 44) (v := .int .i64 (ze : Int)) rfl rfl (by kernel_rfl) (by kernel_rfl) (by kernel_rfl) (fun _ _ _ h => h) (Or.inl ⟨by rfl, ?_⟩) hHeld ?_
      · intro w hSw; (try dsimp only at hSw); go_simp
      try simp only [Act.put, List.setIfInBounds_toArray, List.set_cons_zero, List.set_cons_succ]
      refine wpAnyH_takeL (i := 13) (d := some 45) (v := .pointer (some ⟨w17.heap.size, 7, none⟩)) rfl rfl (by kernel_rfl) (by kernel_rfl) (by kernel_rfl) (fun _ _ _ h => h) (Or.inl ⟨by rfl, ?_⟩) hHeld ?_
      · intro w hSw; (try dsimp only at hSw); go_simp
      try simp only [Act.put, List.setIfInBounds_toArray, List.set_cons_zero, List.set_cons_succ]
      refine wpAnyH_takeL (i := 14) (d := some 46) (v := .int .i64 (ze : Int)) rfl rfl (by kernel_rfl) (by kernel_rfl) (by kernel_rfl) (fun _ _ _ h => h) (Or.inl ⟨by rfl, ?_⟩) hHeld ?_
      · intro w hSw; (try dsimp only at hSw); go_simp
      try simp only [Act.put, List.setIfInBounds_toArray, List.set_cons_zero, List.set_cons_succ]
      refine wpAnyH_takeL (i := 15) (d := some 47) (v := .bool true) rfl rfl (by kernel_rfl) (by kernel_rfl) (by kernel_rfl) (fun _ _ _ h => h) (Or.inl ⟨by rfl, ?_⟩) hHeld ?_
      · intro w hSw; (try dsimp only at hSw); go_simp
      try simp only [Act.put, List.setIfInBounds_toArray, List.set_cons_zero, List.set_cons_succ]
      refine wpAnyH_takeL (i := 16) (d := some 48) (v := .bool true) rfl rfl (by kernel_rfl) (by kernel_rfl) (by kernel_rfl) (fun _ _ _ h => h) (Or.inl ⟨by rfl, ?_⟩) hHeld ?_
      · intro w hSw; (try dsimp only at hSw); go_simp
      try simp only [Act.put, List.setIfInBounds_toArray, List.set_cons_zero, List.set_cons_succ]
      refine wpAnyH_takeL (i := 17) (d := some 4) (v := .bool true) rfl rfl (by kernel_rfl) (by kernel_rfl) (by kernel_rfl) (fun _ _ _ h => h) (Or.inl ⟨by rfl, ?_⟩) hHeld ?_
      · intro w hSw; (try dsimp only at hSw); go_simp
      try simp only [Act.put, List.setIfInBounds_toArray, List.set_cons_zero, List.set_cons_succ]
      refine wpAnyH_done (by kernel_rfl) ?_ _
      go_wp2_with fail
      go_ret
      exact ⟨rfl, l27⟩
  · skip
    go_simp
    go_wp2_with fail
    have av_x : w.heap.size ≤ D4.heap.size := by have := l5.size; omega
    obtain ⟨W6, hW6⟩ : ∃ V, D4.alloc (.cells #[.int .u8 0, .int .i64 0, .int .i64 0, .int .u8 0, .string ⟨#[]⟩, .bool false] 31) = V := ⟨_, rfl⟩
    have zW6 : D4.heap.size = D4.heap.size := by rfl
    have nW6 : CB W6 (D4.heap.size) 31 #[.int .u8 0, .int .i64 0, .int .i64 0, .int .u8 0, .string ⟨#[]⟩, .bool false] := by rw [← zW6, ← hW6]; exact CB.new _ _ _
    have bW6 : Below D4.heap.size D4 W6 := by rw [← hW6]; exact le_al _ _
    have neW6_s : w.heap.size ≠ D4.heap.size := by have := CB.lt r5_s; omega
    have neW6_m : w.heap.size + 1 ≠ D4.heap.size := by have := CB.lt r5_m; omega
    have HW6 := Lib.hid hW6
    clear hW6 zW6
    have r7_s := le_on r5_s bW6
    have r7_m := le_on r5_m bW6
    have l7 := le_tr l5 bW6
    clear r5_s r5_m l5
    clear bW6
    rw [HW6.out]
    have y8 := Lib.hid (show (fun V : World => V.cell? ⟨w.heap.size, 0, none⟩ = some (.int .u8 me) ∧ V.cell? ⟨w.heap.size, 1, none⟩ = some (.int .i64 ep) ∧ V.cell? ⟨w.heap.size, 2, none⟩ = some (.int .i64 st) ∧ V.cell? ⟨w.heap.size, 3, none⟩ = some (.int .u8 to) ∧ V.cell? ⟨w.heap.size, 4, none⟩ = some (.string cg) ∧ V.cell? ⟨w.heap.size, 5, none⟩ = some (.bool kp) ∧ V.cell? ⟨w.heap.size + 1, 0, none⟩ = some (.int .i64 kd) ∧ V.cell? ⟨w.heap.size + 1, 1, none⟩ = some (.int .u8 fr) ∧ V.cell? ⟨w.heap.size + 1, 2, none⟩ = some (.int .u8 t) ∧ V.cell? ⟨w.heap.size + 1, 3, none⟩ = some (.int .i64 e) ∧ V.cell? ⟨w.heap.size + 1, 4, none⟩ = some (.string mg)) W6 from ⟨CB.cell r7_s 0, CB.cell r7_s 1, CB.cell r7_s 2, CB.cell r7_s 3, CB.cell r7_s 4, CB.cell r7_s 5, CB.cell r7_m 0, CB.cell r7_m 1, CB.cell r7_m 2, CB.cell r7_m 3, CB.cell r7_m 4⟩)
    refine hK.out _ _ y8.out (fun hHeld => ?_)
    clear hK K y8
    try simp only [Act.put, List.setIfInBounds_toArray, List.set_cons_zero, List.set_cons_succ]
    refine wpAnyH_ready (rs := [1]) (by kernel_rfl) (by simp) ?_
    refine AllReadyH.cons rfl (fun K hK => ?_) AllReadyH.nil
    go_simp
    refine (theirs_c me ep st to cg kp _).mono ?_
    rintro e u9 ⟨rfl, b9⟩
    have r10_s := le_on r7_s b9
    have r10_m := le_on r7_m b9
    have r10_x := le_on nW6 b9
    have l10 := le_tr l7 b9
    clear r7_s r7_m nW6 l7
    clear b9
    go_wp2_with fail
    have y11 := Lib.hid (show (fun V : World => V.cell? ⟨w.heap.size, 0, none⟩ = some (.int .u8 me) ∧ V.cell? ⟨w.heap.size, 1, none⟩ = some (.int .i64 ep) ∧ V.cell? ⟨w.heap.size, 2, none⟩ = some (.int .i64 st) ∧ V.cell? ⟨w.heap.size, 3, none⟩ = some (.int .u8 to) ∧ V.cell? ⟨w.heap.size, 4, none⟩ = some (.string cg) ∧ V.cell? ⟨w.heap.size, 5, none⟩ = some (.bool kp) ∧ V.cell? ⟨w.heap.size + 1, 0, none⟩ = some (.int .i64 kd) ∧ V.cell? ⟨w.heap.size + 1, 1, none⟩ = some (.int .u8 fr) ∧ V.cell? ⟨w.heap.size + 1, 2, none⟩ = some (.int .u8 t) ∧ V.cell? ⟨w.heap.size + 1, 3, none⟩ = some (.int .i64 e) ∧ V.cell? ⟨w.heap.size + 1, 4, none⟩ = some (.string mg)) u9 from ⟨CB.cell r10_s 0, CB.cell r10_s 1, CB.cell r10_s 2, CB.cell r10_s 3, CB.cell r10_s 4, CB.cell r10_s 5, CB.cell r10_m 0, CB.cell r10_m 1, CB.cell r10_m 2, CB.cell r10_m 3, CB.cell r10_m 4⟩)
    refine hK.out _ _ y11.out (fun hHeld => ?_)
    clear hK K y11
    try simp only [Act.put, List.setIfInBounds_toArray, List.set_cons_zero, List.set_cons_succ]
    refine wpAnyH_ready (rs := [3]) (by kernel_rfl) (by simp) ?_
    refine AllReadyH.cons rfl (fun K hK => ?_) AllReadyH.nil
    go_simp
    refine (H1 _).mono ?_
    rintro e u12 ⟨A, n, q, rfl, hr, b12⟩
    have r13_s := le_on r10_s b12
    have r13_m := le_on r10_m b12
    have r13_x := le_on r10_x b12
    have l13 := le_tr l10 b12
    clear r10_s r10_m r10_x l10
    clear b12
    go_wp2_with fail
    have y14 := Lib.hid (show (fun V : World => V.cell? ⟨w.heap.size, 0, none⟩ = some (.int .u8 me) ∧ V.cell? ⟨w.heap.size, 1, none⟩ = some (.int .i64 ep) ∧ V.cell? ⟨w.heap.size, 2, none⟩ = some (.int .i64 st) ∧ V.cell? ⟨w.heap.size, 3, none⟩ = some (.int .u8 to) ∧ V.cell? ⟨w.heap.size, 4, none⟩ = some (.string cg) ∧ V.cell? ⟨w.heap.size, 5, none⟩ = some (.bool kp) ∧ V.cell? ⟨w.heap.size + 1, 0, none⟩ = some (.int .i64 kd) ∧ V.cell? ⟨w.heap.size + 1, 1, none⟩ = some (.int .u8 fr) ∧ V.cell? ⟨w.heap.size + 1, 2, none⟩ = some (.int .u8 t) ∧ V.cell? ⟨w.heap.size + 1, 3, none⟩ = some (.int .i64 e) ∧ V.cell? ⟨w.heap.size + 1, 4, none⟩ = some (.string mg)) u12 from ⟨CB.cell r13_s 0, CB.cell r13_s 1, CB.cell r13_s 2, CB.cell r13_s 3, CB.cell r13_s 4, CB.cell r13_s 5, CB.cell r13_m 0, CB.cell r13_m 1, CB.cell r13_m 2, CB.cell r13_m 3, CB.cell r13_m 4⟩)
    refine hK.out _ _ y14.out (fun hHeld => ?_)
    clear hK K y14
    try simp only [Act.put, List.setIfInBounds_toArray, List.set_cons_zero, List.set_cons_succ]
    refine wpAnyH_takeL (i := 4) (d := some 21) (v := .tuple #[.agg #[.int .u8 zme, .int .i64 zep, .int .i64 zst, .int .u8 zto, .string zcg, .bool zkp], .slice A n q, .int .i64 (ze : Int)]) rfl rfl (by kernel_rfl) (by kernel_rfl) (by kernel_rfl) (fun _ _ _ h => h) (Or.inl ⟨by rfl, ?_⟩) hHeld ?_
    · intro w hSw; (try dsimp only at hSw); go_simp
    try simp only [Act.put, List.setIfInBounds_toArray, List.set_cons_zero, List.set_cons_succ]
    refine wpAnyH_takeL (i := 5) (d := some 26) (v := .agg #[.int .u8 zme, .int .i64 zep, .int .i64 zst, .int .u8 zto, .string zcg, .bool zkp]) rfl rfl (by kernel_rfl) (by kernel_rfl) (by kernel_rfl) (fun _ _ _ h => h) (Or.inl ⟨by rfl, ?_⟩) hHeld ?_
    · intro w hSw; (try dsimp only at hSw); go_simp
    try simp only [Act.put, List.setIfInBounds_toArray, List.set_cons_zero, List.set_cons_succ]
    refine wpAnyH_takeL (i := 6) (d := some 27) (v := .slice A n q) rfl rfl (by kernel_rfl) (by kernel_rfl) (by kernel_rfl) (fun _ _ _ h => h) (Or.inl ⟨by rfl, ?_⟩) hHeld ?_
    · intro w hSw; (try dsimp only at hSw); go_simp
    try simp only [Act.put, List.setIfInBounds_toArray, List.set_cons_zero, List.set_cons_succ]
    refine wpAnyH_takeL (i := 7) (d := some 28) (v := .int .i64 (ze : Int)) rfl rfl (by kernel_rfl) (by kernel_rfl) (by kernel_rfl) (fun _ _ _ h => h) (Or.inl ⟨by rfl, ?_⟩) hHeld ?_
    · intro w hSw; (try dsimp only at hSw); go_simp
    try simp only [Act.put, List.setIfInBounds_toArray, List.set_cons_zero, List.set_cons_succ]
    refine wpAnyH_ready (rs := [9]) (by kernel_rfl) (by simp) ?_
    refine AllReadyH.cons rfl (fun K hK => ?_) AllReadyH.nil
    have f14_x0 : u12.cell? ⟨D4.heap.size, 0, none⟩ = some (.int .u8 0) := CB.cell r13_x 0
    have z14_x0 : u12.frozen? ⟨D4.heap.size, 0, none⟩ = false := CB.frozen r13_x 0
    have f14_x1 : u12.cell? ⟨D4.heap.size, 1, none⟩ = some (.int .i64 0) := CB.cell r13_x 1
    have z14_x1 : u12.frozen? ⟨D4.heap.size, 1, none⟩ = false := CB.frozen r13_x 1
    have f14_x2 : u12.cell? ⟨D4.heap.size, 2, none⟩ = some (.int .i64 0) := CB.cell r13_x 2
    have z14_x2 : u12.frozen? ⟨D4.heap.size, 2, none⟩ = false := CB.frozen r13_x 2
    have f14_x3 : u12.cell? ⟨D4.heap.size, 3, none⟩ = some (.int .u8 0) := CB.cell r13_x 3
    have z14_x3 : u12.frozen? ⟨D4.heap.size, 3, none⟩ = false := CB.frozen r13_x 3
    have f14_x4 : u12.cell? ⟨D4.heap.size, 4, none⟩ = some (.string ⟨#[]⟩) := CB.cell r13_x 4
    have z14_x4 : u12.frozen? ⟨D4.heap.size, 4, none⟩ = false := CB.frozen r13_x 4
    have f14_x5 : u12.cell? ⟨D4.heap.size, 5, none⟩ = some (.bool false) := CB.cell r13_x 5
    have z14_x5 : u12.frozen? ⟨D4.heap.size, 5, none⟩ = false := CB.frozen r13_x 5
    go_simp
    go_wp2_with fail
    have g15_z := (RS.far (RS.far (RS.far (RS.far (RS.far (RS.far hr r13_x (by decide) 0 (.int .u8 zme)) (CB.put r13_x 0 (.int .u8 zme)) (by decide) 1 (.int .i64 zep)) (CB.put (CB.put r13_x 0 (.int .u8 zme)) 1 (.int .i64 zep)) (by decide) 2 (.int .i64 zst)) (CB.put (CB.put (CB.put r13_x 0 (.int .u8 zme)) 1 (.int .i64 zep)) 2 (.int .i64 zst)) (by decide) 3 (.int .u8 zto)) (CB.put (CB.put (CB.put (CB.put r13_x 0 (.int .u8 zme)) 1 (.int .i64 zep)) 2 (.int .i64 zst)) 3 (.int .u8 zto)) (by decide) 4 (.string zcg)) (CB.put (CB.put (CB.put (CB.put (CB.put r13_x 0 (.int .u8 zme)) 1 (.int .i64 zep)) 2 (.int .i64 zst)) 3 (.int .u8 zto)) 4 (.string zcg)) (by decide) 5 (.bool zkp))
    have f14_x0 : u12.cell? ⟨D4.heap.size, 0, none⟩ = some (.int .u8 0) := CB.cell r13_x 0
    have z14_x0 : u12.frozen? ⟨D4.heap.size, 0, none⟩ = false := CB.frozen r13_x 0
    have f14_x1 : u12.cell? ⟨D4.heap.size, 1, none⟩ = some (.int .i64 0) := CB.cell r13_x 1
    have z14_x1 : u12.frozen? ⟨D4.heap.size, 1, none⟩ = false := CB.frozen r13_x 1
    have f14_x2 : u12.cell? ⟨D4.heap.size, 2, none⟩ = some (.int .i64 0) := CB.cell r13_x 2
    have z14_x2 : u12.frozen? ⟨D4.heap.size, 2, none⟩ = false := CB.frozen r13_x 2
    have f14_x3 : u12.cell? ⟨D4.heap.size, 3, none⟩ = some (.int .u8 0) := CB.cell r13_x 3
    have z14_x3 : u12.frozen? ⟨D4.heap.size, 3, none⟩ = false := CB.frozen r13_x 3
    have f14_x4 : u12.cell? ⟨D4.heap.size, 4, none⟩ = some (.string ⟨#[]⟩) := CB.cell r13_x 4
    have z14_x4 : u12.frozen? ⟨D4.heap.size, 4, none⟩ = false := CB.frozen r13_x 4
    have f14_x5 : u12.cell? ⟨D4.heap.size, 5, none⟩ = some (.bool false) := CB.cell r13_x 5
    have z14_x5 : u12.frozen? ⟨D4.heap.size, 5, none⟩ = false := CB.frozen r13_x 5
    obtain ⟨V15, hV15⟩ : ∃ V, (((((u12.setCell ⟨D4.heap.size, 0, none⟩ (.int .u8 zme)).setCell ⟨D4.heap.size, 1, none⟩ (.int .i64 zep)).setCell ⟨D4.heap.size, 2, none⟩ (.int .i64 zst)).setCell ⟨D4.heap.size, 3, none⟩ (.int .u8 zto)).setCell ⟨D4.heap.size, 4, none⟩ (.string zcg)).setCell ⟨D4.heap.size, 5, none⟩ (.bool zkp) = V := ⟨_, rfl⟩
    have nV15 : CB V15 (D4.heap.size) 31 #[.int .u8 zme, .int .i64 zep, .int .i64 zst, .int .u8 zto, .string zcg, .bool zkp] := by rw [← hV15]; exact cb_cast (CB.put (CB.put (CB.put (CB.put (CB.put (CB.put r13_x 0 (.int .u8 zme)) 1 (.int .i64 zep)) 2 (.int .i64 zst)) 3 (.int .u8 zto)) 4 (.string zcg)) 5 (.bool zkp)) (by kernel_rfl)
    have mV15_s : CB V15 (w.heap.size) 25 #[.int .u8 me, .int .i64 ep, .int .i64 st, .int .u8 to, .string cg, .bool kp] := by rw [← hV15]; exact (CB.far (CB.far (CB.far (CB.far (CB.far (CB.far r13_s (p := ⟨D4.heap.size, 0, none⟩) neW6_s (.int .u8 zme)) (p := ⟨D4.heap.size, 1, none⟩) neW6_s (.int .i64 zep)) (p := ⟨D4.heap.size, 2, none⟩) neW6_s (.int .i64 zst)) (p := ⟨D4.heap.size, 3, none⟩) neW6_s (.int .u8 zto)) (p := ⟨D4.heap.size, 4, none⟩) neW6_s (.string zcg)) (p := ⟨D4.heap.size, 5, none⟩) neW6_s (.bool zkp))
    have mV15_m : CB V15 (w.heap.size + 1) 27 #[.int .i64 kd, .int .u8 fr, .int .u8 t, .int .i64 e, .string mg] := by rw [← hV15]; exact (CB.far (CB.far (CB.far (CB.far (CB.far (CB.far r13_m (p := ⟨D4.heap.size, 0, none⟩) neW6_m (.int .u8 zme)) (p := ⟨D4.heap.size, 1, none⟩) neW6_m (.int .i64 zep)) (p := ⟨D4.heap.size, 2, none⟩) neW6_m (.int .i64 zst)) (p := ⟨D4.heap.size, 3, none⟩) neW6_m (.int .u8 zto)) (p := ⟨D4.heap.size, 4, none⟩) neW6_m (.string zcg)) (p := ⟨D4.heap.size, 5, none⟩) neW6_m (.bool zkp))
    have oV15 := (Below.setCell (Below.setCell (Below.setCell (Below.setCell (Below.setCell (Below.setCell l13 (p := ⟨D4.heap.size, 0, none⟩) (by have := av_x; dsimp only; omega) (.int .u8 zme)) (p := ⟨D4.heap.size, 1, none⟩) (by have := av_x; dsimp only; omega) (.int .i64 zep)) (p := ⟨D4.heap.size, 2, none⟩) (by have := av_x; dsimp only; omega) (.int .i64 zst)) (p := ⟨D4.heap.size, 3, none⟩) (by have := av_x; dsimp only; omega) (.int .u8 zto)) (p := ⟨D4.heap.size, 4, none⟩) (by have := av_x; dsimp only; omega) (.string zcg)) (p := ⟨D4.heap.size, 5, none⟩) (by have := av_x; dsimp only; omega) (.bool zkp))
    rw [hV15] at oV15
    have HV15 := Lib.hid hV15
    have V15_eq := hV15
    clear hV15
    clear r13_x r13_s r13_m l13
    have q15_z : RS V15 37 mc 5 A n q zr := by rw [← V15_eq]; exact g15_z
    clear g15_z hr
    clear V15_eq
    rw [HV15.out]
    clear f14_x0 z14_x0 f14_x1 z14_x1 f14_x2 z14_x2 f14_x3 z14_x3 f14_x4 z14_x4 f14_x5 z14_x5
    have y16 := Lib.hid (show (fun V : World => V.cell? ⟨w.heap.size, 0, none⟩ = some (.int .u8 me) ∧ V.cell? ⟨w.heap.size, 1, none⟩ = some (.int .i64 ep) ∧ V.cell? ⟨w.heap.size, 2, none⟩ = some (.int .i64 st) ∧ V.cell? ⟨w.heap.size, 3, none⟩ = some (.int .u8 to) ∧ V.cell? ⟨w.heap.size, 4, none⟩ = some (.string cg) ∧ V.cell? ⟨w.heap.size, 5, none⟩ = some (.bool kp) ∧ V.cell? ⟨w.heap.size + 1, 0, none⟩ = some (.int .i64 kd) ∧ V.cell? ⟨w.heap.size + 1, 1, none⟩ = some (.int .u8 fr) ∧ V.cell? ⟨w.heap.size + 1, 2, none⟩ = some (.int .u8 t) ∧ V.cell? ⟨w.heap.size + 1, 3, none⟩ = some (.int .i64 e) ∧ V.cell? ⟨w.heap.size + 1, 4, none⟩ = some (.string mg)) V15 from ⟨CB.cell mV15_s 0, CB.cell mV15_s 1, CB.cell mV15_s 2, CB.cell mV15_s 3, CB.cell mV15_s 4, CB.cell mV15_s 5, CB.cell mV15_m 0, CB.cell mV15_m 1, CB.cell mV15_m 2, CB.cell mV15_m 3, CB.cell mV15_m 4⟩)
    refine hK.out _ _ y16.out (fun hHeld => ?_)
    clear hK K y16
    try simp only [Act.put, List.setIfInBounds_toArray, List.set_cons_zero, List.set_cons_succ]
    refine wpAnyH_takeL (i := 10) (d := some 6) (v := .slice A n q) rfl rfl (by kernel_rfl) (by kernel_rfl) (by kernel_rfl) (fun _ _ _ h => h) (Or.inl ⟨by rfl, ?_⟩) hHeld ?_
    · intro w hSw; (try dsimp only at hSw); go_simp
    try simp only [Act.put, List.setIfInBounds_toArray, List.set_cons_zero, List.set_cons_succ]
    refine wpAnyH_takeL (i := 11) (d := some 7) (v := .int .i64 (ze : Int)) rfl rfl (by kernel_rfl) (by kernel_rfl) (by kernel_rfl) (fun _ _ _ h => h) (Or.inl ⟨by rfl, ?_⟩) hHeld ?_
    · intro w hSw; (try dsimp only at hSw); go_simp
    try simp only [Act.put, List.setIfInBounds_toArray, List.set_cons_zero, List.set_cons_succ]
    refine wpAnyH_done (by kernel_rfl) ?_ _
    have f16_s0 : V15.cell? ⟨w.heap.size, 0, none⟩ = some (.int .u8 me) := CB.cell mV15_s 0
    have f16_s1 : V15.cell? ⟨w.heap.size, 1, none⟩ = some (.int .i64 ep) := CB.cell mV15_s 1
    have f16_s2 : V15.cell? ⟨w.heap.size, 2, none⟩ = some (.int .i64 st) := CB.cell mV15_s 2
    have f16_s3 : V15.cell? ⟨w.heap.size, 3, none⟩ = some (.int .u8 to) := CB.cell mV15_s 3
    have f16_s4 : V15.cell? ⟨w.heap.size, 4, none⟩ = some (.string cg) := CB.cell mV15_s 4
    have f16_s5 : V15.cell? ⟨w.heap.size, 5, none⟩ = some (.bool kp) := CB.cell mV15_s 5
    have f16_m0 : V15.cell? ⟨w.heap.size + 1, 0, none⟩ = some (.int .i64 kd) := CB.cell mV15_m 0
    have f16_m1 : V15.cell? ⟨w.heap.size + 1, 1, none⟩ = some (.int .u8 fr) := CB.cell mV15_m 1
    have f16_m2 : V15.cell? ⟨w.heap.size + 1, 2, none⟩ = some (.int .u8 t) := CB.cell mV15_m 2
    have f16_m3 : V15.cell? ⟨w.heap.size + 1, 3, none⟩ = some (.int .i64 e) := CB.cell mV15_m 3
    have f16_m4 : V15.cell? ⟨w.heap.size + 1, 4, none⟩ = some (.string mg) := CB.cell mV15_m 4
    go_wp2_with fail
    refine (H2 _).mono ?_
    rintro e w17 ⟨B, n', q', rfl, hr', b17⟩
    clear f16_s0 f16_s1 f16_s2 f16_s3 f16_s4 f16_s5 f16_m0 f16_m1 f16_m2 f16_m3 f16_m4
    have q18_z := RS.on q15_z b17
    have r18_s := le_on mV15_s b17
    have r18_m := le_on mV15_m b17
    have r18_x := le_on nV15 b17
    have l18 := le_tr oV15 b17
    clear mV15_s mV15_m nV15 oV15
    clear q15_z
    clear b17
    have av_d : w.heap.size ≤ w17.heap.size := by have := l18.size; omega
    obtain ⟨W19, hW19⟩ : ∃ V, w17.alloc (.cells #[.int .u8 zme, .int .i64 zep, .int .i64 zst, .int .u8 zto, .string zcg, .bool zkp, .slice B n' q', .int .i64 (ze : Int)] 40) = V := ⟨_, rfl⟩
    have zW19 : w17.heap.size = w17.heap.size := by rfl
    have nW19 : CB W19 (w17.heap.size) 40 #[.int .u8 zme, .int .i64 zep, .int .i64 zst, .int .u8 zto, .string zcg, .bool zkp, .slice B n' q', .int .i64 (ze : Int)] := by rw [← zW19, ← hW19]; exact CB.new _ _ _
    have bW19 : Below w17.heap.size w17 W19 := by rw [← hW19]; exact le_al _ _
    have neW19_s : w.heap.size ≠ w17.heap.size := by have := CB.lt r18_s; omega
    have neW19_m : w.heap.size + 1 ≠ w17.heap.size := by have := CB.lt r18_m; omega
    have neW19_x : D4.heap.size ≠ w17.heap.size := by have := CB.lt r18_x; omega
    have HW19 := Lib.hid hW19
    clear hW19 zW19
    have q20_z := RS.on q18_z bW19
    have q20_y := RS.on hr' bW19
    have r20_s := le_on r18_s bW19
    have r20_m := le_on r18_m bW19
    have r20_x := le_on r18_x bW19
    have l20 := le_tr l18 bW19
    clear r18_s r18_m r18_x l18
    clear q18_z hr'
    clear bW19
    go_wp2_with fail
    rw [HW19.out]
    have y21 := Lib.hid (show (fun V : World => V.cell? ⟨D4.heap.size, 0, none⟩ = some (.int .u8 zme) ∧ V.cell? ⟨D4.heap.size, 1, none⟩ = some (.int .i64 zep) ∧ V.cell? ⟨D4.heap.size, 2, none⟩ = some (.int .i64 zst) ∧ V.cell? ⟨D4.heap.size, 3, none⟩ = some (.int .u8 zto) ∧ V.cell? ⟨D4.heap.size, 4, none⟩ = some (.string zcg) ∧ V.cell? ⟨D4.heap.size, 5, none⟩ = some (.bool zkp) ∧ V.cell? ⟨w17.heap.size, 0, none⟩ = some (.int .u8 zme) ∧ V.cell? ⟨w17.heap.size, 1, none⟩ = some (.int .i64 zep) ∧ V.cell? ⟨w17.heap.size, 2, none⟩ = some (.int .i64 zst) ∧ V.cell? ⟨w17.heap.size, 3, none⟩ = some (.int .u8 zto) ∧ V.cell? ⟨w17.heap.size, 4, none⟩ = some (.string zcg) ∧ V.cell? ⟨w17.heap.size, 5, none⟩ = some (.bool zkp) ∧ V.cell? ⟨w17.heap.size, 6, none⟩ = some (.slice B n' q') ∧ V.cell? ⟨w17.heap.size, 7, none⟩ = some (.int .i64 (ze : Int))) W19 from ⟨CB.cell r20_x 0, CB.cell r20_x 1, CB.cell r20_x 2, CB.cell r20_x 3, CB.cell r20_x 4, CB.cell r20_x 5, CB.cell nW19 0, CB.cell nW19 1, CB.cell nW19 2, CB.cell nW19 3, CB.cell nW19 4, CB.cell nW19 5, CB.cell nW19 6, CB.cell nW19 7⟩)
    refine wp_region_held_drew (S := (fun V : World => V.cell? ⟨D4.heap.size, 0, none⟩ = some (.int .u8 zme) ∧ V.cell? ⟨D4.heap.size, 1, none⟩ = some (.int .i64 zep) ∧ V.cell? ⟨D4.heap.size, 2, none⟩ = some (.int .i64 zst) ∧ V.cell? ⟨D4.heap.size, 3, none⟩ = some (.int .u8 zto) ∧ V.cell? ⟨D4.heap.size, 4, none⟩ = some (.string zcg) ∧ V.cell? ⟨D4.heap.size, 5, none⟩ = some (.bool zkp) ∧ V.cell? ⟨w17.heap.size, 0, none⟩ = some (.int .u8 zme) ∧ V.cell? ⟨w17.heap.size, 1, none⟩ = some (.int .i64 zep) ∧ V.cell? ⟨w17.heap.size, 2, none⟩ = some (.int .i64 zst) ∧ V.cell? ⟨w17.heap.size, 3, none⟩ = some (.int .u8 zto) ∧ V.cell? ⟨w17.heap.size, 4, none⟩ = some (.string zcg) ∧ V.cell? ⟨w17.heap.size, 5, none⟩ = some (.bool zkp) ∧ V.cell? ⟨w17.heap.size, 6, none⟩ = some (.slice B n' q') ∧ V.cell? ⟨w17.heap.size, 7, none⟩ = some (.int .i64 (ze : Int)))) (by kernel_rfl) y21.out (fun hHeld => ?_)
    obtain ⟨D21, hD21⟩ : ∃ V, W19.drew = V := ⟨_, rfl⟩
    have b21 : Below W19.heap.size W19 D21 := by rw [← hD21]; exact le_dr (Below.refl _ _)
    rw [hD21] at hHeld ⊢
    clear hD21
    have q22_z := RS.on q20_z b21
    have q22_y := RS.on q20_y b21
    have r22_s := le_on r20_s b21
    have r22_m := le_on r20_m b21
    have r22_x := le_on r20_x b21
    have r22_d := le_on nW19 b21
    have l22 := le_tr l20 b21
    clear r20_s r20_m r20_x nW19 l20
    clear q20_z q20_y
    clear b21
    refine wpAnyH_takeL (i := 0) (d := some 32) (v := .agg #[.int .u8 zme, .int .i64 zep, .int .i64 zst, .int .u8 zto, .string zcg, .bool zkp]) rfl rfl (by kernel_rfl) (by kernel_rfl) (by kernel_rfl) (fun _ _ _ h => h) (Or.inl ⟨by rfl, ?_⟩) hHeld ?_
    · intro w hSw; (try dsimp only at hSw); go_simp
    try simp only [Act.put, List.setIfInBounds_toArray, List.set_cons_zero, List.set_cons_succ]
    refine wpAnyH_takeL (i := 2) (d := some 34) (v := .pointer (some ⟨w17.heap.size, 0, none⟩)) rfl rfl (by kernel_rfl) (by kernel_rfl) (by kernel_rfl) (fun _ _ _ h => h) (Or.inl ⟨by rfl, ?_⟩) hHeld ?_
    · intro w hSw; (try dsimp only at hSw); go_simp
    try simp only [Act.put, List.setIfInBounds_toArray, List.set_cons_zero, List.set_cons_succ]
    refine wpAnyH_takeL (i := 3) (d := some 35) (v := .agg #[.int .u8 zme, .int .i64 zep, .int .i64 zst, .int .u8 zto, .string zcg, .bool zkp]) rfl rfl (by kernel_rfl) (by kernel_rfl) (by kernel_rfl) (fun _ _ _ h => h) (Or.inl ⟨by rfl, ?_⟩) hHeld ?_
    · intro w hSw; (try dsimp only at hSw); go_simp
    try simp only [Act.put, List.setIfInBounds_toArray, List.set_cons_zero, List.set_cons_succ]
    refine wpAnyH_ready (rs := [1]) (by kernel_rfl) (by simp) ?_
    refine AllReadyH.cons rfl (fun K hK => ?_) AllReadyH.nil
    go_simp
    refine (O1 _).mono ?_
    rintro e u23 ⟨rfl, b23⟩
    have q24_z := RS.on q22_z b23
    have q24_y := RS.on q22_y b23
    have r24_s := le_on r22_s b23
    have r24_m := le_on r22_m b23
    have r24_x := le_on r22_x b23
    have r24_d := le_on r22_d b23
    have l24 := le_tr l22 b23
    clear r22_s r22_m r22_x r22_d l22
    clear q22_z q22_y
    clear b23
    go_wp2_with fail
    have y25 := Lib.hid (show (fun V : World => V.cell? ⟨D4.heap.size, 0, none⟩ = some (.int .u8 zme) ∧ V.cell? ⟨D4.heap.size, 1, none⟩ = some (.int .i64 zep) ∧ V.cell? ⟨D4.heap.size, 2, none⟩ = some (.int .i64 zst) ∧ V.cell? ⟨D4.heap.size, 3, none⟩ = some (.int .u8 zto) ∧ V.cell? ⟨D4.heap.size, 4, none⟩ = some (.string zcg) ∧ V.cell? ⟨D4.heap.size, 5, none⟩ = some (.bool zkp) ∧ V.cell? ⟨w17.heap.size, 0, none⟩ = some (.int .u8 zme) ∧ V.cell? ⟨w17.heap.size, 1, none⟩ = some (.int .i64 zep) ∧ V.cell? ⟨w17.heap.size, 2, none⟩ = some (.int .i64 zst) ∧ V.cell? ⟨w17.heap.size, 3, none⟩ = some (.int .u8 zto) ∧ V.cell? ⟨w17.heap.size, 4, none⟩ = some (.string zcg) ∧ V.cell? ⟨w17.heap.size, 5, none⟩ = some (.bool zkp) ∧ V.cell? ⟨w17.heap.size, 6, none⟩ = some (.slice B n' q') ∧ V.cell? ⟨w17.heap.size, 7, none⟩ = some (.int .i64 (ze : Int))) u23 from ⟨CB.cell r24_x 0, CB.cell r24_x 1, CB.cell r24_x 2, CB.cell r24_x 3, CB.cell r24_x 4, CB.cell r24_x 5, CB.cell r24_d 0, CB.cell r24_d 1, CB.cell r24_d 2, CB.cell r24_d 3, CB.cell r24_d 4, CB.cell r24_d 5, CB.cell r24_d 6, CB.cell r24_d 7⟩)
    refine hK.out _ _ y25.out (fun hHeld => ?_)
    clear hK K y25
    try simp only [Act.put, List.setIfInBounds_toArray, List.set_cons_zero, List.set_cons_succ]
    refine wpAnyH_takeL (i := 4) (d := some 36) (v := .bool true) rfl rfl (by kernel_rfl) (by kernel_rfl) (by kernel_rfl) (fun _ _ _ h => h) (Or.inl ⟨by rfl, ?_⟩) hHeld ?_
    · intro w hSw; (try dsimp only at hSw); go_simp
    try simp only [Act.put, List.setIfInBounds_toArray, List.set_cons_zero, List.set_cons_succ]
    refine wpAnyH_takeL (i := 5) (d := some 37) (v := .bool true) rfl rfl (by kernel_rfl) (by kernel_rfl) (by kernel_rfl) (fun _ _ _ h => h) (Or.inl ⟨by rfl, ?_⟩) hHeld ?_
    · intro w hSw; (try dsimp only at hSw); go_simp
    try simp only [Act.put, List.setIfInBounds_toArray, List.set_cons_zero, List.set_cons_succ]
    refine wpAnyH_takeL (i := 6) (d := some 38) (v := .slice A n q) rfl rfl (by kernel_rfl) (by kernel_rfl) (by kernel_rfl) (fun _ _ _ h => h) (Or.inl ⟨by rfl, ?_⟩) hHeld ?_
    · intro w hSw; (try dsimp only at hSw); go_simp
    try simp only [Act.put, List.setIfInBounds_toArray, List.set_cons_zero, List.set_cons_succ]
    refine wpAnyH_takeL (i := 7) (d := some 39) (v := .pointer (some ⟨w17.heap.size, 6, none⟩)) rfl rfl (by kernel_rfl) (by kernel_rfl) (by kernel_rfl) (fun _ _ _ h => h) (Or.inl ⟨by rfl, ?_⟩) hHeld ?_
    · intro w hSw; (try dsimp only at hSw); go_simp
    try simp only [Act.put, List.setIfInBounds_toArray, List.set_cons_zero, List.set_cons_succ]
    refine wpAnyH_takeL (i := 8) (d := some 40) (v := .slice B n' q') rfl rfl (by kernel_rfl) (by kernel_rfl) (by kernel_rfl) (fun _ _ _ h => h) (Or.inl ⟨by rfl, ?_⟩) hHeld ?_
    · intro w hSw; (try dsimp only at hSw); go_simp
    try simp only [Act.put, List.setIfInBounds_toArray, List.set_cons_zero, List.set_cons_succ]
    refine wpAnyH_ready (rs := [9]) (by kernel_rfl) (by simp) ?_
    refine AllReadyH.cons rfl (fun K hK => ?_) AllReadyH.nil
    go_simp
    refine (hsame_c A B n q n' q' zr _ (RS.rr q24_z) (RS.rr q24_y)).mono ?_
    rintro e u26 ⟨rfl, b26⟩
    have q27_z := RS.on q24_z b26
    have q27_y := RS.on q24_y b26
    have r27_s := le_on r24_s b26
    have r27_m := le_on r24_m b26
    have r27_x := le_on r24_x b26
    have r27_d := le_on r24_d b26
    have l27 := le_tr l24 b26
    clear r24_s r24_m r24_x r24_d l24
    clear q24_z q24_y
    clear b26
    go_wp2_with fail
    have y28 := Lib.hid (show (fun V : World => V.cell? ⟨D4.heap.size, 0, none⟩ = some (.int .u8 zme) ∧ V.cell? ⟨D4.heap.size, 1, none⟩ = some (.int .i64 zep) ∧ V.cell? ⟨D4.heap.size, 2, none⟩ = some (.int .i64 zst) ∧ V.cell? ⟨D4.heap.size, 3, none⟩ = some (.int .u8 zto) ∧ V.cell? ⟨D4.heap.size, 4, none⟩ = some (.string zcg) ∧ V.cell? ⟨D4.heap.size, 5, none⟩ = some (.bool zkp) ∧ V.cell? ⟨w17.heap.size, 0, none⟩ = some (.int .u8 zme) ∧ V.cell? ⟨w17.heap.size, 1, none⟩ = some (.int .i64 zep) ∧ V.cell? ⟨w17.heap.size, 2, none⟩ = some (.int .i64 zst) ∧ V.cell? ⟨w17.heap.size, 3, none⟩ = some (.int .u8 zto) ∧ V.cell? ⟨w17.heap.size, 4, none⟩ = some (.string zcg) ∧ V.cell? ⟨w17.heap.size, 5, none⟩ = some (.bool zkp) ∧ V.cell? ⟨w17.heap.size, 6, none⟩ = some (.slice B n' q') ∧ V.cell? ⟨w17.heap.size, 7, none⟩ = some (.int .i64 (ze : Int))) u26 from ⟨CB.cell r27_x 0, CB.cell r27_x 1, CB.cell r27_x 2, CB.cell r27_x 3, CB.cell r27_x 4, CB.cell r27_x 5, CB.cell r27_d 0, CB.cell r27_d 1, CB.cell r27_d 2, CB.cell r27_d 3, CB.cell r27_d 4, CB.cell r27_d 5, CB.cell r27_d 6, CB.cell r27_d 7⟩)
    refine hK.out _ _ y28.out (fun hHeld => ?_)
    clear hK K y28
    try simp only [Act.put, List.setIfInBounds_toArray, List.set_cons_zero, List.set_cons_succ]
    refine wpAnyH_takeL (i := 10) (d := some 42) (v := .bool true) rfl rfl (by kernel_rfl) (by kernel_rfl) (by kernel_rfl) (fun _ _ _ h => h) (Or.inl ⟨by rfl, ?_⟩) hHeld ?_
    · intro w hSw; (try dsimp only at hSw); go_simp
    try simp only [Act.put, List.setIfInBounds_toArray, List.set_cons_zero, List.set_cons_succ]
    refine wpAnyH_takeL (i := 11) (d := some 43) (v := .bool true) rfl rfl (by kernel_rfl) (by kernel_rfl) (by kernel_rfl) (fun _ _ _ h => h) (Or.inl ⟨by rfl, ?_⟩) hHeld ?_
    · intro w hSw; (try dsimp only at hSw); go_simp
    try simp only [Act.put, List.setIfInBounds_toArray, List.set_cons_zero, List.set_cons_succ]
    refine wpAnyH_takeL (i := 12) (d := some 44) (v := .int .i64 (ze : Int)) rfl rfl (by kernel_rfl) (by kernel_rfl) (by kernel_rfl) (fun _ _ _ h => h) (Or.inl ⟨by rfl, ?_⟩) hHeld ?_
    · intro w hSw; (try dsimp only at hSw); go_simp
    try simp only [Act.put, List.setIfInBounds_toArray, List.set_cons_zero, List.set_cons_succ]
    refine wpAnyH_takeL (i := 13) (d := some 45) (v := .pointer (some ⟨w17.heap.size, 7, none⟩)) rfl rfl (by kernel_rfl) (by kernel_rfl) (by kernel_rfl) (fun _ _ _ h => h) (Or.inl ⟨by rfl, ?_⟩) hHeld ?_
    · intro w hSw; (try dsimp only at hSw); go_simp
    try simp only [Act.put, List.setIfInBounds_toArray, List.set_cons_zero, List.set_cons_succ]
    refine wpAnyH_takeL (i := 14) (d := some 46) (v := .int .i64 (ze : Int)) rfl rfl (by kernel_rfl) (by kernel_rfl) (by kernel_rfl) (fun _ _ _ h => h) (Or.inl ⟨by rfl, ?_⟩) hHeld ?_
    · intro w hSw; (try dsimp only at hSw); go_simp
    try simp only [Act.put, List.setIfInBounds_toArray, List.set_cons_zero, List.set_cons_succ]
    refine wpAnyH_takeL (i := 15) (d := some 47) (v := .bool true) rfl rfl (by kernel_rfl) (by kernel_rfl) (by kernel_rfl) (fun _ _ _ h => h) (Or.inl ⟨by rfl, ?_⟩) hHeld ?_
    · intro w hSw; (try dsimp only at hSw); go_simp
    try simp only [Act.put, List.setIfInBounds_toArray, List.set_cons_zero, List.set_cons_succ]
    refine wpAnyH_takeL (i := 16) (d := some 48) (v := .bool true) rfl rfl (by kernel_rfl) (by kernel_rfl) (by kernel_rfl) (fun _ _ _ h => h) (Or.inl ⟨by rfl, ?_⟩) hHeld ?_
    · intro w hSw; (try dsimp only at hSw); go_simp
    try simp only [Act.put, List.setIfInBounds_toArray, List.set_cons_zero, List.set_cons_succ]
    refine wpAnyH_takeL (i := 17) (d := some 4) (v := .bool true) rfl rfl (by kernel_rfl) (by kernel_rfl) (by kernel_rfl) (fun _ _ _ h => h) (Or.inl ⟨by rfl, ?_⟩) hHeld ?_
    · intro w hSw; (try dsimp only at hSw); go_simp
    try simp only [Act.put, List.setIfInBounds_toArray, List.set_cons_zero, List.set_cons_succ]
    refine wpAnyH_done (by kernel_rfl) ?_ _
    go_wp2_with fail
    go_ret
    exact ⟨rfl, l27⟩
end Go.Proofs.Ytmghckddofefkaa
