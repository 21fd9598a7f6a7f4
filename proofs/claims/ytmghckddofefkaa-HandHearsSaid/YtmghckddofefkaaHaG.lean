/-
  The document's layer 12: want. Conditions: the side and the message are valid.
-/
import Derived.Test.YtmghckddofefkaaHaF
set_option linter.unusedVariables false
set_option linter.unusedSimpArgs false
namespace Go.Proofs.Ytmghckddofefkaa
open Go.RowKit

set_option maxRecDepth 100000 in
set_option maxHeartbeats 8000000 in
theorem want_r (me ep st to : Int) (cg : ByteArray) (kp : Bool) (kd fr t e : Int) (mg : ByteArray) (w : World) (hs : RightS ⟨me, ⟨ep, st, to⟩, cg, kp⟩) (hm : MayM ⟨kd, fr, t, e, mg⟩) : Calls Try.prog 43 #[.agg #[.int .u8 me, .int .i64 ep, .int .i64 st, .int .u8 to, .string cg, .bool kp], .agg #[.int .i64 kd, .int .u8 fr, .int .u8 t, .int .i64 e, .string mg]] w (TdPost w 27 (wantM ⟨me, ⟨ep, st, to⟩, cg, kp⟩ ⟨kd, fr, t, e, mg⟩)) := by
  have hrt : rightL ⟨ep, st, to⟩ = true := hs.2.1
  obtain ⟨hm1, hm2, hm3, hm4, hm5, hm6⟩ := hm
  simp only at hm1 hm2 hm3 hm4 hm5
  have hb1 : 0 ≤ ep ∧ ep ≤ 1048576 := by have := right_cases hrt; simp only at this; omega
  have S1 := fun W => speaks_r ep st to e W
  by_cases hsp : st = 1 ∧ ep = e
  · have h1 : speaksL ⟨ep, st, to⟩ e = true := by unfold speaksL; rw [hrt]; simp [hsp]
    simp only [h1] at S1
    have G1 := fun W => give_r ep st to fr W
    by_cases hmx : e = 1048576
    · have h2 : eGiveL ⟨ep, st, to⟩ fr = 3 := by unfold eGiveL; rw [hrt]; simp [hsp.1, hsp.2, hmx]; omega
      have h3 : sGiveL ⟨ep, st, to⟩ fr = ⟨ep, st, to⟩ := by unfold sGiveL; rw [h2]; rfl
      simp only [h2, h3] at G1
      have H := Lib.hid (show wantM ⟨me, ⟨ep, st, to⟩, cg, kp⟩ ⟨kd, fr, t, e, mg⟩ = ⟨⟨me, ⟨ep, st, to⟩, cg, kp⟩, [], 3⟩ by unfold wantM; simp only; rw [if_pos hsp, if_pos hmx])
      clear h1 h2 h3 hsp hmx hrt hs hm1 hm2 hm3 hm4 hm5 hm6 hb1
      obtain ⟨W1, hW1⟩ : ∃ V, (((w.alloc (.cells #[.int .u8 me, .int .i64 ep, .int .i64 st, .int .u8 to, .string cg, .bool kp] 25)).alloc (.cells #[.int .i64 kd, .int .u8 fr, .int .u8 t, .int .i64 e, .string mg] 27)).alloc (.cells #[.int .u8 0, .int .i64 0, .int .i64 0, .int .u8 0, .string ⟨#[]⟩, .bool false, .slice none 0 0, .int .i64 0] 40)).alloc (.cells #[.int .i64 ep, .int .i64 st, .int .u8 to] 23) = V := ⟨_, rfl⟩
      have nW1_s : CB W1 (w.heap.size) 25 #[.int .u8 me, .int .i64 ep, .int .i64 st, .int .u8 to, .string cg, .bool kp] := by
        rw [← hW1]
        have := ((((CB.new w 25 #[.int .u8 me, .int .i64 ep, .int .i64 st, .int .u8 to, .string cg, .bool kp]).alloc (.cells #[.int .i64 kd, .int .u8 fr, .int .u8 t, .int .i64 e, .string mg] 27)).alloc (.cells #[.int .u8 0, .int .i64 0, .int .i64 0, .int .u8 0, .string ⟨#[]⟩, .bool false, .slice none 0 0, .int .i64 0] 40)).alloc (.cells #[.int .i64 ep, .int .i64 st, .int .u8 to] 23))
        simpa using this
      have nW1_m : CB W1 (w.heap.size + 1) 27 #[.int .i64 kd, .int .u8 fr, .int .u8 t, .int .i64 e, .string mg] := by
        rw [← hW1]
        have := (((CB.new (w.alloc (.cells #[.int .u8 me, .int .i64 ep, .int .i64 st, .int .u8 to, .string cg, .bool kp] 25)) 27 #[.int .i64 kd, .int .u8 fr, .int .u8 t, .int .i64 e, .string mg]).alloc (.cells #[.int .u8 0, .int .i64 0, .int .i64 0, .int .u8 0, .string ⟨#[]⟩, .bool false, .slice none 0 0, .int .i64 0] 40)).alloc (.cells #[.int .i64 ep, .int .i64 st, .int .u8 to] 23))
        simpa using this
      have nW1_r : CB W1 (w.heap.size + 1 + 1) 40 #[.int .u8 0, .int .i64 0, .int .i64 0, .int .u8 0, .string ⟨#[]⟩, .bool false, .slice none 0 0, .int .i64 0] := by
        rw [← hW1]
        have := ((CB.new ((w.alloc (.cells #[.int .u8 me, .int .i64 ep, .int .i64 st, .int .u8 to, .string cg, .bool kp] 25)).alloc (.cells #[.int .i64 kd, .int .u8 fr, .int .u8 t, .int .i64 e, .string mg] 27)) 40 #[.int .u8 0, .int .i64 0, .int .i64 0, .int .u8 0, .string ⟨#[]⟩, .bool false, .slice none 0 0, .int .i64 0]).alloc (.cells #[.int .i64 ep, .int .i64 st, .int .u8 to] 23))
        simpa using this
      have nW1_l : CB W1 (w.heap.size + 1 + 1 + 1) 23 #[.int .i64 ep, .int .i64 st, .int .u8 to] := by
        rw [← hW1]
        have := (CB.new (((w.alloc (.cells #[.int .u8 me, .int .i64 ep, .int .i64 st, .int .u8 to, .string cg, .bool kp] 25)).alloc (.cells #[.int .i64 kd, .int .u8 fr, .int .u8 t, .int .i64 e, .string mg] 27)).alloc (.cells #[.int .u8 0, .int .i64 0, .int .i64 0, .int .u8 0, .string ⟨#[]⟩, .bool false, .slice none 0 0, .int .i64 0] 40)) 23 #[.int .i64 ep, .int .i64 st, .int .u8 to])
        simpa using this
      have neW1_01 : w.heap.size ≠ w.heap.size + 1 := by omega
      have neW1_02 : w.heap.size ≠ w.heap.size + 1 + 1 := by omega
      have neW1_03 : w.heap.size ≠ w.heap.size + 1 + 1 + 1 := by omega
      have neW1_12 : w.heap.size + 1 ≠ w.heap.size + 1 + 1 := by omega
      have neW1_13 : w.heap.size + 1 ≠ w.heap.size + 1 + 1 + 1 := by omega
      have neW1_23 : w.heap.size + 1 + 1 ≠ w.heap.size + 1 + 1 + 1 := by omega
      have lW1 : Below w.heap.size w W1 := by rw [← hW1]; exact le_tr (le_tr (le_tr (le_al _ _) (le_al _ _)) (le_al _ _)) (le_al _ _)
      have HW1 := Lib.hid hW1
      clear hW1
      go_enter Try.func43, Try.ntmps43
      go_wp2_with fail
      rw [HW1.out]
      refine (S1 _).mono ?_
      rintro e w2 ⟨rfl, b2⟩
      have r3_s := le_on nW1_s b2
      have r3_m := le_on nW1_m b2
      have r3_r := le_on nW1_r b2
      have r3_l := le_on nW1_l b2
      have l3 := le_tr lW1 b2
      clear nW1_s nW1_m nW1_r nW1_l lW1
      clear b2
      have f3_l0 : w2.cell? ⟨w.heap.size + 1 + 1 + 1, 0, none⟩ = some (.int .i64 ep) := CB.cell r3_l 0
      have f3_l1 : w2.cell? ⟨w.heap.size + 1 + 1 + 1, 1, none⟩ = some (.int .i64 st) := CB.cell r3_l 1
      have f3_l2 : w2.cell? ⟨w.heap.size + 1 + 1 + 1, 2, none⟩ = some (.int .u8 to) := CB.cell r3_l 2
      have f3_m0 : w2.cell? ⟨w.heap.size + 1, 0, none⟩ = some (.int .i64 kd) := CB.cell r3_m 0
      have f3_m1 : w2.cell? ⟨w.heap.size + 1, 1, none⟩ = some (.int .u8 fr) := CB.cell r3_m 1
      have f3_m2 : w2.cell? ⟨w.heap.size + 1, 2, none⟩ = some (.int .u8 t) := CB.cell r3_m 2
      have f3_m3 : w2.cell? ⟨w.heap.size + 1, 3, none⟩ = some (.int .i64 e) := CB.cell r3_m 3
      have f3_m4 : w2.cell? ⟨w.heap.size + 1, 4, none⟩ = some (.string mg) := CB.cell r3_m 4
      go_wp2_with fail
      refine (G1 _).mono ?_
      rintro e w4 ⟨rfl, b4⟩
      clear f3_l0 f3_l1 f3_l2 f3_m0 f3_m1 f3_m2 f3_m3 f3_m4
      have r5_s := le_on r3_s b4
      have r5_m := le_on r3_m b4
      have r5_r := le_on r3_r b4
      have r5_l := le_on r3_l b4
      have l5 := le_tr l3 b4
      clear r3_s r3_m r3_r r3_l l3
      clear b4
      have av_g : w.heap.size ≤ w4.heap.size := by have := l5.size; omega
      obtain ⟨W6, hW6⟩ : ∃ V, w4.alloc (.cells #[.int .i64 ep, .int .i64 st, .int .u8 to] 23) = V := ⟨_, rfl⟩
      have zW6 : w4.heap.size = w4.heap.size := by rfl
      have nW6 : CB W6 (w4.heap.size) 23 #[.int .i64 ep, .int .i64 st, .int .u8 to] := by rw [← zW6, ← hW6]; exact CB.new _ _ _
      have bW6 : Below w4.heap.size w4 W6 := by rw [← hW6]; exact le_al _ _
      have neW6_s : w.heap.size ≠ w4.heap.size := by have := CB.lt r5_s; omega
      have neW6_m : w.heap.size + 1 ≠ w4.heap.size := by have := CB.lt r5_m; omega
      have neW6_r : w.heap.size + 1 + 1 ≠ w4.heap.size := by have := CB.lt r5_r; omega
      have neW6_l : w.heap.size + 1 + 1 + 1 ≠ w4.heap.size := by have := CB.lt r5_l; omega
      have HW6 := Lib.hid hW6
      clear hW6 zW6
      have r7_s := le_on r5_s bW6
      have r7_m := le_on r5_m bW6
      have r7_r := le_on r5_r bW6
      have r7_l := le_on r5_l bW6
      have l7 := le_tr l5 bW6
      clear r5_s r5_m r5_r r5_l l5
      clear bW6
      have f7_s0 : (w4.alloc (.cells #[.int .i64 ep, .int .i64 st, .int .u8 to] 23)).cell? ⟨w.heap.size, 0, none⟩ = some (.int .u8 me) := by rw [HW6.out]; exact CB.cell r7_s 0
      have f7_s1 : (w4.alloc (.cells #[.int .i64 ep, .int .i64 st, .int .u8 to] 23)).cell? ⟨w.heap.size, 1, none⟩ = some (.int .i64 ep) := by rw [HW6.out]; exact CB.cell r7_s 1
      have f7_s2 : (w4.alloc (.cells #[.int .i64 ep, .int .i64 st, .int .u8 to] 23)).cell? ⟨w.heap.size, 2, none⟩ = some (.int .i64 st) := by rw [HW6.out]; exact CB.cell r7_s 2
      have f7_s3 : (w4.alloc (.cells #[.int .i64 ep, .int .i64 st, .int .u8 to] 23)).cell? ⟨w.heap.size, 3, none⟩ = some (.int .u8 to) := by rw [HW6.out]; exact CB.cell r7_s 3
      have f7_s4 : (w4.alloc (.cells #[.int .i64 ep, .int .i64 st, .int .u8 to] 23)).cell? ⟨w.heap.size, 4, none⟩ = some (.string cg) := by rw [HW6.out]; exact CB.cell r7_s 4
      have f7_s5 : (w4.alloc (.cells #[.int .i64 ep, .int .i64 st, .int .u8 to] 23)).cell? ⟨w.heap.size, 5, none⟩ = some (.bool kp) := by rw [HW6.out]; exact CB.cell r7_s 5
      have f7_r0 : (w4.alloc (.cells #[.int .i64 ep, .int .i64 st, .int .u8 to] 23)).cell? ⟨w.heap.size + 1 + 1, 0, none⟩ = some (.int .u8 0) := by rw [HW6.out]; exact CB.cell r7_r 0
      have z7_r0 : (w4.alloc (.cells #[.int .i64 ep, .int .i64 st, .int .u8 to] 23)).frozen? ⟨w.heap.size + 1 + 1, 0, none⟩ = false := by rw [HW6.out]; exact CB.frozen r7_r 0
      have f7_r1 : (w4.alloc (.cells #[.int .i64 ep, .int .i64 st, .int .u8 to] 23)).cell? ⟨w.heap.size + 1 + 1, 1, none⟩ = some (.int .i64 0) := by rw [HW6.out]; exact CB.cell r7_r 1
      have z7_r1 : (w4.alloc (.cells #[.int .i64 ep, .int .i64 st, .int .u8 to] 23)).frozen? ⟨w.heap.size + 1 + 1, 1, none⟩ = false := by rw [HW6.out]; exact CB.frozen r7_r 1
      have f7_r2 : (w4.alloc (.cells #[.int .i64 ep, .int .i64 st, .int .u8 to] 23)).cell? ⟨w.heap.size + 1 + 1, 2, none⟩ = some (.int .i64 0) := by rw [HW6.out]; exact CB.cell r7_r 2
      have z7_r2 : (w4.alloc (.cells #[.int .i64 ep, .int .i64 st, .int .u8 to] 23)).frozen? ⟨w.heap.size + 1 + 1, 2, none⟩ = false := by rw [HW6.out]; exact CB.frozen r7_r 2
      have f7_r3 : (w4.alloc (.cells #[.int .i64 ep, .int .i64 st, .int .u8 to] 23)).cell? ⟨w.heap.size + 1 + 1, 3, none⟩ = some (.int .u8 0) := by rw [HW6.out]; exact CB.cell r7_r 3
      have z7_r3 : (w4.alloc (.cells #[.int .i64 ep, .int .i64 st, .int .u8 to] 23)).frozen? ⟨w.heap.size + 1 + 1, 3, none⟩ = false := by rw [HW6.out]; exact CB.frozen r7_r 3
      have f7_r4 : (w4.alloc (.cells #[.int .i64 ep, .int .i64 st, .int .u8 to] 23)).cell? ⟨w.heap.size + 1 + 1, 4, none⟩ = some (.string ⟨#[]⟩) := by rw [HW6.out]; exact CB.cell r7_r 4
      have z7_r4 : (w4.alloc (.cells #[.int .i64 ep, .int .i64 st, .int .u8 to] 23)).frozen? ⟨w.heap.size + 1 + 1, 4, none⟩ = false := by rw [HW6.out]; exact CB.frozen r7_r 4
      have f7_r5 : (w4.alloc (.cells #[.int .i64 ep, .int .i64 st, .int .u8 to] 23)).cell? ⟨w.heap.size + 1 + 1, 5, none⟩ = some (.bool false) := by rw [HW6.out]; exact CB.cell r7_r 5
      have z7_r5 : (w4.alloc (.cells #[.int .i64 ep, .int .i64 st, .int .u8 to] 23)).frozen? ⟨w.heap.size + 1 + 1, 5, none⟩ = false := by rw [HW6.out]; exact CB.frozen r7_r 5
      have f7_r6 : (w4.alloc (.cells #[.int .i64 ep, .int .i64 st, .int .u8 to] 23)).cell? ⟨w.heap.size + 1 + 1, 6, none⟩ = some (.slice none 0 0) := by rw [HW6.out]; exact CB.cell r7_r 6
      have z7_r6 : (w4.alloc (.cells #[.int .i64 ep, .int .i64 st, .int .u8 to] 23)).frozen? ⟨w.heap.size + 1 + 1, 6, none⟩ = false := by rw [HW6.out]; exact CB.frozen r7_r 6
      have f7_r7 : (w4.alloc (.cells #[.int .i64 ep, .int .i64 st, .int .u8 to] 23)).cell? ⟨w.heap.size + 1 + 1, 7, none⟩ = some (.int .i64 0) := by rw [HW6.out]; exact CB.cell r7_r 7
      have z7_r7 : (w4.alloc (.cells #[.int .i64 ep, .int .i64 st, .int .u8 to] 23)).frozen? ⟨w.heap.size + 1 + 1, 7, none⟩ = false := by rw [HW6.out]; exact CB.frozen r7_r 7
      obtain ⟨V8, hV8⟩ : ∃ V, (((((((W6.setCell ⟨w.heap.size + 1 + 1, 0, none⟩ (.int .u8 me)).setCell ⟨w.heap.size + 1 + 1, 1, none⟩ (.int .i64 ep)).setCell ⟨w.heap.size + 1 + 1, 2, none⟩ (.int .i64 st)).setCell ⟨w.heap.size + 1 + 1, 3, none⟩ (.int .u8 to)).setCell ⟨w.heap.size + 1 + 1, 4, none⟩ (.string cg)).setCell ⟨w.heap.size + 1 + 1, 5, none⟩ (.bool kp)).setCell ⟨w.heap.size + 1 + 1, 6, none⟩ (.slice none 0 0)).setCell ⟨w.heap.size + 1 + 1, 7, none⟩ (.int .i64 3) = V := ⟨_, rfl⟩
      have nV8 : CB V8 (w.heap.size + 1 + 1) 40 #[.int .u8 me, .int .i64 ep, .int .i64 st, .int .u8 to, .string cg, .bool kp, .slice none 0 0, .int .i64 3] := by rw [← hV8]; exact cb_cast (CB.put (CB.put (CB.put (CB.put (CB.put (CB.put (CB.put (CB.put r7_r 0 (.int .u8 me)) 1 (.int .i64 ep)) 2 (.int .i64 st)) 3 (.int .u8 to)) 4 (.string cg)) 5 (.bool kp)) 6 (.slice none 0 0)) 7 (.int .i64 3)) (by kernel_rfl)
      have mV8_s : CB V8 (w.heap.size) 25 #[.int .u8 me, .int .i64 ep, .int .i64 st, .int .u8 to, .string cg, .bool kp] := by rw [← hV8]; exact (CB.far (CB.far (CB.far (CB.far (CB.far (CB.far (CB.far (CB.far r7_s (p := ⟨w.heap.size + 1 + 1, 0, none⟩) neW1_02 (.int .u8 me)) (p := ⟨w.heap.size + 1 + 1, 1, none⟩) neW1_02 (.int .i64 ep)) (p := ⟨w.heap.size + 1 + 1, 2, none⟩) neW1_02 (.int .i64 st)) (p := ⟨w.heap.size + 1 + 1, 3, none⟩) neW1_02 (.int .u8 to)) (p := ⟨w.heap.size + 1 + 1, 4, none⟩) neW1_02 (.string cg)) (p := ⟨w.heap.size + 1 + 1, 5, none⟩) neW1_02 (.bool kp)) (p := ⟨w.heap.size + 1 + 1, 6, none⟩) neW1_02 (.slice none 0 0)) (p := ⟨w.heap.size + 1 + 1, 7, none⟩) neW1_02 (.int .i64 3))
      have mV8_m : CB V8 (w.heap.size + 1) 27 #[.int .i64 kd, .int .u8 fr, .int .u8 t, .int .i64 e, .string mg] := by rw [← hV8]; exact (CB.far (CB.far (CB.far (CB.far (CB.far (CB.far (CB.far (CB.far r7_m (p := ⟨w.heap.size + 1 + 1, 0, none⟩) neW1_12 (.int .u8 me)) (p := ⟨w.heap.size + 1 + 1, 1, none⟩) neW1_12 (.int .i64 ep)) (p := ⟨w.heap.size + 1 + 1, 2, none⟩) neW1_12 (.int .i64 st)) (p := ⟨w.heap.size + 1 + 1, 3, none⟩) neW1_12 (.int .u8 to)) (p := ⟨w.heap.size + 1 + 1, 4, none⟩) neW1_12 (.string cg)) (p := ⟨w.heap.size + 1 + 1, 5, none⟩) neW1_12 (.bool kp)) (p := ⟨w.heap.size + 1 + 1, 6, none⟩) neW1_12 (.slice none 0 0)) (p := ⟨w.heap.size + 1 + 1, 7, none⟩) neW1_12 (.int .i64 3))
      have mV8_l : CB V8 (w.heap.size + 1 + 1 + 1) 23 #[.int .i64 ep, .int .i64 st, .int .u8 to] := by rw [← hV8]; exact (CB.far (CB.far (CB.far (CB.far (CB.far (CB.far (CB.far (CB.far r7_l (p := ⟨w.heap.size + 1 + 1, 0, none⟩) (Ne.symm neW1_23) (.int .u8 me)) (p := ⟨w.heap.size + 1 + 1, 1, none⟩) (Ne.symm neW1_23) (.int .i64 ep)) (p := ⟨w.heap.size + 1 + 1, 2, none⟩) (Ne.symm neW1_23) (.int .i64 st)) (p := ⟨w.heap.size + 1 + 1, 3, none⟩) (Ne.symm neW1_23) (.int .u8 to)) (p := ⟨w.heap.size + 1 + 1, 4, none⟩) (Ne.symm neW1_23) (.string cg)) (p := ⟨w.heap.size + 1 + 1, 5, none⟩) (Ne.symm neW1_23) (.bool kp)) (p := ⟨w.heap.size + 1 + 1, 6, none⟩) (Ne.symm neW1_23) (.slice none 0 0)) (p := ⟨w.heap.size + 1 + 1, 7, none⟩) (Ne.symm neW1_23) (.int .i64 3))
      have mV8_g : CB V8 (w4.heap.size) 23 #[.int .i64 ep, .int .i64 st, .int .u8 to] := by rw [← hV8]; exact (CB.far (CB.far (CB.far (CB.far (CB.far (CB.far (CB.far (CB.far nW6 (p := ⟨w.heap.size + 1 + 1, 0, none⟩) (Ne.symm neW6_r) (.int .u8 me)) (p := ⟨w.heap.size + 1 + 1, 1, none⟩) (Ne.symm neW6_r) (.int .i64 ep)) (p := ⟨w.heap.size + 1 + 1, 2, none⟩) (Ne.symm neW6_r) (.int .i64 st)) (p := ⟨w.heap.size + 1 + 1, 3, none⟩) (Ne.symm neW6_r) (.int .u8 to)) (p := ⟨w.heap.size + 1 + 1, 4, none⟩) (Ne.symm neW6_r) (.string cg)) (p := ⟨w.heap.size + 1 + 1, 5, none⟩) (Ne.symm neW6_r) (.bool kp)) (p := ⟨w.heap.size + 1 + 1, 6, none⟩) (Ne.symm neW6_r) (.slice none 0 0)) (p := ⟨w.heap.size + 1 + 1, 7, none⟩) (Ne.symm neW6_r) (.int .i64 3))
      have oV8 := (Below.setCell (Below.setCell (Below.setCell (Below.setCell (Below.setCell (Below.setCell (Below.setCell (Below.setCell l7 (p := ⟨w.heap.size + 1 + 1, 0, none⟩) (by dsimp only; omega) (.int .u8 me)) (p := ⟨w.heap.size + 1 + 1, 1, none⟩) (by dsimp only; omega) (.int .i64 ep)) (p := ⟨w.heap.size + 1 + 1, 2, none⟩) (by dsimp only; omega) (.int .i64 st)) (p := ⟨w.heap.size + 1 + 1, 3, none⟩) (by dsimp only; omega) (.int .u8 to)) (p := ⟨w.heap.size + 1 + 1, 4, none⟩) (by dsimp only; omega) (.string cg)) (p := ⟨w.heap.size + 1 + 1, 5, none⟩) (by dsimp only; omega) (.bool kp)) (p := ⟨w.heap.size + 1 + 1, 6, none⟩) (by dsimp only; omega) (.slice none 0 0)) (p := ⟨w.heap.size + 1 + 1, 7, none⟩) (by dsimp only; omega) (.int .i64 3))
      rw [hV8] at oV8
      have HV8 := Lib.hid (show ((((((((w4.alloc (.cells #[.int .i64 ep, .int .i64 st, .int .u8 to] 23)).setCell ⟨w.heap.size + 1 + 1, 0, none⟩ (.int .u8 me)).setCell ⟨w.heap.size + 1 + 1, 1, none⟩ (.int .i64 ep)).setCell ⟨w.heap.size + 1 + 1, 2, none⟩ (.int .i64 st)).setCell ⟨w.heap.size + 1 + 1, 3, none⟩ (.int .u8 to)).setCell ⟨w.heap.size + 1 + 1, 4, none⟩ (.string cg)).setCell ⟨w.heap.size + 1 + 1, 5, none⟩ (.bool kp)).setCell ⟨w.heap.size + 1 + 1, 6, none⟩ (.slice none 0 0)).setCell ⟨w.heap.size + 1 + 1, 7, none⟩ (.int .i64 3) = V8 by rw [HW6.out]; exact hV8)
      clear hV8
      clear r7_r r7_s r7_m r7_l nW6 l7
      go_wp2_with fail
      rw [HV8.out]
      have x_r0 : V8.cell? ⟨w.heap.size + 1 + 1, 0, none⟩ = some (.int .u8 me) := CB.cell nV8 0
      have x_r1 : V8.cell? ⟨w.heap.size + 1 + 1, 1, none⟩ = some (.int .i64 ep) := CB.cell nV8 1
      have x_r2 : V8.cell? ⟨w.heap.size + 1 + 1, 2, none⟩ = some (.int .i64 st) := CB.cell nV8 2
      have x_r3 : V8.cell? ⟨w.heap.size + 1 + 1, 3, none⟩ = some (.int .u8 to) := CB.cell nV8 3
      have x_r4 : V8.cell? ⟨w.heap.size + 1 + 1, 4, none⟩ = some (.string cg) := CB.cell nV8 4
      have x_r5 : V8.cell? ⟨w.heap.size + 1 + 1, 5, none⟩ = some (.bool kp) := CB.cell nV8 5
      have x_r6 : V8.cell? ⟨w.heap.size + 1 + 1, 6, none⟩ = some (.slice none 0 0) := CB.cell nV8 6
      have x_r7 : V8.cell? ⟨w.heap.size + 1 + 1, 7, none⟩ = some (.int .i64 3) := CB.cell nV8 7
      exact bodyPost_ret (v := .agg #[.int .u8 me, .int .i64 ep, .int .i64 st, .int .u8 to, .string cg, .bool kp, .slice none 0 0, .int .i64 3]) (by simp [results, Try.results43, go_sem, x_r0, x_r1, x_r2, x_r3, x_r4, x_r5, x_r6, x_r7]) rfl (TdPost.mk' me ep st to cg kp 3 [] H.out (RS.nil _ _ _ _) oV8)
    · have h2 : eGiveL ⟨ep, st, to⟩ fr = 0 := by unfold eGiveL; rw [hrt]; simp [hsp.1, hsp.2, hmx]; omega
      have h3 : sGiveL ⟨ep, st, to⟩ fr = ⟨ep, 2, fr⟩ := by unfold sGiveL; rw [h2]; rfl
      simp only [h2, h3] at G1
      have H := Lib.hid (show wantM ⟨me, ⟨ep, st, to⟩, cg, kp⟩ ⟨kd, fr, t, e, mg⟩ = ⟨⟨me, ⟨ep, 2, fr⟩, cg, true⟩, [⟨3, me, fr, ep + 1, cg⟩], 0⟩ by unfold wantM; simp only; rw [if_pos hsp, if_neg hmx, hsp.2])
      have G2 := fun W => gives_r me ep 2 fr cg true W hb1
      clear h1 h2 h3 hsp hmx hrt hs hm1 hm2 hm3 hm4 hm5 hm6 hb1
      obtain ⟨W1, hW1⟩ : ∃ V, (((w.alloc (.cells #[.int .u8 me, .int .i64 ep, .int .i64 st, .int .u8 to, .string cg, .bool kp] 25)).alloc (.cells #[.int .i64 kd, .int .u8 fr, .int .u8 t, .int .i64 e, .string mg] 27)).alloc (.cells #[.int .u8 0, .int .i64 0, .int .i64 0, .int .u8 0, .string ⟨#[]⟩, .bool false, .slice none 0 0, .int .i64 0] 40)).alloc (.cells #[.int .i64 ep, .int .i64 st, .int .u8 to] 23) = V := ⟨_, rfl⟩
      have nW1_s : CB W1 (w.heap.size) 25 #[.int .u8 me, .int .i64 ep, .int .i64 st, .int .u8 to, .string cg, .bool kp] := by
        rw [← hW1]
        have := ((((CB.new w 25 #[.int .u8 me, .int .i64 ep, .int .i64 st, .int .u8 to, .string cg, .bool kp]).alloc (.cells #[.int .i64 kd, .int .u8 fr, .int .u8 t, .int .i64 e, .string mg] 27)).alloc (.cells #[.int .u8 0, .int .i64 0, .int .i64 0, .int .u8 0, .string ⟨#[]⟩, .bool false, .slice none 0 0, .int .i64 0] 40)).alloc (.cells #[.int .i64 ep, .int .i64 st, .int .u8 to] 23))
        simpa using this
      have nW1_m : CB W1 (w.heap.size + 1) 27 #[.int .i64 kd, .int .u8 fr, .int .u8 t, .int .i64 e, .string mg] := by
        rw [← hW1]
        have := (((CB.new (w.alloc (.cells #[.int .u8 me, .int .i64 ep, .int .i64 st, .int .u8 to, .string cg, .bool kp] 25)) 27 #[.int .i64 kd, .int .u8 fr, .int .u8 t, .int .i64 e, .string mg]).alloc (.cells #[.int .u8 0, .int .i64 0, .int .i64 0, .int .u8 0, .string ⟨#[]⟩, .bool false, .slice none 0 0, .int .i64 0] 40)).alloc (.cells #[.int .i64 ep, .int .i64 st, .int .u8 to] 23))
        simpa using this
      have nW1_r : CB W1 (w.heap.size + 1 + 1) 40 #[.int .u8 0, .int .i64 0, .int .i64 0, .int .u8 0, .string ⟨#[]⟩, .bool false, .slice none 0 0, .int .i64 0] := by
        rw [← hW1]
        have := ((CB.new ((w.alloc (.cells #[.int .u8 me, .int .i64 ep, .int .i64 st, .int .u8 to, .string cg, .bool kp] 25)).alloc (.cells #[.int .i64 kd, .int .u8 fr, .int .u8 t, .int .i64 e, .string mg] 27)) 40 #[.int .u8 0, .int .i64 0, .int .i64 0, .int .u8 0, .string ⟨#[]⟩, .bool false, .slice none 0 0, .int .i64 0]).alloc (.cells #[.int .i64 ep, .int .i64 st, .int .u8 to] 23))
        simpa using this
      have nW1_l : CB W1 (w.heap.size + 1 + 1 + 1) 23 #[.int .i64 ep, .int .i64 st, .int .u8 to] := by
        rw [← hW1]
        have := (CB.new (((w.alloc (.cells #[.int .u8 me, .int .i64 ep, .int .i64 st, .int .u8 to, .string cg, .bool kp] 25)).alloc (.cells #[.int .i64 kd, .int .u8 fr, .int .u8 t, .int .i64 e, .string mg] 27)).alloc (.cells #[.int .u8 0, .int .i64 0, .int .i64 0, .int .u8 0, .string ⟨#[]⟩, .bool false, .slice none 0 0, .int .i64 0] 40)) 23 #[.int .i64 ep, .int .i64 st, .int .u8 to])
        simpa using this
      have neW1_01 : w.heap.size ≠ w.heap.size + 1 := by omega
      have neW1_02 : w.heap.size ≠ w.heap.size + 1 + 1 := by omega
      have neW1_03 : w.heap.size ≠ w.heap.size + 1 + 1 + 1 := by omega
      have neW1_12 : w.heap.size + 1 ≠ w.heap.size + 1 + 1 := by omega
      have neW1_13 : w.heap.size + 1 ≠ w.heap.size + 1 + 1 + 1 := by omega
      have neW1_23 : w.heap.size + 1 + 1 ≠ w.heap.size + 1 + 1 + 1 := by omega
      have lW1 : Below w.heap.size w W1 := by rw [← hW1]; exact le_tr (le_tr (le_tr (le_al _ _) (le_al _ _)) (le_al _ _)) (le_al _ _)
      have HW1 := Lib.hid hW1
      clear hW1
      go_enter Try.func43, Try.ntmps43
      go_wp2_with fail
      rw [HW1.out]
      refine (S1 _).mono ?_
      rintro e w2 ⟨rfl, b2⟩
      have r3_s := le_on nW1_s b2
      have r3_m := le_on nW1_m b2
      have r3_r := le_on nW1_r b2
      have r3_l := le_on nW1_l b2
      have l3 := le_tr lW1 b2
      clear nW1_s nW1_m nW1_r nW1_l lW1
      clear b2
      have f3_l0 : w2.cell? ⟨w.heap.size + 1 + 1 + 1, 0, none⟩ = some (.int .i64 ep) := CB.cell r3_l 0
      have f3_l1 : w2.cell? ⟨w.heap.size + 1 + 1 + 1, 1, none⟩ = some (.int .i64 st) := CB.cell r3_l 1
      have f3_l2 : w2.cell? ⟨w.heap.size + 1 + 1 + 1, 2, none⟩ = some (.int .u8 to) := CB.cell r3_l 2
      have f3_m0 : w2.cell? ⟨w.heap.size + 1, 0, none⟩ = some (.int .i64 kd) := CB.cell r3_m 0
      have f3_m1 : w2.cell? ⟨w.heap.size + 1, 1, none⟩ = some (.int .u8 fr) := CB.cell r3_m 1
      have f3_m2 : w2.cell? ⟨w.heap.size + 1, 2, none⟩ = some (.int .u8 t) := CB.cell r3_m 2
      have f3_m3 : w2.cell? ⟨w.heap.size + 1, 3, none⟩ = some (.int .i64 e) := CB.cell r3_m 3
      have f3_m4 : w2.cell? ⟨w.heap.size + 1, 4, none⟩ = some (.string mg) := CB.cell r3_m 4
      go_wp2_with fail
      refine (G1 _).mono ?_
      rintro e w4 ⟨rfl, b4⟩
      clear f3_l0 f3_l1 f3_l2 f3_m0 f3_m1 f3_m2 f3_m3 f3_m4
      have r5_s := le_on r3_s b4
      have r5_m := le_on r3_m b4
      have r5_r := le_on r3_r b4
      have r5_l := le_on r3_l b4
      have l5 := le_tr l3 b4
      clear r3_s r3_m r3_r r3_l l3
      clear b4
      have av_g : w.heap.size ≤ w4.heap.size := by have := l5.size; omega
      obtain ⟨W6, hW6⟩ : ∃ V, w4.alloc (.cells #[.int .i64 ep, .int .i64 2, .int .u8 fr] 23) = V := ⟨_, rfl⟩
      have zW6 : w4.heap.size = w4.heap.size := by rfl
      have nW6 : CB W6 (w4.heap.size) 23 #[.int .i64 ep, .int .i64 2, .int .u8 fr] := by rw [← zW6, ← hW6]; exact CB.new _ _ _
      have bW6 : Below w4.heap.size w4 W6 := by rw [← hW6]; exact le_al _ _
      have neW6_s : w.heap.size ≠ w4.heap.size := by have := CB.lt r5_s; omega
      have neW6_m : w.heap.size + 1 ≠ w4.heap.size := by have := CB.lt r5_m; omega
      have neW6_r : w.heap.size + 1 + 1 ≠ w4.heap.size := by have := CB.lt r5_r; omega
      have neW6_l : w.heap.size + 1 + 1 + 1 ≠ w4.heap.size := by have := CB.lt r5_l; omega
      have HW6 := Lib.hid hW6
      clear hW6 zW6
      have r7_s := le_on r5_s bW6
      have r7_m := le_on r5_m bW6
      have r7_r := le_on r5_r bW6
      have r7_l := le_on r5_l bW6
      have l7 := le_tr l5 bW6
      clear r5_s r5_m r5_r r5_l l5
      clear bW6
      have f7_g0 : (w4.alloc (.cells #[.int .i64 ep, .int .i64 2, .int .u8 fr] 23)).cell? ⟨w4.heap.size, 0, none⟩ = some (.int .i64 ep) := by rw [HW6.out]; exact CB.cell nW6 0
      have f7_g1 : (w4.alloc (.cells #[.int .i64 ep, .int .i64 2, .int .u8 fr] 23)).cell? ⟨w4.heap.size, 1, none⟩ = some (.int .i64 2) := by rw [HW6.out]; exact CB.cell nW6 1
      have f7_g2 : (w4.alloc (.cells #[.int .i64 ep, .int .i64 2, .int .u8 fr] 23)).cell? ⟨w4.heap.size, 2, none⟩ = some (.int .u8 fr) := by rw [HW6.out]; exact CB.cell nW6 2
      have f7_s0 : (w4.alloc (.cells #[.int .i64 ep, .int .i64 2, .int .u8 fr] 23)).cell? ⟨w.heap.size, 0, none⟩ = some (.int .u8 me) := by rw [HW6.out]; exact CB.cell r7_s 0
      have z7_s0 : (w4.alloc (.cells #[.int .i64 ep, .int .i64 2, .int .u8 fr] 23)).frozen? ⟨w.heap.size, 0, none⟩ = false := by rw [HW6.out]; exact CB.frozen r7_s 0
      have f7_s1 : (w4.alloc (.cells #[.int .i64 ep, .int .i64 2, .int .u8 fr] 23)).cell? ⟨w.heap.size, 1, none⟩ = some (.int .i64 ep) := by rw [HW6.out]; exact CB.cell r7_s 1
      have z7_s1 : (w4.alloc (.cells #[.int .i64 ep, .int .i64 2, .int .u8 fr] 23)).frozen? ⟨w.heap.size, 1, none⟩ = false := by rw [HW6.out]; exact CB.frozen r7_s 1
      have f7_s2 : (w4.alloc (.cells #[.int .i64 ep, .int .i64 2, .int .u8 fr] 23)).cell? ⟨w.heap.size, 2, none⟩ = some (.int .i64 st) := by rw [HW6.out]; exact CB.cell r7_s 2
      have z7_s2 : (w4.alloc (.cells #[.int .i64 ep, .int .i64 2, .int .u8 fr] 23)).frozen? ⟨w.heap.size, 2, none⟩ = false := by rw [HW6.out]; exact CB.frozen r7_s 2
      have f7_s3 : (w4.alloc (.cells #[.int .i64 ep, .int .i64 2, .int .u8 fr] 23)).cell? ⟨w.heap.size, 3, none⟩ = some (.int .u8 to) := by rw [HW6.out]; exact CB.cell r7_s 3
      have z7_s3 : (w4.alloc (.cells #[.int .i64 ep, .int .i64 2, .int .u8 fr] 23)).frozen? ⟨w.heap.size, 3, none⟩ = false := by rw [HW6.out]; exact CB.frozen r7_s 3
      have f7_s4 : (w4.alloc (.cells #[.int .i64 ep, .int .i64 2, .int .u8 fr] 23)).cell? ⟨w.heap.size, 4, none⟩ = some (.string cg) := by rw [HW6.out]; exact CB.cell r7_s 4
      have z7_s4 : (w4.alloc (.cells #[.int .i64 ep, .int .i64 2, .int .u8 fr] 23)).frozen? ⟨w.heap.size, 4, none⟩ = false := by rw [HW6.out]; exact CB.frozen r7_s 4
      have f7_s5 : (w4.alloc (.cells #[.int .i64 ep, .int .i64 2, .int .u8 fr] 23)).cell? ⟨w.heap.size, 5, none⟩ = some (.bool kp) := by rw [HW6.out]; exact CB.cell r7_s 5
      have z7_s5 : (w4.alloc (.cells #[.int .i64 ep, .int .i64 2, .int .u8 fr] 23)).frozen? ⟨w.heap.size, 5, none⟩ = false := by rw [HW6.out]; exact CB.frozen r7_s 5
      obtain ⟨V8, hV8⟩ : ∃ V, (((W6.setCell ⟨w.heap.size, 1, none⟩ (.int .i64 ep)).setCell ⟨w.heap.size, 2, none⟩ (.int .i64 2)).setCell ⟨w.heap.size, 3, none⟩ (.int .u8 fr)).setCell ⟨w.heap.size, 5, none⟩ (.bool true) = V := ⟨_, rfl⟩
      have nV8 : CB V8 (w.heap.size) 25 #[.int .u8 me, .int .i64 ep, .int .i64 2, .int .u8 fr, .string cg, .bool true] := by rw [← hV8]; exact cb_cast (CB.put (CB.put (CB.put (CB.put r7_s 1 (.int .i64 ep)) 2 (.int .i64 2)) 3 (.int .u8 fr)) 5 (.bool true)) (by kernel_rfl)
      have mV8_m : CB V8 (w.heap.size + 1) 27 #[.int .i64 kd, .int .u8 fr, .int .u8 t, .int .i64 e, .string mg] := by rw [← hV8]; exact (CB.far (CB.far (CB.far (CB.far r7_m (p := ⟨w.heap.size, 1, none⟩) (Ne.symm neW1_01) (.int .i64 ep)) (p := ⟨w.heap.size, 2, none⟩) (Ne.symm neW1_01) (.int .i64 2)) (p := ⟨w.heap.size, 3, none⟩) (Ne.symm neW1_01) (.int .u8 fr)) (p := ⟨w.heap.size, 5, none⟩) (Ne.symm neW1_01) (.bool true))
      have mV8_r : CB V8 (w.heap.size + 1 + 1) 40 #[.int .u8 0, .int .i64 0, .int .i64 0, .int .u8 0, .string ⟨#[]⟩, .bool false, .slice none 0 0, .int .i64 0] := by rw [← hV8]; exact (CB.far (CB.far (CB.far (CB.far r7_r (p := ⟨w.heap.size, 1, none⟩) (Ne.symm neW1_02) (.int .i64 ep)) (p := ⟨w.heap.size, 2, none⟩) (Ne.symm neW1_02) (.int .i64 2)) (p := ⟨w.heap.size, 3, none⟩) (Ne.symm neW1_02) (.int .u8 fr)) (p := ⟨w.heap.size, 5, none⟩) (Ne.symm neW1_02) (.bool true))
      have mV8_l : CB V8 (w.heap.size + 1 + 1 + 1) 23 #[.int .i64 ep, .int .i64 st, .int .u8 to] := by rw [← hV8]; exact (CB.far (CB.far (CB.far (CB.far r7_l (p := ⟨w.heap.size, 1, none⟩) (Ne.symm neW1_03) (.int .i64 ep)) (p := ⟨w.heap.size, 2, none⟩) (Ne.symm neW1_03) (.int .i64 2)) (p := ⟨w.heap.size, 3, none⟩) (Ne.symm neW1_03) (.int .u8 fr)) (p := ⟨w.heap.size, 5, none⟩) (Ne.symm neW1_03) (.bool true))
      have mV8_g : CB V8 (w4.heap.size) 23 #[.int .i64 ep, .int .i64 2, .int .u8 fr] := by rw [← hV8]; exact (CB.far (CB.far (CB.far (CB.far nW6 (p := ⟨w.heap.size, 1, none⟩) (Ne.symm neW6_s) (.int .i64 ep)) (p := ⟨w.heap.size, 2, none⟩) (Ne.symm neW6_s) (.int .i64 2)) (p := ⟨w.heap.size, 3, none⟩) (Ne.symm neW6_s) (.int .u8 fr)) (p := ⟨w.heap.size, 5, none⟩) (Ne.symm neW6_s) (.bool true))
      have oV8 := (Below.setCell (Below.setCell (Below.setCell (Below.setCell l7 (p := ⟨w.heap.size, 1, none⟩) (by dsimp only; omega) (.int .i64 ep)) (p := ⟨w.heap.size, 2, none⟩) (by dsimp only; omega) (.int .i64 2)) (p := ⟨w.heap.size, 3, none⟩) (by dsimp only; omega) (.int .u8 fr)) (p := ⟨w.heap.size, 5, none⟩) (by dsimp only; omega) (.bool true))
      rw [hV8] at oV8
      have HV8 := Lib.hid (show ((((w4.alloc (.cells #[.int .i64 ep, .int .i64 2, .int .u8 fr] 23)).setCell ⟨w.heap.size, 1, none⟩ (.int .i64 ep)).setCell ⟨w.heap.size, 2, none⟩ (.int .i64 2)).setCell ⟨w.heap.size, 3, none⟩ (.int .u8 fr)).setCell ⟨w.heap.size, 5, none⟩ (.bool true) = V8 by rw [HW6.out]; exact hV8)
      clear hV8
      clear r7_s r7_m r7_r r7_l nW6 l7
      go_wp2_with fail
      rw [HV8.out]
      clear f7_g0 f7_g1 f7_g2 f7_s0 z7_s0 f7_s1 z7_s1 f7_s2 z7_s2 f7_s3 z7_s3 f7_s4 z7_s4 f7_s5 z7_s5
      have y9 := Lib.hid (show (fun V : World => V.cell? ⟨w.heap.size, 0, none⟩ = some (.int .u8 me) ∧ V.cell? ⟨w.heap.size, 1, none⟩ = some (.int .i64 ep) ∧ V.cell? ⟨w.heap.size, 2, none⟩ = some (.int .i64 2) ∧ V.cell? ⟨w.heap.size, 3, none⟩ = some (.int .u8 fr) ∧ V.cell? ⟨w.heap.size, 4, none⟩ = some (.string cg) ∧ V.cell? ⟨w.heap.size, 5, none⟩ = some (.bool true)) V8 from ⟨CB.cell nV8 0, CB.cell nV8 1, CB.cell nV8 2, CB.cell nV8 3, CB.cell nV8 4, CB.cell nV8 5⟩)
      refine wp_region_held_drew (S := (fun V : World => V.cell? ⟨w.heap.size, 0, none⟩ = some (.int .u8 me) ∧ V.cell? ⟨w.heap.size, 1, none⟩ = some (.int .i64 ep) ∧ V.cell? ⟨w.heap.size, 2, none⟩ = some (.int .i64 2) ∧ V.cell? ⟨w.heap.size, 3, none⟩ = some (.int .u8 fr) ∧ V.cell? ⟨w.heap.size, 4, none⟩ = some (.string cg) ∧ V.cell? ⟨w.heap.size, 5, none⟩ = some (.bool true))) (by kernel_rfl) y9.out (fun hHeld => ?_)
      obtain ⟨D9, hD9⟩ : ∃ V, V8.drew = V := ⟨_, rfl⟩
      have b9 : Below V8.heap.size V8 D9 := by rw [← hD9]; exact le_dr (Below.refl _ _)
      rw [hD9] at hHeld ⊢
      clear hD9
      have r10_s := le_on nV8 b9
      have r10_m := le_on mV8_m b9
      have r10_r := le_on mV8_r b9
      have r10_l := le_on mV8_l b9
      have r10_g := le_on mV8_g b9
      have l10 := le_tr oV8 b9
      clear nV8 mV8_m mV8_r mV8_l mV8_g oV8
      clear b9
      refine wpAnyH_takeL (i := 0) (d := some 30) (v := .agg #[.int .u8 me, .int .i64 ep, .int .i64 2, .int .u8 fr, .string cg, .bool true]) rfl rfl (by kernel_rfl) (by kernel_rfl) (by kernel_rfl) (fun _ _ _ h => h) (Or.inl ⟨by rfl, ?_⟩) hHeld ?_
      · intro w hSw; (try dsimp only at hSw); go_simp
      try simp only [Act.put, List.setIfInBounds_toArray, List.set_cons_zero, List.set_cons_succ]
      refine wpAnyH_takeL (i := 1) (d := some 31) (v := .agg #[.int .u8 me, .int .i64 ep, .int .i64 2, .int .u8 fr, .string cg, .bool true]) rfl rfl (by kernel_rfl) (by kernel_rfl) (by kernel_rfl) (fun _ _ _ h => h) (Or.inl ⟨by rfl, ?_⟩) hHeld ?_
      · intro w hSw; (try dsimp only at hSw); go_simp
      try simp only [Act.put, List.setIfInBounds_toArray, List.set_cons_zero, List.set_cons_succ]
      refine wpAnyH_ready (rs := [2]) (by kernel_rfl) (by simp) ?_
      refine AllReadyH.cons rfl (fun K hK => ?_) AllReadyH.nil
      go_simp
      refine (G2 _).mono ?_
      rintro e u11 ⟨rfl, b11⟩
      have r12_s := le_on r10_s b11
      have r12_m := le_on r10_m b11
      have r12_r := le_on r10_r b11
      have r12_l := le_on r10_l b11
      have r12_g := le_on r10_g b11
      have l12 := le_tr l10 b11
      clear r10_s r10_m r10_r r10_l r10_g l10
      clear b11
      go_wp2_with fail
      have y13 := Lib.hid (show (fun V : World => V.cell? ⟨w.heap.size, 0, none⟩ = some (.int .u8 me) ∧ V.cell? ⟨w.heap.size, 1, none⟩ = some (.int .i64 ep) ∧ V.cell? ⟨w.heap.size, 2, none⟩ = some (.int .i64 2) ∧ V.cell? ⟨w.heap.size, 3, none⟩ = some (.int .u8 fr) ∧ V.cell? ⟨w.heap.size, 4, none⟩ = some (.string cg) ∧ V.cell? ⟨w.heap.size, 5, none⟩ = some (.bool true)) u11 from ⟨CB.cell r12_s 0, CB.cell r12_s 1, CB.cell r12_s 2, CB.cell r12_s 3, CB.cell r12_s 4, CB.cell r12_s 5⟩)
      refine hK.out _ _ y13.out (fun hHeld => ?_)
      clear hK K y13
      try simp only [Act.put, List.setIfInBounds_toArray, List.set_cons_zero, List.set_cons_succ]
      refine wpAnyH_ready (rs := [3]) (by kernel_rfl) (by simp) ?_
      refine AllReadyH.cons rfl (fun K hK => ?_) AllReadyH.nil
      go_simp
      go_wp2_with fail
      have av_z : w.heap.size ≤ u11.heap.size := by have := l12.size; omega
      obtain ⟨W14, hW14⟩ : ∃ V, u11.alloc (.cells #[.int .i64 3, .int .u8 me, .int .u8 fr, .int .i64 (ep + 1), .string cg] 27) = V := ⟨_, rfl⟩
      have zW14 : u11.heap.size = u11.heap.size := by rfl
      have nW14 : CB W14 (u11.heap.size) 27 #[.int .i64 3, .int .u8 me, .int .u8 fr, .int .i64 (ep + 1), .string cg] := by rw [← zW14, ← hW14]; exact CB.new _ _ _
      have bW14 : Below u11.heap.size u11 W14 := by rw [← hW14]; exact le_al _ _
      have neW14_s : w.heap.size ≠ u11.heap.size := by have := CB.lt r12_s; omega
      have neW14_m : w.heap.size + 1 ≠ u11.heap.size := by have := CB.lt r12_m; omega
      have neW14_r : w.heap.size + 1 + 1 ≠ u11.heap.size := by have := CB.lt r12_r; omega
      have neW14_l : w.heap.size + 1 + 1 + 1 ≠ u11.heap.size := by have := CB.lt r12_l; omega
      have neW14_g : w4.heap.size ≠ u11.heap.size := by have := CB.lt r12_g; omega
      have HW14 := Lib.hid hW14
      clear hW14 zW14
      have r15_s := le_on r12_s bW14
      have r15_m := le_on r12_m bW14
      have r15_r := le_on r12_r bW14
      have r15_l := le_on r12_l bW14
      have r15_g := le_on r12_g bW14
      have l15 := le_tr l12 bW14
      clear r12_s r12_m r12_r r12_l r12_g l12
      clear bW14
      rw [HW14.out]
      have y16 := Lib.hid (show (fun V : World => V.cell? ⟨w.heap.size, 0, none⟩ = some (.int .u8 me) ∧ V.cell? ⟨w.heap.size, 1, none⟩ = some (.int .i64 ep) ∧ V.cell? ⟨w.heap.size, 2, none⟩ = some (.int .i64 2) ∧ V.cell? ⟨w.heap.size, 3, none⟩ = some (.int .u8 fr) ∧ V.cell? ⟨w.heap.size, 4, none⟩ = some (.string cg) ∧ V.cell? ⟨w.heap.size, 5, none⟩ = some (.bool true)) W14 from ⟨CB.cell r15_s 0, CB.cell r15_s 1, CB.cell r15_s 2, CB.cell r15_s 3, CB.cell r15_s 4, CB.cell r15_s 5⟩)
      refine hK.out _ _ y16.out (fun hHeld => ?_)
      clear hK K y16
      try simp only [Act.put, List.setIfInBounds_toArray, List.set_cons_zero, List.set_cons_succ]
      refine wpAnyH_takeL (i := 4) (d := some 34) (v := .agg #[.int .u8 me, .int .i64 ep, .int .i64 2, .int .u8 fr, .string cg, .bool true, .slice (some ⟨u11.heap.size, 0, none⟩) 1 1, .int .i64 0]) rfl rfl (by kernel_rfl) (by kernel_rfl) (by kernel_rfl) (fun _ _ _ h => h) (Or.inl ⟨by rfl, ?_⟩) hHeld ?_
      · intro w hSw; (try dsimp only at hSw); go_simp
      try simp only [Act.put, List.setIfInBounds_toArray, List.set_cons_zero, List.set_cons_succ]
      refine wpAnyH_ready (rs := [5]) (by kernel_rfl) (by simp) ?_
      refine AllReadyH.cons rfl (fun K hK => ?_) AllReadyH.nil
      have f16_r0 : W14.cell? ⟨w.heap.size + 1 + 1, 0, none⟩ = some (.int .u8 0) := CB.cell r15_r 0
      have z16_r0 : W14.frozen? ⟨w.heap.size + 1 + 1, 0, none⟩ = false := CB.frozen r15_r 0
      have f16_r1 : W14.cell? ⟨w.heap.size + 1 + 1, 1, none⟩ = some (.int .i64 0) := CB.cell r15_r 1
      have z16_r1 : W14.frozen? ⟨w.heap.size + 1 + 1, 1, none⟩ = false := CB.frozen r15_r 1
      have f16_r2 : W14.cell? ⟨w.heap.size + 1 + 1, 2, none⟩ = some (.int .i64 0) := CB.cell r15_r 2
      have z16_r2 : W14.frozen? ⟨w.heap.size + 1 + 1, 2, none⟩ = false := CB.frozen r15_r 2
      have f16_r3 : W14.cell? ⟨w.heap.size + 1 + 1, 3, none⟩ = some (.int .u8 0) := CB.cell r15_r 3
      have z16_r3 : W14.frozen? ⟨w.heap.size + 1 + 1, 3, none⟩ = false := CB.frozen r15_r 3
      have f16_r4 : W14.cell? ⟨w.heap.size + 1 + 1, 4, none⟩ = some (.string ⟨#[]⟩) := CB.cell r15_r 4
      have z16_r4 : W14.frozen? ⟨w.heap.size + 1 + 1, 4, none⟩ = false := CB.frozen r15_r 4
      have f16_r5 : W14.cell? ⟨w.heap.size + 1 + 1, 5, none⟩ = some (.bool false) := CB.cell r15_r 5
      have z16_r5 : W14.frozen? ⟨w.heap.size + 1 + 1, 5, none⟩ = false := CB.frozen r15_r 5
      have f16_r6 : W14.cell? ⟨w.heap.size + 1 + 1, 6, none⟩ = some (.slice none 0 0) := CB.cell r15_r 6
      have z16_r6 : W14.frozen? ⟨w.heap.size + 1 + 1, 6, none⟩ = false := CB.frozen r15_r 6
      have f16_r7 : W14.cell? ⟨w.heap.size + 1 + 1, 7, none⟩ = some (.int .i64 0) := CB.cell r15_r 7
      have z16_r7 : W14.frozen? ⟨w.heap.size + 1 + 1, 7, none⟩ = false := CB.frozen r15_r 7
      go_simp
      go_wp2_with fail
      have f16_r0 : W14.cell? ⟨w.heap.size + 1 + 1, 0, none⟩ = some (.int .u8 0) := CB.cell r15_r 0
      have z16_r0 : W14.frozen? ⟨w.heap.size + 1 + 1, 0, none⟩ = false := CB.frozen r15_r 0
      have f16_r1 : W14.cell? ⟨w.heap.size + 1 + 1, 1, none⟩ = some (.int .i64 0) := CB.cell r15_r 1
      have z16_r1 : W14.frozen? ⟨w.heap.size + 1 + 1, 1, none⟩ = false := CB.frozen r15_r 1
      have f16_r2 : W14.cell? ⟨w.heap.size + 1 + 1, 2, none⟩ = some (.int .i64 0) := CB.cell r15_r 2
      have z16_r2 : W14.frozen? ⟨w.heap.size + 1 + 1, 2, none⟩ = false := CB.frozen r15_r 2
      have f16_r3 : W14.cell? ⟨w.heap.size + 1 + 1, 3, none⟩ = some (.int .u8 0) := CB.cell r15_r 3
      have z16_r3 : W14.frozen? ⟨w.heap.size + 1 + 1, 3, none⟩ = false := CB.frozen r15_r 3
      have f16_r4 : W14.cell? ⟨w.heap.size + 1 + 1, 4, none⟩ = some (.string ⟨#[]⟩) := CB.cell r15_r 4
      have z16_r4 : W14.frozen? ⟨w.heap.size + 1 + 1, 4, none⟩ = false := CB.frozen r15_r 4
      have f16_r5 : W14.cell? ⟨w.heap.size + 1 + 1, 5, none⟩ = some (.bool false) := CB.cell r15_r 5
      have z16_r5 : W14.frozen? ⟨w.heap.size + 1 + 1, 5, none⟩ = false := CB.frozen r15_r 5
      have f16_r6 : W14.cell? ⟨w.heap.size + 1 + 1, 6, none⟩ = some (.slice none 0 0) := CB.cell r15_r 6
      have z16_r6 : W14.frozen? ⟨w.heap.size + 1 + 1, 6, none⟩ = false := CB.frozen r15_r 6
      have f16_r7 : W14.cell? ⟨w.heap.size + 1 + 1, 7, none⟩ = some (.int .i64 0) := CB.cell r15_r 7
      have z16_r7 : W14.frozen? ⟨w.heap.size + 1 + 1, 7, none⟩ = false := CB.frozen r15_r 7
      obtain ⟨V17, hV17⟩ : ∃ V, (((((((W14.setCell ⟨w.heap.size + 1 + 1, 0, none⟩ (.int .u8 me)).setCell ⟨w.heap.size + 1 + 1, 1, none⟩ (.int .i64 ep)).setCell ⟨w.heap.size + 1 + 1, 2, none⟩ (.int .i64 2)).setCell ⟨w.heap.size + 1 + 1, 3, none⟩ (.int .u8 fr)).setCell ⟨w.heap.size + 1 + 1, 4, none⟩ (.string cg)).setCell ⟨w.heap.size + 1 + 1, 5, none⟩ (.bool true)).setCell ⟨w.heap.size + 1 + 1, 6, none⟩ (.slice (some ⟨u11.heap.size, 0, none⟩) 1 1)).setCell ⟨w.heap.size + 1 + 1, 7, none⟩ (.int .i64 0) = V := ⟨_, rfl⟩
      have nV17 : CB V17 (w.heap.size + 1 + 1) 40 #[.int .u8 me, .int .i64 ep, .int .i64 2, .int .u8 fr, .string cg, .bool true, .slice (some ⟨u11.heap.size, 0, none⟩) 1 1, .int .i64 0] := by rw [← hV17]; exact cb_cast (CB.put (CB.put (CB.put (CB.put (CB.put (CB.put (CB.put (CB.put r15_r 0 (.int .u8 me)) 1 (.int .i64 ep)) 2 (.int .i64 2)) 3 (.int .u8 fr)) 4 (.string cg)) 5 (.bool true)) 6 (.slice (some ⟨u11.heap.size, 0, none⟩) 1 1)) 7 (.int .i64 0)) (by kernel_rfl)
      have mV17_s : CB V17 (w.heap.size) 25 #[.int .u8 me, .int .i64 ep, .int .i64 2, .int .u8 fr, .string cg, .bool true] := by rw [← hV17]; exact (CB.far (CB.far (CB.far (CB.far (CB.far (CB.far (CB.far (CB.far r15_s (p := ⟨w.heap.size + 1 + 1, 0, none⟩) neW1_02 (.int .u8 me)) (p := ⟨w.heap.size + 1 + 1, 1, none⟩) neW1_02 (.int .i64 ep)) (p := ⟨w.heap.size + 1 + 1, 2, none⟩) neW1_02 (.int .i64 2)) (p := ⟨w.heap.size + 1 + 1, 3, none⟩) neW1_02 (.int .u8 fr)) (p := ⟨w.heap.size + 1 + 1, 4, none⟩) neW1_02 (.string cg)) (p := ⟨w.heap.size + 1 + 1, 5, none⟩) neW1_02 (.bool true)) (p := ⟨w.heap.size + 1 + 1, 6, none⟩) neW1_02 (.slice (some ⟨u11.heap.size, 0, none⟩) 1 1)) (p := ⟨w.heap.size + 1 + 1, 7, none⟩) neW1_02 (.int .i64 0))
      have mV17_m : CB V17 (w.heap.size + 1) 27 #[.int .i64 kd, .int .u8 fr, .int .u8 t, .int .i64 e, .string mg] := by rw [← hV17]; exact (CB.far (CB.far (CB.far (CB.far (CB.far (CB.far (CB.far (CB.far r15_m (p := ⟨w.heap.size + 1 + 1, 0, none⟩) neW1_12 (.int .u8 me)) (p := ⟨w.heap.size + 1 + 1, 1, none⟩) neW1_12 (.int .i64 ep)) (p := ⟨w.heap.size + 1 + 1, 2, none⟩) neW1_12 (.int .i64 2)) (p := ⟨w.heap.size + 1 + 1, 3, none⟩) neW1_12 (.int .u8 fr)) (p := ⟨w.heap.size + 1 + 1, 4, none⟩) neW1_12 (.string cg)) (p := ⟨w.heap.size + 1 + 1, 5, none⟩) neW1_12 (.bool true)) (p := ⟨w.heap.size + 1 + 1, 6, none⟩) neW1_12 (.slice (some ⟨u11.heap.size, 0, none⟩) 1 1)) (p := ⟨w.heap.size + 1 + 1, 7, none⟩) neW1_12 (.int .i64 0))
      have mV17_l : CB V17 (w.heap.size + 1 + 1 + 1) 23 #[.int .i64 ep, .int .i64 st, .int .u8 to] := by rw [← hV17]; exact (CB.far (CB.far (CB.far (CB.far (CB.far (CB.far (CB.far (CB.far r15_l (p := ⟨w.heap.size + 1 + 1, 0, none⟩) (Ne.symm neW1_23) (.int .u8 me)) (p := ⟨w.heap.size + 1 + 1, 1, none⟩) (Ne.symm neW1_23) (.int .i64 ep)) (p := ⟨w.heap.size + 1 + 1, 2, none⟩) (Ne.symm neW1_23) (.int .i64 2)) (p := ⟨w.heap.size + 1 + 1, 3, none⟩) (Ne.symm neW1_23) (.int .u8 fr)) (p := ⟨w.heap.size + 1 + 1, 4, none⟩) (Ne.symm neW1_23) (.string cg)) (p := ⟨w.heap.size + 1 + 1, 5, none⟩) (Ne.symm neW1_23) (.bool true)) (p := ⟨w.heap.size + 1 + 1, 6, none⟩) (Ne.symm neW1_23) (.slice (some ⟨u11.heap.size, 0, none⟩) 1 1)) (p := ⟨w.heap.size + 1 + 1, 7, none⟩) (Ne.symm neW1_23) (.int .i64 0))
      have mV17_g : CB V17 (w4.heap.size) 23 #[.int .i64 ep, .int .i64 2, .int .u8 fr] := by rw [← hV17]; exact (CB.far (CB.far (CB.far (CB.far (CB.far (CB.far (CB.far (CB.far r15_g (p := ⟨w.heap.size + 1 + 1, 0, none⟩) (Ne.symm neW6_r) (.int .u8 me)) (p := ⟨w.heap.size + 1 + 1, 1, none⟩) (Ne.symm neW6_r) (.int .i64 ep)) (p := ⟨w.heap.size + 1 + 1, 2, none⟩) (Ne.symm neW6_r) (.int .i64 2)) (p := ⟨w.heap.size + 1 + 1, 3, none⟩) (Ne.symm neW6_r) (.int .u8 fr)) (p := ⟨w.heap.size + 1 + 1, 4, none⟩) (Ne.symm neW6_r) (.string cg)) (p := ⟨w.heap.size + 1 + 1, 5, none⟩) (Ne.symm neW6_r) (.bool true)) (p := ⟨w.heap.size + 1 + 1, 6, none⟩) (Ne.symm neW6_r) (.slice (some ⟨u11.heap.size, 0, none⟩) 1 1)) (p := ⟨w.heap.size + 1 + 1, 7, none⟩) (Ne.symm neW6_r) (.int .i64 0))
      have mV17_z : CB V17 (u11.heap.size) 27 #[.int .i64 3, .int .u8 me, .int .u8 fr, .int .i64 (ep + 1), .string cg] := by rw [← hV17]; exact (CB.far (CB.far (CB.far (CB.far (CB.far (CB.far (CB.far (CB.far nW14 (p := ⟨w.heap.size + 1 + 1, 0, none⟩) (Ne.symm neW14_r) (.int .u8 me)) (p := ⟨w.heap.size + 1 + 1, 1, none⟩) (Ne.symm neW14_r) (.int .i64 ep)) (p := ⟨w.heap.size + 1 + 1, 2, none⟩) (Ne.symm neW14_r) (.int .i64 2)) (p := ⟨w.heap.size + 1 + 1, 3, none⟩) (Ne.symm neW14_r) (.int .u8 fr)) (p := ⟨w.heap.size + 1 + 1, 4, none⟩) (Ne.symm neW14_r) (.string cg)) (p := ⟨w.heap.size + 1 + 1, 5, none⟩) (Ne.symm neW14_r) (.bool true)) (p := ⟨w.heap.size + 1 + 1, 6, none⟩) (Ne.symm neW14_r) (.slice (some ⟨u11.heap.size, 0, none⟩) 1 1)) (p := ⟨w.heap.size + 1 + 1, 7, none⟩) (Ne.symm neW14_r) (.int .i64 0))
      have oV17 := (Below.setCell (Below.setCell (Below.setCell (Below.setCell (Below.setCell (Below.setCell (Below.setCell (Below.setCell l15 (p := ⟨w.heap.size + 1 + 1, 0, none⟩) (by dsimp only; omega) (.int .u8 me)) (p := ⟨w.heap.size + 1 + 1, 1, none⟩) (by dsimp only; omega) (.int .i64 ep)) (p := ⟨w.heap.size + 1 + 1, 2, none⟩) (by dsimp only; omega) (.int .i64 2)) (p := ⟨w.heap.size + 1 + 1, 3, none⟩) (by dsimp only; omega) (.int .u8 fr)) (p := ⟨w.heap.size + 1 + 1, 4, none⟩) (by dsimp only; omega) (.string cg)) (p := ⟨w.heap.size + 1 + 1, 5, none⟩) (by dsimp only; omega) (.bool true)) (p := ⟨w.heap.size + 1 + 1, 6, none⟩) (by dsimp only; omega) (.slice (some ⟨u11.heap.size, 0, none⟩) 1 1)) (p := ⟨w.heap.size + 1 + 1, 7, none⟩) (by dsimp only; omega) (.int .i64 0))
      rw [hV17] at oV17
      have HV17 := Lib.hid hV17
      clear hV17
      clear r15_r r15_s r15_m r15_l r15_g nW14 l15
      rw [HV17.out]
      clear f16_r0 z16_r0 f16_r1 z16_r1 f16_r2 z16_r2 f16_r3 z16_r3 f16_r4 z16_r4 f16_r5 z16_r5 f16_r6 z16_r6 f16_r7 z16_r7
      have y18 := Lib.hid (show (fun V : World => V.cell? ⟨w.heap.size, 0, none⟩ = some (.int .u8 me) ∧ V.cell? ⟨w.heap.size, 1, none⟩ = some (.int .i64 ep) ∧ V.cell? ⟨w.heap.size, 2, none⟩ = some (.int .i64 2) ∧ V.cell? ⟨w.heap.size, 3, none⟩ = some (.int .u8 fr) ∧ V.cell? ⟨w.heap.size, 4, none⟩ = some (.string cg) ∧ V.cell? ⟨w.heap.size, 5, none⟩ = some (.bool true)) V17 from ⟨CB.cell mV17_s 0, CB.cell mV17_s 1, CB.cell mV17_s 2, CB.cell mV17_s 3, CB.cell mV17_s 4, CB.cell mV17_s 5⟩)
      refine hK.out _ _ y18.out (fun hHeld => ?_)
      clear hK K y18
      try simp only [Act.put, List.setIfInBounds_toArray, List.set_cons_zero, List.set_cons_succ]
      refine wpAnyH_done (by kernel_rfl) ?_ _
      go_wp2_with fail
      have x_r0 : V17.cell? ⟨w.heap.size + 1 + 1, 0, none⟩ = some (.int .u8 me) := CB.cell nV17 0
      have x_r1 : V17.cell? ⟨w.heap.size + 1 + 1, 1, none⟩ = some (.int .i64 ep) := CB.cell nV17 1
      have x_r2 : V17.cell? ⟨w.heap.size + 1 + 1, 2, none⟩ = some (.int .i64 2) := CB.cell nV17 2
      have x_r3 : V17.cell? ⟨w.heap.size + 1 + 1, 3, none⟩ = some (.int .u8 fr) := CB.cell nV17 3
      have x_r4 : V17.cell? ⟨w.heap.size + 1 + 1, 4, none⟩ = some (.string cg) := CB.cell nV17 4
      have x_r5 : V17.cell? ⟨w.heap.size + 1 + 1, 5, none⟩ = some (.bool true) := CB.cell nV17 5
      have x_r6 : V17.cell? ⟨w.heap.size + 1 + 1, 6, none⟩ = some (.slice (some ⟨u11.heap.size, 0, none⟩) 1 1) := CB.cell nV17 6
      have x_r7 : V17.cell? ⟨w.heap.size + 1 + 1, 7, none⟩ = some (.int .i64 0) := CB.cell nV17 7
      exact bodyPost_ret (v := .agg #[.int .u8 me, .int .i64 ep, .int .i64 2, .int .u8 fr, .string cg, .bool true, .slice (some ⟨u11.heap.size, 0, none⟩) 1 1, .int .i64 0]) (by simp [results, Try.results43, go_sem, x_r0, x_r1, x_r2, x_r3, x_r4, x_r5, x_r6, x_r7]) rfl (TdPost.mk' (me) (ep) (2) (fr) (cg) (true) 0 _ H.out (RS.of_cb mV17_z) oV17)
  · have h1 : speaksL ⟨ep, st, to⟩ e = false := by unfold speaksL; rw [hrt]; simp; intro a b; exact hsp ⟨a, b⟩
    simp only [h1] at S1
    by_cases hk : st = 2 ∧ ep = e ∧ to = fr ∧ kp = true
    · have t1 : (st == 2) = true := by simp [hk.1]
      have t2 : (ep == e) = true := by simp [hk.2.1]
      have t3 : (to == fr) = true := by simp [hk.2.2.1]
      have t4 := hk.2.2.2
      have G2 := fun W => gives_r me ep st to cg true W hb1
      have H := Lib.hid (show wantM ⟨me, ⟨ep, st, to⟩, cg, kp⟩ ⟨kd, fr, t, e, mg⟩ = ⟨⟨me, ⟨ep, st, to⟩, cg, true⟩, [⟨3, me, to, ep + 1, cg⟩], 0⟩ by unfold wantM; simp only; rw [if_neg hsp, if_pos hk, hk.2.2.1, hk.2.1, hk.2.2.2])
      clear h1 hk hsp hrt hs hm1 hm2 hm3 hm4 hm5 hm6 hb1
      subst t4
      obtain ⟨W1, hW1⟩ : ∃ V, (((w.alloc (.cells #[.int .u8 me, .int .i64 ep, .int .i64 st, .int .u8 to, .string cg, .bool true] 25)).alloc (.cells #[.int .i64 kd, .int .u8 fr, .int .u8 t, .int .i64 e, .string mg] 27)).alloc (.cells #[.int .u8 0, .int .i64 0, .int .i64 0, .int .u8 0, .string ⟨#[]⟩, .bool false, .slice none 0 0, .int .i64 0] 40)).alloc (.cells #[.int .i64 ep, .int .i64 st, .int .u8 to] 23) = V := ⟨_, rfl⟩
      have nW1_s : CB W1 (w.heap.size) 25 #[.int .u8 me, .int .i64 ep, .int .i64 st, .int .u8 to, .string cg, .bool true] := by
        rw [← hW1]
        have := ((((CB.new w 25 #[.int .u8 me, .int .i64 ep, .int .i64 st, .int .u8 to, .string cg, .bool true]).alloc (.cells #[.int .i64 kd, .int .u8 fr, .int .u8 t, .int .i64 e, .string mg] 27)).alloc (.cells #[.int .u8 0, .int .i64 0, .int .i64 0, .int .u8 0, .string ⟨#[]⟩, .bool false, .slice none 0 0, .int .i64 0] 40)).alloc (.cells #[.int .i64 ep, .int .i64 st, .int .u8 to] 23))
        simpa using this
      have nW1_m : CB W1 (w.heap.size + 1) 27 #[.int .i64 kd, .int .u8 fr, .int .u8 t, .int .i64 e, .string mg] := by
        rw [← hW1]
        have := (((CB.new (w.alloc (.cells #[.int .u8 me, .int .i64 ep, .int .i64 st, .int .u8 to, .string cg, .bool true] 25)) 27 #[.int .i64 kd, .int .u8 fr, .int .u8 t, .int .i64 e, .string mg]).alloc (.cells #[.int .u8 0, .int .i64 0, .int .i64 0, .int .u8 0, .string ⟨#[]⟩, .bool false, .slice none 0 0, .int .i64 0] 40)).alloc (.cells #[.int .i64 ep, .int .i64 st, .int .u8 to] 23))
        simpa using this
      have nW1_r : CB W1 (w.heap.size + 1 + 1) 40 #[.int .u8 0, .int .i64 0, .int .i64 0, .int .u8 0, .string ⟨#[]⟩, .bool false, .slice none 0 0, .int .i64 0] := by
        rw [← hW1]
        have := ((CB.new ((w.alloc (.cells #[.int .u8 me, .int .i64 ep, .int .i64 st, .int .u8 to, .string cg, .bool true] 25)).alloc (.cells #[.int .i64 kd, .int .u8 fr, .int .u8 t, .int .i64 e, .string mg] 27)) 40 #[.int .u8 0, .int .i64 0, .int .i64 0, .int .u8 0, .string ⟨#[]⟩, .bool false, .slice none 0 0, .int .i64 0]).alloc (.cells #[.int .i64 ep, .int .i64 st, .int .u8 to] 23))
        simpa using this
      have nW1_l : CB W1 (w.heap.size + 1 + 1 + 1) 23 #[.int .i64 ep, .int .i64 st, .int .u8 to] := by
        rw [← hW1]
        have := (CB.new (((w.alloc (.cells #[.int .u8 me, .int .i64 ep, .int .i64 st, .int .u8 to, .string cg, .bool true] 25)).alloc (.cells #[.int .i64 kd, .int .u8 fr, .int .u8 t, .int .i64 e, .string mg] 27)).alloc (.cells #[.int .u8 0, .int .i64 0, .int .i64 0, .int .u8 0, .string ⟨#[]⟩, .bool false, .slice none 0 0, .int .i64 0] 40)) 23 #[.int .i64 ep, .int .i64 st, .int .u8 to])
        simpa using this
      have neW1_01 : w.heap.size ≠ w.heap.size + 1 := by omega
      have neW1_02 : w.heap.size ≠ w.heap.size + 1 + 1 := by omega
      have neW1_03 : w.heap.size ≠ w.heap.size + 1 + 1 + 1 := by omega
      have neW1_12 : w.heap.size + 1 ≠ w.heap.size + 1 + 1 := by omega
      have neW1_13 : w.heap.size + 1 ≠ w.heap.size + 1 + 1 + 1 := by omega
      have neW1_23 : w.heap.size + 1 + 1 ≠ w.heap.size + 1 + 1 + 1 := by omega
      have lW1 : Below w.heap.size w W1 := by rw [← hW1]; exact le_tr (le_tr (le_tr (le_al _ _) (le_al _ _)) (le_al _ _)) (le_al _ _)
      have HW1 := Lib.hid hW1
      clear hW1
      go_enter Try.func43, Try.ntmps43
      go_wp2_with fail
      rw [HW1.out]
      refine (S1 _).mono ?_
      rintro e w2 ⟨rfl, b2⟩
      have r3_s := le_on nW1_s b2
      have r3_m := le_on nW1_m b2
      have r3_r := le_on nW1_r b2
      have r3_l := le_on nW1_l b2
      have l3 := le_tr lW1 b2
      clear nW1_s nW1_m nW1_r nW1_l lW1
      clear b2
      have f3_s0 : w2.cell? ⟨w.heap.size, 0, none⟩ = some (.int .u8 me) := CB.cell r3_s 0
      have f3_s1 : w2.cell? ⟨w.heap.size, 1, none⟩ = some (.int .i64 ep) := CB.cell r3_s 1
      have f3_s2 : w2.cell? ⟨w.heap.size, 2, none⟩ = some (.int .i64 st) := CB.cell r3_s 2
      have f3_s3 : w2.cell? ⟨w.heap.size, 3, none⟩ = some (.int .u8 to) := CB.cell r3_s 3
      have f3_s4 : w2.cell? ⟨w.heap.size, 4, none⟩ = some (.string cg) := CB.cell r3_s 4
      have f3_s5 : w2.cell? ⟨w.heap.size, 5, none⟩ = some (.bool true) := CB.cell r3_s 5
      have f3_m0 : w2.cell? ⟨w.heap.size + 1, 0, none⟩ = some (.int .i64 kd) := CB.cell r3_m 0
      have f3_m1 : w2.cell? ⟨w.heap.size + 1, 1, none⟩ = some (.int .u8 fr) := CB.cell r3_m 1
      have f3_m2 : w2.cell? ⟨w.heap.size + 1, 2, none⟩ = some (.int .u8 t) := CB.cell r3_m 2
      have f3_m3 : w2.cell? ⟨w.heap.size + 1, 3, none⟩ = some (.int .i64 e) := CB.cell r3_m 3
      have f3_m4 : w2.cell? ⟨w.heap.size + 1, 4, none⟩ = some (.string mg) := CB.cell r3_m 4
      have f3_l0 : w2.cell? ⟨w.heap.size + 1 + 1 + 1, 0, none⟩ = some (.int .i64 ep) := CB.cell r3_l 0
      have f3_l1 : w2.cell? ⟨w.heap.size + 1 + 1 + 1, 1, none⟩ = some (.int .i64 st) := CB.cell r3_l 1
      have f3_l2 : w2.cell? ⟨w.heap.size + 1 + 1 + 1, 2, none⟩ = some (.int .u8 to) := CB.cell r3_l 2
      go_wp2_with fail
      clear f3_s0 f3_s1 f3_s2 f3_s3 f3_s4 f3_s5 f3_m0 f3_m1 f3_m2 f3_m3 f3_m4 f3_l0 f3_l1 f3_l2
      have y4 := Lib.hid (show (fun V : World => V.cell? ⟨w.heap.size, 0, none⟩ = some (.int .u8 me) ∧ V.cell? ⟨w.heap.size, 1, none⟩ = some (.int .i64 ep) ∧ V.cell? ⟨w.heap.size, 2, none⟩ = some (.int .i64 st) ∧ V.cell? ⟨w.heap.size, 3, none⟩ = some (.int .u8 to) ∧ V.cell? ⟨w.heap.size, 4, none⟩ = some (.string cg) ∧ V.cell? ⟨w.heap.size, 5, none⟩ = some (.bool true)) w2 from ⟨CB.cell r3_s 0, CB.cell r3_s 1, CB.cell r3_s 2, CB.cell r3_s 3, CB.cell r3_s 4, CB.cell r3_s 5⟩)
      refine wp_region_held_drew (S := (fun V : World => V.cell? ⟨w.heap.size, 0, none⟩ = some (.int .u8 me) ∧ V.cell? ⟨w.heap.size, 1, none⟩ = some (.int .i64 ep) ∧ V.cell? ⟨w.heap.size, 2, none⟩ = some (.int .i64 st) ∧ V.cell? ⟨w.heap.size, 3, none⟩ = some (.int .u8 to) ∧ V.cell? ⟨w.heap.size, 4, none⟩ = some (.string cg) ∧ V.cell? ⟨w.heap.size, 5, none⟩ = some (.bool true))) (by kernel_rfl) y4.out (fun hHeld => ?_)
      obtain ⟨D4, hD4⟩ : ∃ V, w2.drew = V := ⟨_, rfl⟩
      have b4 : Below w2.heap.size w2 D4 := by rw [← hD4]; exact le_dr (Below.refl _ _)
      rw [hD4] at hHeld ⊢
      clear hD4
      have r5_s := le_on r3_s b4
      have r5_m := le_on r3_m b4
      have r5_r := le_on r3_r b4
      have r5_l := le_on r3_l b4
      have l5 := le_tr l3 b4
      clear r3_s r3_m r3_r r3_l l3
      clear b4
      refine wpAnyH_takeL (i := 0) (d := some 57) (v := .agg #[.int .u8 me, .int .i64 ep, .int .i64 st, .int .u8 to, .string cg, .bool true]) rfl rfl (by kernel_rfl) (by kernel_rfl) (by kernel_rfl) (fun _ _ _ h => h) (Or.inl ⟨by rfl, ?_⟩) hHeld ?_
      · intro w hSw; (try dsimp only at hSw); go_simp
      try simp only [Act.put, List.setIfInBounds_toArray, List.set_cons_zero, List.set_cons_succ]
      refine wpAnyH_takeL (i := 1) (d := some 58) (v := .agg #[.int .u8 me, .int .i64 ep, .int .i64 st, .int .u8 to, .string cg, .bool true]) rfl rfl (by kernel_rfl) (by kernel_rfl) (by kernel_rfl) (fun _ _ _ h => h) (Or.inl ⟨by rfl, ?_⟩) hHeld ?_
      · intro w hSw; (try dsimp only at hSw); go_simp
      try simp only [Act.put, List.setIfInBounds_toArray, List.set_cons_zero, List.set_cons_succ]
      refine wpAnyH_ready (rs := [2]) (by kernel_rfl) (by simp) ?_
      refine AllReadyH.cons rfl (fun K hK => ?_) AllReadyH.nil
      go_simp
      refine (G2 _).mono ?_
      rintro e u6 ⟨rfl, b6⟩
      have r7_s := le_on r5_s b6
      have r7_m := le_on r5_m b6
      have r7_r := le_on r5_r b6
      have r7_l := le_on r5_l b6
      have l7 := le_tr l5 b6
      clear r5_s r5_m r5_r r5_l l5
      clear b6
      go_wp2_with fail
      have y8 := Lib.hid (show (fun V : World => V.cell? ⟨w.heap.size, 0, none⟩ = some (.int .u8 me) ∧ V.cell? ⟨w.heap.size, 1, none⟩ = some (.int .i64 ep) ∧ V.cell? ⟨w.heap.size, 2, none⟩ = some (.int .i64 st) ∧ V.cell? ⟨w.heap.size, 3, none⟩ = some (.int .u8 to) ∧ V.cell? ⟨w.heap.size, 4, none⟩ = some (.string cg) ∧ V.cell? ⟨w.heap.size, 5, none⟩ = some (.bool true)) u6 from ⟨CB.cell r7_s 0, CB.cell r7_s 1, CB.cell r7_s 2, CB.cell r7_s 3, CB.cell r7_s 4, CB.cell r7_s 5⟩)
      refine hK.out _ _ y8.out (fun hHeld => ?_)
      clear hK K y8
      try simp only [Act.put, List.setIfInBounds_toArray, List.set_cons_zero, List.set_cons_succ]
      refine wpAnyH_ready (rs := [3]) (by kernel_rfl) (by simp) ?_
      refine AllReadyH.cons rfl (fun K hK => ?_) AllReadyH.nil
      go_simp
      go_wp2_with fail
      have av_z : w.heap.size ≤ u6.heap.size := by have := l7.size; omega
      obtain ⟨W9, hW9⟩ : ∃ V, u6.alloc (.cells #[.int .i64 3, .int .u8 me, .int .u8 to, .int .i64 (ep + 1), .string cg] 27) = V := ⟨_, rfl⟩
      have zW9 : u6.heap.size = u6.heap.size := by rfl
      have nW9 : CB W9 (u6.heap.size) 27 #[.int .i64 3, .int .u8 me, .int .u8 to, .int .i64 (ep + 1), .string cg] := by rw [← zW9, ← hW9]; exact CB.new _ _ _
      have bW9 : Below u6.heap.size u6 W9 := by rw [← hW9]; exact le_al _ _
      have neW9_s : w.heap.size ≠ u6.heap.size := by have := CB.lt r7_s; omega
      have neW9_m : w.heap.size + 1 ≠ u6.heap.size := by have := CB.lt r7_m; omega
      have neW9_r : w.heap.size + 1 + 1 ≠ u6.heap.size := by have := CB.lt r7_r; omega
      have neW9_l : w.heap.size + 1 + 1 + 1 ≠ u6.heap.size := by have := CB.lt r7_l; omega
      have HW9 := Lib.hid hW9
      clear hW9 zW9
      have r10_s := le_on r7_s bW9
      have r10_m := le_on r7_m bW9
      have r10_r := le_on r7_r bW9
      have r10_l := le_on r7_l bW9
      have l10 := le_tr l7 bW9
      clear r7_s r7_m r7_r r7_l l7
      clear bW9
      rw [HW9.out]
      have y11 := Lib.hid (show (fun V : World => V.cell? ⟨w.heap.size, 0, none⟩ = some (.int .u8 me) ∧ V.cell? ⟨w.heap.size, 1, none⟩ = some (.int .i64 ep) ∧ V.cell? ⟨w.heap.size, 2, none⟩ = some (.int .i64 st) ∧ V.cell? ⟨w.heap.size, 3, none⟩ = some (.int .u8 to) ∧ V.cell? ⟨w.heap.size, 4, none⟩ = some (.string cg) ∧ V.cell? ⟨w.heap.size, 5, none⟩ = some (.bool true)) W9 from ⟨CB.cell r10_s 0, CB.cell r10_s 1, CB.cell r10_s 2, CB.cell r10_s 3, CB.cell r10_s 4, CB.cell r10_s 5⟩)
      refine hK.out _ _ y11.out (fun hHeld => ?_)
      clear hK K y11
      try simp only [Act.put, List.setIfInBounds_toArray, List.set_cons_zero, List.set_cons_succ]
      refine wpAnyH_takeL (i := 4) (d := some 61) (v := .agg #[.int .u8 me, .int .i64 ep, .int .i64 st, .int .u8 to, .string cg, .bool true, .slice (some ⟨u6.heap.size, 0, none⟩) 1 1, .int .i64 0]) rfl rfl (by kernel_rfl) (by kernel_rfl) (by kernel_rfl) (fun _ _ _ h => h) (Or.inl ⟨by rfl, ?_⟩) hHeld ?_
      · intro w hSw; (try dsimp only at hSw); go_simp
      try simp only [Act.put, List.setIfInBounds_toArray, List.set_cons_zero, List.set_cons_succ]
      refine wpAnyH_ready (rs := [5]) (by kernel_rfl) (by simp) ?_
      refine AllReadyH.cons rfl (fun K hK => ?_) AllReadyH.nil
      have f11_r0 : W9.cell? ⟨w.heap.size + 1 + 1, 0, none⟩ = some (.int .u8 0) := CB.cell r10_r 0
      have z11_r0 : W9.frozen? ⟨w.heap.size + 1 + 1, 0, none⟩ = false := CB.frozen r10_r 0
      have f11_r1 : W9.cell? ⟨w.heap.size + 1 + 1, 1, none⟩ = some (.int .i64 0) := CB.cell r10_r 1
      have z11_r1 : W9.frozen? ⟨w.heap.size + 1 + 1, 1, none⟩ = false := CB.frozen r10_r 1
      have f11_r2 : W9.cell? ⟨w.heap.size + 1 + 1, 2, none⟩ = some (.int .i64 0) := CB.cell r10_r 2
      have z11_r2 : W9.frozen? ⟨w.heap.size + 1 + 1, 2, none⟩ = false := CB.frozen r10_r 2
      have f11_r3 : W9.cell? ⟨w.heap.size + 1 + 1, 3, none⟩ = some (.int .u8 0) := CB.cell r10_r 3
      have z11_r3 : W9.frozen? ⟨w.heap.size + 1 + 1, 3, none⟩ = false := CB.frozen r10_r 3
      have f11_r4 : W9.cell? ⟨w.heap.size + 1 + 1, 4, none⟩ = some (.string ⟨#[]⟩) := CB.cell r10_r 4
      have z11_r4 : W9.frozen? ⟨w.heap.size + 1 + 1, 4, none⟩ = false := CB.frozen r10_r 4
      have f11_r5 : W9.cell? ⟨w.heap.size + 1 + 1, 5, none⟩ = some (.bool false) := CB.cell r10_r 5
      have z11_r5 : W9.frozen? ⟨w.heap.size + 1 + 1, 5, none⟩ = false := CB.frozen r10_r 5
      have f11_r6 : W9.cell? ⟨w.heap.size + 1 + 1, 6, none⟩ = some (.slice none 0 0) := CB.cell r10_r 6
      have z11_r6 : W9.frozen? ⟨w.heap.size + 1 + 1, 6, none⟩ = false := CB.frozen r10_r 6
      have f11_r7 : W9.cell? ⟨w.heap.size + 1 + 1, 7, none⟩ = some (.int .i64 0) := CB.cell r10_r 7
      have z11_r7 : W9.frozen? ⟨w.heap.size + 1 + 1, 7, none⟩ = false := CB.frozen r10_r 7
      go_simp
      go_wp2_with fail
      have f11_r0 : W9.cell? ⟨w.heap.size + 1 + 1, 0, none⟩ = some (.int .u8 0) := CB.cell r10_r 0
      have z11_r0 : W9.frozen? ⟨w.heap.size + 1 + 1, 0, none⟩ = false := CB.frozen r10_r 0
      have f11_r1 : W9.cell? ⟨w.heap.size + 1 + 1, 1, none⟩ = some (.int .i64 0) := CB.cell r10_r 1
      have z11_r1 : W9.frozen? ⟨w.heap.size + 1 + 1, 1, none⟩ = false := CB.frozen r10_r 1
      have f11_r2 : W9.cell? ⟨w.heap.size + 1 + 1, 2, none⟩ = some (.int .i64 0) := CB.cell r10_r 2
      have z11_r2 : W9.frozen? ⟨w.heap.size + 1 + 1, 2, none⟩ = false := CB.frozen r10_r 2
      have f11_r3 : W9.cell? ⟨w.heap.size + 1 + 1, 3, none⟩ = some (.int .u8 0) := CB.cell r10_r 3
      have z11_r3 : W9.frozen? ⟨w.heap.size + 1 + 1, 3, none⟩ = false := CB.frozen r10_r 3
      have f11_r4 : W9.cell? ⟨w.heap.size + 1 + 1, 4, none⟩ = some (.string ⟨#[]⟩) := CB.cell r10_r 4
      have z11_r4 : W9.frozen? ⟨w.heap.size + 1 + 1, 4, none⟩ = false := CB.frozen r10_r 4
      have f11_r5 : W9.cell? ⟨w.heap.size + 1 + 1, 5, none⟩ = some (.bool false) := CB.cell r10_r 5
      have z11_r5 : W9.frozen? ⟨w.heap.size + 1 + 1, 5, none⟩ = false := CB.frozen r10_r 5
      have f11_r6 : W9.cell? ⟨w.heap.size + 1 + 1, 6, none⟩ = some (.slice none 0 0) := CB.cell r10_r 6
      have z11_r6 : W9.frozen? ⟨w.heap.size + 1 + 1, 6, none⟩ = false := CB.frozen r10_r 6
      have f11_r7 : W9.cell? ⟨w.heap.size + 1 + 1, 7, none⟩ = some (.int .i64 0) := CB.cell r10_r 7
      have z11_r7 : W9.frozen? ⟨w.heap.size + 1 + 1, 7, none⟩ = false := CB.frozen r10_r 7
      obtain ⟨V12, hV12⟩ : ∃ V, (((((((W9.setCell ⟨w.heap.size + 1 + 1, 0, none⟩ (.int .u8 me)).setCell ⟨w.heap.size + 1 + 1, 1, none⟩ (.int .i64 ep)).setCell ⟨w.heap.size + 1 + 1, 2, none⟩ (.int .i64 st)).setCell ⟨w.heap.size + 1 + 1, 3, none⟩ (.int .u8 to)).setCell ⟨w.heap.size + 1 + 1, 4, none⟩ (.string cg)).setCell ⟨w.heap.size + 1 + 1, 5, none⟩ (.bool true)).setCell ⟨w.heap.size + 1 + 1, 6, none⟩ (.slice (some ⟨u6.heap.size, 0, none⟩) 1 1)).setCell ⟨w.heap.size + 1 + 1, 7, none⟩ (.int .i64 0) = V := ⟨_, rfl⟩
      have nV12 : CB V12 (w.heap.size + 1 + 1) 40 #[.int .u8 me, .int .i64 ep, .int .i64 st, .int .u8 to, .string cg, .bool true, .slice (some ⟨u6.heap.size, 0, none⟩) 1 1, .int .i64 0] := by rw [← hV12]; exact cb_cast (CB.put (CB.put (CB.put (CB.put (CB.put (CB.put (CB.put (CB.put r10_r 0 (.int .u8 me)) 1 (.int .i64 ep)) 2 (.int .i64 st)) 3 (.int .u8 to)) 4 (.string cg)) 5 (.bool true)) 6 (.slice (some ⟨u6.heap.size, 0, none⟩) 1 1)) 7 (.int .i64 0)) (by kernel_rfl)
      have mV12_s : CB V12 (w.heap.size) 25 #[.int .u8 me, .int .i64 ep, .int .i64 st, .int .u8 to, .string cg, .bool true] := by rw [← hV12]; exact (CB.far (CB.far (CB.far (CB.far (CB.far (CB.far (CB.far (CB.far r10_s (p := ⟨w.heap.size + 1 + 1, 0, none⟩) neW1_02 (.int .u8 me)) (p := ⟨w.heap.size + 1 + 1, 1, none⟩) neW1_02 (.int .i64 ep)) (p := ⟨w.heap.size + 1 + 1, 2, none⟩) neW1_02 (.int .i64 st)) (p := ⟨w.heap.size + 1 + 1, 3, none⟩) neW1_02 (.int .u8 to)) (p := ⟨w.heap.size + 1 + 1, 4, none⟩) neW1_02 (.string cg)) (p := ⟨w.heap.size + 1 + 1, 5, none⟩) neW1_02 (.bool true)) (p := ⟨w.heap.size + 1 + 1, 6, none⟩) neW1_02 (.slice (some ⟨u6.heap.size, 0, none⟩) 1 1)) (p := ⟨w.heap.size + 1 + 1, 7, none⟩) neW1_02 (.int .i64 0))
      have mV12_m : CB V12 (w.heap.size + 1) 27 #[.int .i64 kd, .int .u8 fr, .int .u8 t, .int .i64 e, .string mg] := by rw [← hV12]; exact (CB.far (CB.far (CB.far (CB.far (CB.far (CB.far (CB.far (CB.far r10_m (p := ⟨w.heap.size + 1 + 1, 0, none⟩) neW1_12 (.int .u8 me)) (p := ⟨w.heap.size + 1 + 1, 1, none⟩) neW1_12 (.int .i64 ep)) (p := ⟨w.heap.size + 1 + 1, 2, none⟩) neW1_12 (.int .i64 st)) (p := ⟨w.heap.size + 1 + 1, 3, none⟩) neW1_12 (.int .u8 to)) (p := ⟨w.heap.size + 1 + 1, 4, none⟩) neW1_12 (.string cg)) (p := ⟨w.heap.size + 1 + 1, 5, none⟩) neW1_12 (.bool true)) (p := ⟨w.heap.size + 1 + 1, 6, none⟩) neW1_12 (.slice (some ⟨u6.heap.size, 0, none⟩) 1 1)) (p := ⟨w.heap.size + 1 + 1, 7, none⟩) neW1_12 (.int .i64 0))
      have mV12_l : CB V12 (w.heap.size + 1 + 1 + 1) 23 #[.int .i64 ep, .int .i64 st, .int .u8 to] := by rw [← hV12]; exact (CB.far (CB.far (CB.far (CB.far (CB.far (CB.far (CB.far (CB.far r10_l (p := ⟨w.heap.size + 1 + 1, 0, none⟩) (Ne.symm neW1_23) (.int .u8 me)) (p := ⟨w.heap.size + 1 + 1, 1, none⟩) (Ne.symm neW1_23) (.int .i64 ep)) (p := ⟨w.heap.size + 1 + 1, 2, none⟩) (Ne.symm neW1_23) (.int .i64 st)) (p := ⟨w.heap.size + 1 + 1, 3, none⟩) (Ne.symm neW1_23) (.int .u8 to)) (p := ⟨w.heap.size + 1 + 1, 4, none⟩) (Ne.symm neW1_23) (.string cg)) (p := ⟨w.heap.size + 1 + 1, 5, none⟩) (Ne.symm neW1_23) (.bool true)) (p := ⟨w.heap.size + 1 + 1, 6, none⟩) (Ne.symm neW1_23) (.slice (some ⟨u6.heap.size, 0, none⟩) 1 1)) (p := ⟨w.heap.size + 1 + 1, 7, none⟩) (Ne.symm neW1_23) (.int .i64 0))
      have mV12_z : CB V12 (u6.heap.size) 27 #[.int .i64 3, .int .u8 me, .int .u8 to, .int .i64 (ep + 1), .string cg] := by rw [← hV12]; exact (CB.far (CB.far (CB.far (CB.far (CB.far (CB.far (CB.far (CB.far nW9 (p := ⟨w.heap.size + 1 + 1, 0, none⟩) (Ne.symm neW9_r) (.int .u8 me)) (p := ⟨w.heap.size + 1 + 1, 1, none⟩) (Ne.symm neW9_r) (.int .i64 ep)) (p := ⟨w.heap.size + 1 + 1, 2, none⟩) (Ne.symm neW9_r) (.int .i64 st)) (p := ⟨w.heap.size + 1 + 1, 3, none⟩) (Ne.symm neW9_r) (.int .u8 to)) (p := ⟨w.heap.size + 1 + 1, 4, none⟩) (Ne.symm neW9_r) (.string cg)) (p := ⟨w.heap.size + 1 + 1, 5, none⟩) (Ne.symm neW9_r) (.bool true)) (p := ⟨w.heap.size + 1 + 1, 6, none⟩) (Ne.symm neW9_r) (.slice (some ⟨u6.heap.size, 0, none⟩) 1 1)) (p := ⟨w.heap.size + 1 + 1, 7, none⟩) (Ne.symm neW9_r) (.int .i64 0))
      have oV12 := (Below.setCell (Below.setCell (Below.setCell (Below.setCell (Below.setCell (Below.setCell (Below.setCell (Below.setCell l10 (p := ⟨w.heap.size + 1 + 1, 0, none⟩) (by dsimp only; omega) (.int .u8 me)) (p := ⟨w.heap.size + 1 + 1, 1, none⟩) (by dsimp only; omega) (.int .i64 ep)) (p := ⟨w.heap.size + 1 + 1, 2, none⟩) (by dsimp only; omega) (.int .i64 st)) (p := ⟨w.heap.size + 1 + 1, 3, none⟩) (by dsimp only; omega) (.int .u8 to)) (p := ⟨w.heap.size + 1 + 1, 4, none⟩) (by dsimp only; omega) (.string cg)) (p := ⟨w.heap.size + 1 + 1, 5, none⟩) (by dsimp only; omega) (.bool true)) (p := ⟨w.heap.size + 1 + 1, 6, none⟩) (by dsimp only; omega) (.slice (some ⟨u6.heap.size, 0, none⟩) 1 1)) (p := ⟨w.heap.size + 1 + 1, 7, none⟩) (by dsimp only; omega) (.int .i64 0))
      rw [hV12] at oV12
      have HV12 := Lib.hid hV12
      clear hV12
      clear r10_r r10_s r10_m r10_l nW9 l10
      rw [HV12.out]
      clear f11_r0 z11_r0 f11_r1 z11_r1 f11_r2 z11_r2 f11_r3 z11_r3 f11_r4 z11_r4 f11_r5 z11_r5 f11_r6 z11_r6 f11_r7 z11_r7
      have y13 := Lib.hid (show (fun V : World => V.cell? ⟨w.heap.size, 0, none⟩ = some (.int .u8 me) ∧ V.cell? ⟨w.heap.size, 1, none⟩ = some (.int .i64 ep) ∧ V.cell? ⟨w.heap.size, 2, none⟩ = some (.int .i64 st) ∧ V.cell? ⟨w.heap.size, 3, none⟩ = some (.int .u8 to) ∧ V.cell? ⟨w.heap.size, 4, none⟩ = some (.string cg) ∧ V.cell? ⟨w.heap.size, 5, none⟩ = some (.bool true)) V12 from ⟨CB.cell mV12_s 0, CB.cell mV12_s 1, CB.cell mV12_s 2, CB.cell mV12_s 3, CB.cell mV12_s 4, CB.cell mV12_s 5⟩)
      refine hK.out _ _ y13.out (fun hHeld => ?_)
      clear hK K y13
      try simp only [Act.put, List.setIfInBounds_toArray, List.set_cons_zero, List.set_cons_succ]
      refine wpAnyH_done (by kernel_rfl) ?_ _
      go_wp2_with fail
      have x_r0 : V12.cell? ⟨w.heap.size + 1 + 1, 0, none⟩ = some (.int .u8 me) := CB.cell nV12 0
      have x_r1 : V12.cell? ⟨w.heap.size + 1 + 1, 1, none⟩ = some (.int .i64 ep) := CB.cell nV12 1
      have x_r2 : V12.cell? ⟨w.heap.size + 1 + 1, 2, none⟩ = some (.int .i64 st) := CB.cell nV12 2
      have x_r3 : V12.cell? ⟨w.heap.size + 1 + 1, 3, none⟩ = some (.int .u8 to) := CB.cell nV12 3
      have x_r4 : V12.cell? ⟨w.heap.size + 1 + 1, 4, none⟩ = some (.string cg) := CB.cell nV12 4
      have x_r5 : V12.cell? ⟨w.heap.size + 1 + 1, 5, none⟩ = some (.bool true) := CB.cell nV12 5
      have x_r6 : V12.cell? ⟨w.heap.size + 1 + 1, 6, none⟩ = some (.slice (some ⟨u6.heap.size, 0, none⟩) 1 1) := CB.cell nV12 6
      have x_r7 : V12.cell? ⟨w.heap.size + 1 + 1, 7, none⟩ = some (.int .i64 0) := CB.cell nV12 7
      exact bodyPost_ret (v := .agg #[.int .u8 me, .int .i64 ep, .int .i64 st, .int .u8 to, .string cg, .bool true, .slice (some ⟨u6.heap.size, 0, none⟩) 1 1, .int .i64 0]) (by simp [results, Try.results43, go_sem, x_r0, x_r1, x_r2, x_r3, x_r4, x_r5, x_r6, x_r7]) rfl (TdPost.mk' (me) (ep) (st) (to) (cg) (true) 0 _ H.out (RS.of_cb mV12_z) oV12)
    · have H := Lib.hid (show wantM ⟨me, ⟨ep, st, to⟩, cg, kp⟩ ⟨kd, fr, t, e, mg⟩ = ⟨⟨me, ⟨ep, st, to⟩, cg, kp⟩, [], 10⟩ by unfold wantM; simp only; rw [if_neg hsp, if_neg hk])
      clear h1 hsp hrt hs hm1 hm2 hm3 hm4 hm5 hm6 hb1
      by_cases q1 : st = 2
      · have t1 : (st == 2) = true := by simp [q1]
        by_cases q2 : ep = e
        · have t2 : (ep == e) = true := by simp [q2]
          by_cases q3 : to = fr
          · have t3 : (to == fr) = true := by simp [q3]
            have q4 : kp = false := by cases kp <;> simp_all
            clear hk q1 q2 q3
            subst q4
            skip
            obtain ⟨W1, hW1⟩ : ∃ V, (((w.alloc (.cells #[.int .u8 me, .int .i64 ep, .int .i64 st, .int .u8 to, .string cg, .bool false] 25)).alloc (.cells #[.int .i64 kd, .int .u8 fr, .int .u8 t, .int .i64 e, .string mg] 27)).alloc (.cells #[.int .u8 0, .int .i64 0, .int .i64 0, .int .u8 0, .string ⟨#[]⟩, .bool false, .slice none 0 0, .int .i64 0] 40)).alloc (.cells #[.int .i64 ep, .int .i64 st, .int .u8 to] 23) = V := ⟨_, rfl⟩
            have nW1_s : CB W1 (w.heap.size) 25 #[.int .u8 me, .int .i64 ep, .int .i64 st, .int .u8 to, .string cg, .bool false] := by
              rw [← hW1]
              have := ((((CB.new w 25 #[.int .u8 me, .int .i64 ep, .int .i64 st, .int .u8 to, .string cg, .bool false]).alloc (.cells #[.int .i64 kd, .int .u8 fr, .int .u8 t, .int .i64 e, .string mg] 27)).alloc (.cells #[.int .u8 0, .int .i64 0, .int .i64 0, .int .u8 0, .string ⟨#[]⟩, .bool false, .slice none 0 0, .int .i64 0] 40)).alloc (.cells #[.int .i64 ep, .int .i64 st, .int .u8 to] 23))
              simpa using this
            have nW1_m : CB W1 (w.heap.size + 1) 27 #[.int .i64 kd, .int .u8 fr, .int .u8 t, .int .i64 e, .string mg] := by
              rw [← hW1]
              have := (((CB.new (w.alloc (.cells #[.int .u8 me, .int .i64 ep, .int .i64 st, .int .u8 to, .string cg, .bool false] 25)) 27 #[.int .i64 kd, .int .u8 fr, .int .u8 t, .int .i64 e, .string mg]).alloc (.cells #[.int .u8 0, .int .i64 0, .int .i64 0, .int .u8 0, .string ⟨#[]⟩, .bool false, .slice none 0 0, .int .i64 0] 40)).alloc (.cells #[.int .i64 ep, .int .i64 st, .int .u8 to] 23))
              simpa using this
            have nW1_r : CB W1 (w.heap.size + 1 + 1) 40 #[.int .u8 0, .int .i64 0, .int .i64 0, .int .u8 0, .string ⟨#[]⟩, .bool false, .slice none 0 0, .int .i64 0] := by
              rw [← hW1]
              have := ((CB.new ((w.alloc (.cells #[.int .u8 me, .int .i64 ep, .int .i64 st, .int .u8 to, .string cg, .bool false] 25)).alloc (.cells #[.int .i64 kd, .int .u8 fr, .int .u8 t, .int .i64 e, .string mg] 27)) 40 #[.int .u8 0, .int .i64 0, .int .i64 0, .int .u8 0, .string ⟨#[]⟩, .bool false, .slice none 0 0, .int .i64 0]).alloc (.cells #[.int .i64 ep, .int .i64 st, .int .u8 to] 23))
              simpa using this
            have nW1_l : CB W1 (w.heap.size + 1 + 1 + 1) 23 #[.int .i64 ep, .int .i64 st, .int .u8 to] := by
              rw [← hW1]
              have := (CB.new (((w.alloc (.cells #[.int .u8 me, .int .i64 ep, .int .i64 st, .int .u8 to, .string cg, .bool false] 25)).alloc (.cells #[.int .i64 kd, .int .u8 fr, .int .u8 t, .int .i64 e, .string mg] 27)).alloc (.cells #[.int .u8 0, .int .i64 0, .int .i64 0, .int .u8 0, .string ⟨#[]⟩, .bool false, .slice none 0 0, .int .i64 0] 40)) 23 #[.int .i64 ep, .int .i64 st, .int .u8 to])
              simpa using this
            have neW1_01 : w.heap.size ≠ w.heap.size + 1 := by omega
            have neW1_02 : w.heap.size ≠ w.heap.size + 1 + 1 := by omega
            have neW1_03 : w.heap.size ≠ w.heap.size + 1 + 1 + 1 := by omega
            have neW1_12 : w.heap.size + 1 ≠ w.heap.size + 1 + 1 := by omega
            have neW1_13 : w.heap.size + 1 ≠ w.heap.size + 1 + 1 + 1 := by omega
            have neW1_23 : w.heap.size + 1 + 1 ≠ w.heap.size + 1 + 1 + 1 := by omega
            have lW1 : Below w.heap.size w W1 := by rw [← hW1]; exact le_tr (le_tr (le_tr (le_al _ _) (le_al _ _)) (le_al _ _)) (le_al _ _)
            have HW1 := Lib.hid hW1
            clear hW1
            go_enter Try.func43, Try.ntmps43
            go_wp2_with fail
            rw [HW1.out]
            refine (S1 _).mono ?_
            rintro e w2 ⟨rfl, b2⟩
            have r3_s := le_on nW1_s b2
            have r3_m := le_on nW1_m b2
            have r3_r := le_on nW1_r b2
            have r3_l := le_on nW1_l b2
            have l3 := le_tr lW1 b2
            clear nW1_s nW1_m nW1_r nW1_l lW1
            clear b2
            have f3_s0 : w2.cell? ⟨w.heap.size, 0, none⟩ = some (.int .u8 me) := CB.cell r3_s 0
            have f3_s1 : w2.cell? ⟨w.heap.size, 1, none⟩ = some (.int .i64 ep) := CB.cell r3_s 1
            have f3_s2 : w2.cell? ⟨w.heap.size, 2, none⟩ = some (.int .i64 st) := CB.cell r3_s 2
            have f3_s3 : w2.cell? ⟨w.heap.size, 3, none⟩ = some (.int .u8 to) := CB.cell r3_s 3
            have f3_s4 : w2.cell? ⟨w.heap.size, 4, none⟩ = some (.string cg) := CB.cell r3_s 4
            have f3_s5 : w2.cell? ⟨w.heap.size, 5, none⟩ = some (.bool false) := CB.cell r3_s 5
            have f3_m0 : w2.cell? ⟨w.heap.size + 1, 0, none⟩ = some (.int .i64 kd) := CB.cell r3_m 0
            have f3_m1 : w2.cell? ⟨w.heap.size + 1, 1, none⟩ = some (.int .u8 fr) := CB.cell r3_m 1
            have f3_m2 : w2.cell? ⟨w.heap.size + 1, 2, none⟩ = some (.int .u8 t) := CB.cell r3_m 2
            have f3_m3 : w2.cell? ⟨w.heap.size + 1, 3, none⟩ = some (.int .i64 e) := CB.cell r3_m 3
            have f3_m4 : w2.cell? ⟨w.heap.size + 1, 4, none⟩ = some (.string mg) := CB.cell r3_m 4
            have f3_l0 : w2.cell? ⟨w.heap.size + 1 + 1 + 1, 0, none⟩ = some (.int .i64 ep) := CB.cell r3_l 0
            have f3_l1 : w2.cell? ⟨w.heap.size + 1 + 1 + 1, 1, none⟩ = some (.int .i64 st) := CB.cell r3_l 1
            have f3_l2 : w2.cell? ⟨w.heap.size + 1 + 1 + 1, 2, none⟩ = some (.int .u8 to) := CB.cell r3_l 2
            have f3_r0 : w2.cell? ⟨w.heap.size + 1 + 1, 0, none⟩ = some (.int .u8 0) := CB.cell r3_r 0
            have z3_r0 : w2.frozen? ⟨w.heap.size + 1 + 1, 0, none⟩ = false := CB.frozen r3_r 0
            have f3_r1 : w2.cell? ⟨w.heap.size + 1 + 1, 1, none⟩ = some (.int .i64 0) := CB.cell r3_r 1
            have z3_r1 : w2.frozen? ⟨w.heap.size + 1 + 1, 1, none⟩ = false := CB.frozen r3_r 1
            have f3_r2 : w2.cell? ⟨w.heap.size + 1 + 1, 2, none⟩ = some (.int .i64 0) := CB.cell r3_r 2
            have z3_r2 : w2.frozen? ⟨w.heap.size + 1 + 1, 2, none⟩ = false := CB.frozen r3_r 2
            have f3_r3 : w2.cell? ⟨w.heap.size + 1 + 1, 3, none⟩ = some (.int .u8 0) := CB.cell r3_r 3
            have z3_r3 : w2.frozen? ⟨w.heap.size + 1 + 1, 3, none⟩ = false := CB.frozen r3_r 3
            have f3_r4 : w2.cell? ⟨w.heap.size + 1 + 1, 4, none⟩ = some (.string ⟨#[]⟩) := CB.cell r3_r 4
            have z3_r4 : w2.frozen? ⟨w.heap.size + 1 + 1, 4, none⟩ = false := CB.frozen r3_r 4
            have f3_r5 : w2.cell? ⟨w.heap.size + 1 + 1, 5, none⟩ = some (.bool false) := CB.cell r3_r 5
            have z3_r5 : w2.frozen? ⟨w.heap.size + 1 + 1, 5, none⟩ = false := CB.frozen r3_r 5
            have f3_r6 : w2.cell? ⟨w.heap.size + 1 + 1, 6, none⟩ = some (.slice none 0 0) := CB.cell r3_r 6
            have z3_r6 : w2.frozen? ⟨w.heap.size + 1 + 1, 6, none⟩ = false := CB.frozen r3_r 6
            have f3_r7 : w2.cell? ⟨w.heap.size + 1 + 1, 7, none⟩ = some (.int .i64 0) := CB.cell r3_r 7
            have z3_r7 : w2.frozen? ⟨w.heap.size + 1 + 1, 7, none⟩ = false := CB.frozen r3_r 7
            obtain ⟨V4, hV4⟩ : ∃ V, (((((((w2.setCell ⟨w.heap.size + 1 + 1, 0, none⟩ (.int .u8 me)).setCell ⟨w.heap.size + 1 + 1, 1, none⟩ (.int .i64 ep)).setCell ⟨w.heap.size + 1 + 1, 2, none⟩ (.int .i64 st)).setCell ⟨w.heap.size + 1 + 1, 3, none⟩ (.int .u8 to)).setCell ⟨w.heap.size + 1 + 1, 4, none⟩ (.string cg)).setCell ⟨w.heap.size + 1 + 1, 5, none⟩ (.bool false)).setCell ⟨w.heap.size + 1 + 1, 6, none⟩ (.slice none 0 0)).setCell ⟨w.heap.size + 1 + 1, 7, none⟩ (.int .i64 10) = V := ⟨_, rfl⟩
            have nV4 : CB V4 (w.heap.size + 1 + 1) 40 #[.int .u8 me, .int .i64 ep, .int .i64 st, .int .u8 to, .string cg, .bool false, .slice none 0 0, .int .i64 10] := by rw [← hV4]; exact cb_cast (CB.put (CB.put (CB.put (CB.put (CB.put (CB.put (CB.put (CB.put r3_r 0 (.int .u8 me)) 1 (.int .i64 ep)) 2 (.int .i64 st)) 3 (.int .u8 to)) 4 (.string cg)) 5 (.bool false)) 6 (.slice none 0 0)) 7 (.int .i64 10)) (by kernel_rfl)
            have mV4_s : CB V4 (w.heap.size) 25 #[.int .u8 me, .int .i64 ep, .int .i64 st, .int .u8 to, .string cg, .bool false] := by rw [← hV4]; exact (CB.far (CB.far (CB.far (CB.far (CB.far (CB.far (CB.far (CB.far r3_s (p := ⟨w.heap.size + 1 + 1, 0, none⟩) neW1_02 (.int .u8 me)) (p := ⟨w.heap.size + 1 + 1, 1, none⟩) neW1_02 (.int .i64 ep)) (p := ⟨w.heap.size + 1 + 1, 2, none⟩) neW1_02 (.int .i64 st)) (p := ⟨w.heap.size + 1 + 1, 3, none⟩) neW1_02 (.int .u8 to)) (p := ⟨w.heap.size + 1 + 1, 4, none⟩) neW1_02 (.string cg)) (p := ⟨w.heap.size + 1 + 1, 5, none⟩) neW1_02 (.bool false)) (p := ⟨w.heap.size + 1 + 1, 6, none⟩) neW1_02 (.slice none 0 0)) (p := ⟨w.heap.size + 1 + 1, 7, none⟩) neW1_02 (.int .i64 10))
            have mV4_m : CB V4 (w.heap.size + 1) 27 #[.int .i64 kd, .int .u8 fr, .int .u8 t, .int .i64 e, .string mg] := by rw [← hV4]; exact (CB.far (CB.far (CB.far (CB.far (CB.far (CB.far (CB.far (CB.far r3_m (p := ⟨w.heap.size + 1 + 1, 0, none⟩) neW1_12 (.int .u8 me)) (p := ⟨w.heap.size + 1 + 1, 1, none⟩) neW1_12 (.int .i64 ep)) (p := ⟨w.heap.size + 1 + 1, 2, none⟩) neW1_12 (.int .i64 st)) (p := ⟨w.heap.size + 1 + 1, 3, none⟩) neW1_12 (.int .u8 to)) (p := ⟨w.heap.size + 1 + 1, 4, none⟩) neW1_12 (.string cg)) (p := ⟨w.heap.size + 1 + 1, 5, none⟩) neW1_12 (.bool false)) (p := ⟨w.heap.size + 1 + 1, 6, none⟩) neW1_12 (.slice none 0 0)) (p := ⟨w.heap.size + 1 + 1, 7, none⟩) neW1_12 (.int .i64 10))
            have mV4_l : CB V4 (w.heap.size + 1 + 1 + 1) 23 #[.int .i64 ep, .int .i64 st, .int .u8 to] := by rw [← hV4]; exact (CB.far (CB.far (CB.far (CB.far (CB.far (CB.far (CB.far (CB.far r3_l (p := ⟨w.heap.size + 1 + 1, 0, none⟩) (Ne.symm neW1_23) (.int .u8 me)) (p := ⟨w.heap.size + 1 + 1, 1, none⟩) (Ne.symm neW1_23) (.int .i64 ep)) (p := ⟨w.heap.size + 1 + 1, 2, none⟩) (Ne.symm neW1_23) (.int .i64 st)) (p := ⟨w.heap.size + 1 + 1, 3, none⟩) (Ne.symm neW1_23) (.int .u8 to)) (p := ⟨w.heap.size + 1 + 1, 4, none⟩) (Ne.symm neW1_23) (.string cg)) (p := ⟨w.heap.size + 1 + 1, 5, none⟩) (Ne.symm neW1_23) (.bool false)) (p := ⟨w.heap.size + 1 + 1, 6, none⟩) (Ne.symm neW1_23) (.slice none 0 0)) (p := ⟨w.heap.size + 1 + 1, 7, none⟩) (Ne.symm neW1_23) (.int .i64 10))
            have oV4 := (Below.setCell (Below.setCell (Below.setCell (Below.setCell (Below.setCell (Below.setCell (Below.setCell (Below.setCell l3 (p := ⟨w.heap.size + 1 + 1, 0, none⟩) (by dsimp only; omega) (.int .u8 me)) (p := ⟨w.heap.size + 1 + 1, 1, none⟩) (by dsimp only; omega) (.int .i64 ep)) (p := ⟨w.heap.size + 1 + 1, 2, none⟩) (by dsimp only; omega) (.int .i64 st)) (p := ⟨w.heap.size + 1 + 1, 3, none⟩) (by dsimp only; omega) (.int .u8 to)) (p := ⟨w.heap.size + 1 + 1, 4, none⟩) (by dsimp only; omega) (.string cg)) (p := ⟨w.heap.size + 1 + 1, 5, none⟩) (by dsimp only; omega) (.bool false)) (p := ⟨w.heap.size + 1 + 1, 6, none⟩) (by dsimp only; omega) (.slice none 0 0)) (p := ⟨w.heap.size + 1 + 1, 7, none⟩) (by dsimp only; omega) (.int .i64 10))
            rw [hV4] at oV4
            have HV4 := Lib.hid hV4
            clear hV4
            clear r3_r r3_s r3_m r3_l l3
            go_wp2_with fail
            rw [HV4.out]
            have x_r0 : V4.cell? ⟨w.heap.size + 1 + 1, 0, none⟩ = some (.int .u8 me) := CB.cell nV4 0
            have x_r1 : V4.cell? ⟨w.heap.size + 1 + 1, 1, none⟩ = some (.int .i64 ep) := CB.cell nV4 1
            have x_r2 : V4.cell? ⟨w.heap.size + 1 + 1, 2, none⟩ = some (.int .i64 st) := CB.cell nV4 2
            have x_r3 : V4.cell? ⟨w.heap.size + 1 + 1, 3, none⟩ = some (.int .u8 to) := CB.cell nV4 3
            have x_r4 : V4.cell? ⟨w.heap.size + 1 + 1, 4, none⟩ = some (.string cg) := CB.cell nV4 4
            have x_r5 : V4.cell? ⟨w.heap.size + 1 + 1, 5, none⟩ = some (.bool false) := CB.cell nV4 5
            have x_r6 : V4.cell? ⟨w.heap.size + 1 + 1, 6, none⟩ = some (.slice none 0 0) := CB.cell nV4 6
            have x_r7 : V4.cell? ⟨w.heap.size + 1 + 1, 7, none⟩ = some (.int .i64 10) := CB.cell nV4 7
            exact bodyPost_ret (v := .agg #[.int .u8 me, .int .i64 ep, .int .i64 st, .int .u8 to, .string cg, .bool false, .slice none 0 0, .int .i64 10]) (by simp [results, Try.results43, go_sem, x_r0, x_r1, x_r2, x_r3, x_r4, x_r5, x_r6, x_r7]) rfl (TdPost.mk' me ep st to cg false 10 [] H.out (RS.nil _ _ _ _) oV4)
          · have t3 : (to == fr) = false := by simp [q3]
            clear hk q1 q2 q3
            obtain ⟨W1, hW1⟩ : ∃ V, (((w.alloc (.cells #[.int .u8 me, .int .i64 ep, .int .i64 st, .int .u8 to, .string cg, .bool kp] 25)).alloc (.cells #[.int .i64 kd, .int .u8 fr, .int .u8 t, .int .i64 e, .string mg] 27)).alloc (.cells #[.int .u8 0, .int .i64 0, .int .i64 0, .int .u8 0, .string ⟨#[]⟩, .bool false, .slice none 0 0, .int .i64 0] 40)).alloc (.cells #[.int .i64 ep, .int .i64 st, .int .u8 to] 23) = V := ⟨_, rfl⟩
            have nW1_s : CB W1 (w.heap.size) 25 #[.int .u8 me, .int .i64 ep, .int .i64 st, .int .u8 to, .string cg, .bool kp] := by
              rw [← hW1]
              have := ((((CB.new w 25 #[.int .u8 me, .int .i64 ep, .int .i64 st, .int .u8 to, .string cg, .bool kp]).alloc (.cells #[.int .i64 kd, .int .u8 fr, .int .u8 t, .int .i64 e, .string mg] 27)).alloc (.cells #[.int .u8 0, .int .i64 0, .int .i64 0, .int .u8 0, .string ⟨#[]⟩, .bool false, .slice none 0 0, .int .i64 0] 40)).alloc (.cells #[.int .i64 ep, .int .i64 st, .int .u8 to] 23))
              simpa using this
            have nW1_m : CB W1 (w.heap.size + 1) 27 #[.int .i64 kd, .int .u8 fr, .int .u8 t, .int .i64 e, .string mg] := by
              rw [← hW1]
              have := (((CB.new (w.alloc (.cells #[.int .u8 me, .int .i64 ep, .int .i64 st, .int .u8 to, .string cg, .bool kp] 25)) 27 #[.int .i64 kd, .int .u8 fr, .int .u8 t, .int .i64 e, .string mg]).alloc (.cells #[.int .u8 0, .int .i64 0, .int .i64 0, .int .u8 0, .string ⟨#[]⟩, .bool false, .slice none 0 0, .int .i64 0] 40)).alloc (.cells #[.int .i64 ep, .int .i64 st, .int .u8 to] 23))
              simpa using this
            have nW1_r : CB W1 (w.heap.size + 1 + 1) 40 #[.int .u8 0, .int .i64 0, .int .i64 0, .int .u8 0, .string ⟨#[]⟩, .bool false, .slice none 0 0, .int .i64 0] := by
              rw [← hW1]
              have := ((CB.new ((w.alloc (.cells #[.int .u8 me, .int .i64 ep, .int .i64 st, .int .u8 to, .string cg, .bool kp] 25)).alloc (.cells #[.int .i64 kd, .int .u8 fr, .int .u8 t, .int .i64 e, .string mg] 27)) 40 #[.int .u8 0, .int .i64 0, .int .i64 0, .int .u8 0, .string ⟨#[]⟩, .bool false, .slice none 0 0, .int .i64 0]).alloc (.cells #[.int .i64 ep, .int .i64 st, .int .u8 to] 23))
              simpa using this
            have nW1_l : CB W1 (w.heap.size + 1 + 1 + 1) 23 #[.int .i64 ep, .int .i64 st, .int .u8 to] := by
              rw [← hW1]
              have := (CB.new (((w.alloc (.cells #[.int .u8 me, .int .i64 ep, .int .i64 st, .int .u8 to, .string cg, .bool kp] 25)).alloc (.cells #[.int .i64 kd, .int .u8 fr, .int .u8 t, .int .i64 e, .string mg] 27)).alloc (.cells #[.int .u8 0, .int .i64 0, .int .i64 0, .int .u8 0, .string ⟨#[]⟩, .bool false, .slice none 0 0, .int .i64 0] 40)) 23 #[.int .i64 ep, .int .i64 st, .int .u8 to])
              simpa using this
            have neW1_01 : w.heap.size ≠ w.heap.size + 1 := by omega
            have neW1_02 : w.heap.size ≠ w.heap.size + 1 + 1 := by omega
            have neW1_03 : w.heap.size ≠ w.heap.size + 1 + 1 + 1 := by omega
            have neW1_12 : w.heap.size + 1 ≠ w.heap.size + 1 + 1 := by omega
            have neW1_13 : w.heap.size + 1 ≠ w.heap.size + 1 + 1 + 1 := by omega
            have neW1_23 : w.heap.size + 1 + 1 ≠ w.heap.size + 1 + 1 + 1 := by omega
            have lW1 : Below w.heap.size w W1 := by rw [← hW1]; exact le_tr (le_tr (le_tr (le_al _ _) (le_al _ _)) (le_al _ _)) (le_al _ _)
            have HW1 := Lib.hid hW1
            clear hW1
            go_enter Try.func43, Try.ntmps43
            go_wp2_with fail
            rw [HW1.out]
            refine (S1 _).mono ?_
            rintro e w2 ⟨rfl, b2⟩
            have r3_s := le_on nW1_s b2
            have r3_m := le_on nW1_m b2
            have r3_r := le_on nW1_r b2
            have r3_l := le_on nW1_l b2
            have l3 := le_tr lW1 b2
            clear nW1_s nW1_m nW1_r nW1_l lW1
            clear b2
            have f3_s0 : w2.cell? ⟨w.heap.size, 0, none⟩ = some (.int .u8 me) := CB.cell r3_s 0
            have f3_s1 : w2.cell? ⟨w.heap.size, 1, none⟩ = some (.int .i64 ep) := CB.cell r3_s 1
            have f3_s2 : w2.cell? ⟨w.heap.size, 2, none⟩ = some (.int .i64 st) := CB.cell r3_s 2
            have f3_s3 : w2.cell? ⟨w.heap.size, 3, none⟩ = some (.int .u8 to) := CB.cell r3_s 3
            have f3_s4 : w2.cell? ⟨w.heap.size, 4, none⟩ = some (.string cg) := CB.cell r3_s 4
            have f3_s5 : w2.cell? ⟨w.heap.size, 5, none⟩ = some (.bool kp) := CB.cell r3_s 5
            have f3_m0 : w2.cell? ⟨w.heap.size + 1, 0, none⟩ = some (.int .i64 kd) := CB.cell r3_m 0
            have f3_m1 : w2.cell? ⟨w.heap.size + 1, 1, none⟩ = some (.int .u8 fr) := CB.cell r3_m 1
            have f3_m2 : w2.cell? ⟨w.heap.size + 1, 2, none⟩ = some (.int .u8 t) := CB.cell r3_m 2
            have f3_m3 : w2.cell? ⟨w.heap.size + 1, 3, none⟩ = some (.int .i64 e) := CB.cell r3_m 3
            have f3_m4 : w2.cell? ⟨w.heap.size + 1, 4, none⟩ = some (.string mg) := CB.cell r3_m 4
            have f3_l0 : w2.cell? ⟨w.heap.size + 1 + 1 + 1, 0, none⟩ = some (.int .i64 ep) := CB.cell r3_l 0
            have f3_l1 : w2.cell? ⟨w.heap.size + 1 + 1 + 1, 1, none⟩ = some (.int .i64 st) := CB.cell r3_l 1
            have f3_l2 : w2.cell? ⟨w.heap.size + 1 + 1 + 1, 2, none⟩ = some (.int .u8 to) := CB.cell r3_l 2
            have f3_r0 : w2.cell? ⟨w.heap.size + 1 + 1, 0, none⟩ = some (.int .u8 0) := CB.cell r3_r 0
            have z3_r0 : w2.frozen? ⟨w.heap.size + 1 + 1, 0, none⟩ = false := CB.frozen r3_r 0
            have f3_r1 : w2.cell? ⟨w.heap.size + 1 + 1, 1, none⟩ = some (.int .i64 0) := CB.cell r3_r 1
            have z3_r1 : w2.frozen? ⟨w.heap.size + 1 + 1, 1, none⟩ = false := CB.frozen r3_r 1
            have f3_r2 : w2.cell? ⟨w.heap.size + 1 + 1, 2, none⟩ = some (.int .i64 0) := CB.cell r3_r 2
            have z3_r2 : w2.frozen? ⟨w.heap.size + 1 + 1, 2, none⟩ = false := CB.frozen r3_r 2
            have f3_r3 : w2.cell? ⟨w.heap.size + 1 + 1, 3, none⟩ = some (.int .u8 0) := CB.cell r3_r 3
            have z3_r3 : w2.frozen? ⟨w.heap.size + 1 + 1, 3, none⟩ = false := CB.frozen r3_r 3
            have f3_r4 : w2.cell? ⟨w.heap.size + 1 + 1, 4, none⟩ = some (.string ⟨#[]⟩) := CB.cell r3_r 4
            have z3_r4 : w2.frozen? ⟨w.heap.size + 1 + 1, 4, none⟩ = false := CB.frozen r3_r 4
            have f3_r5 : w2.cell? ⟨w.heap.size + 1 + 1, 5, none⟩ = some (.bool false) := CB.cell r3_r 5
            have z3_r5 : w2.frozen? ⟨w.heap.size + 1 + 1, 5, none⟩ = false := CB.frozen r3_r 5
            have f3_r6 : w2.cell? ⟨w.heap.size + 1 + 1, 6, none⟩ = some (.slice none 0 0) := CB.cell r3_r 6
            have z3_r6 : w2.frozen? ⟨w.heap.size + 1 + 1, 6, none⟩ = false := CB.frozen r3_r 6
            have f3_r7 : w2.cell? ⟨w.heap.size + 1 + 1, 7, none⟩ = some (.int .i64 0) := CB.cell r3_r 7
            have z3_r7 : w2.frozen? ⟨w.heap.size + 1 + 1, 7, none⟩ = false := CB.frozen r3_r 7
            obtain ⟨V4, hV4⟩ : ∃ V, (((((((w2.setCell ⟨w.heap.size + 1 + 1, 0, none⟩ (.int .u8 me)).setCell ⟨w.heap.size + 1 + 1, 1, none⟩ (.int .i64 ep)).setCell ⟨w.heap.size + 1 + 1, 2, none⟩ (.int .i64 st)).setCell ⟨w.heap.size + 1 + 1, 3, none⟩ (.int .u8 to)).setCell ⟨w.heap.size + 1 + 1, 4, none⟩ (.string cg)).setCell ⟨w.heap.size + 1 + 1, 5, none⟩ (.bool kp)).setCell ⟨w.heap.size + 1 + 1, 6, none⟩ (.slice none 0 0)).setCell ⟨w.heap.size + 1 + 1, 7, none⟩ (.int .i64 10) = V := ⟨_, rfl⟩
            have nV4 : CB V4 (w.heap.size + 1 + 1) 40 #[.int .u8 me, .int .i64 ep, .int .i64 st, .int .u8 to, .string cg, .bool kp, .slice none 0 0, .int .i64 10] := by rw [← hV4]; exact cb_cast (CB.put (CB.put (CB.put (CB.put (CB.put (CB.put (CB.put (CB.put r3_r 0 (.int .u8 me)) 1 (.int .i64 ep)) 2 (.int .i64 st)) 3 (.int .u8 to)) 4 (.string cg)) 5 (.bool kp)) 6 (.slice none 0 0)) 7 (.int .i64 10)) (by kernel_rfl)
            have mV4_s : CB V4 (w.heap.size) 25 #[.int .u8 me, .int .i64 ep, .int .i64 st, .int .u8 to, .string cg, .bool kp] := by rw [← hV4]; exact (CB.far (CB.far (CB.far (CB.far (CB.far (CB.far (CB.far (CB.far r3_s (p := ⟨w.heap.size + 1 + 1, 0, none⟩) neW1_02 (.int .u8 me)) (p := ⟨w.heap.size + 1 + 1, 1, none⟩) neW1_02 (.int .i64 ep)) (p := ⟨w.heap.size + 1 + 1, 2, none⟩) neW1_02 (.int .i64 st)) (p := ⟨w.heap.size + 1 + 1, 3, none⟩) neW1_02 (.int .u8 to)) (p := ⟨w.heap.size + 1 + 1, 4, none⟩) neW1_02 (.string cg)) (p := ⟨w.heap.size + 1 + 1, 5, none⟩) neW1_02 (.bool kp)) (p := ⟨w.heap.size + 1 + 1, 6, none⟩) neW1_02 (.slice none 0 0)) (p := ⟨w.heap.size + 1 + 1, 7, none⟩) neW1_02 (.int .i64 10))
            have mV4_m : CB V4 (w.heap.size + 1) 27 #[.int .i64 kd, .int .u8 fr, .int .u8 t, .int .i64 e, .string mg] := by rw [← hV4]; exact (CB.far (CB.far (CB.far (CB.far (CB.far (CB.far (CB.far (CB.far r3_m (p := ⟨w.heap.size + 1 + 1, 0, none⟩) neW1_12 (.int .u8 me)) (p := ⟨w.heap.size + 1 + 1, 1, none⟩) neW1_12 (.int .i64 ep)) (p := ⟨w.heap.size + 1 + 1, 2, none⟩) neW1_12 (.int .i64 st)) (p := ⟨w.heap.size + 1 + 1, 3, none⟩) neW1_12 (.int .u8 to)) (p := ⟨w.heap.size + 1 + 1, 4, none⟩) neW1_12 (.string cg)) (p := ⟨w.heap.size + 1 + 1, 5, none⟩) neW1_12 (.bool kp)) (p := ⟨w.heap.size + 1 + 1, 6, none⟩) neW1_12 (.slice none 0 0)) (p := ⟨w.heap.size + 1 + 1, 7, none⟩) neW1_12 (.int .i64 10))
            have mV4_l : CB V4 (w.heap.size + 1 + 1 + 1) 23 #[.int .i64 ep, .int .i64 st, .int .u8 to] := by rw [← hV4]; exact (CB.far (CB.far (CB.far (CB.far (CB.far (CB.far (CB.far (CB.far r3_l (p := ⟨w.heap.size + 1 + 1, 0, none⟩) (Ne.symm neW1_23) (.int .u8 me)) (p := ⟨w.heap.size + 1 + 1, 1, none⟩) (Ne.symm neW1_23) (.int .i64 ep)) (p := ⟨w.heap.size + 1 + 1, 2, none⟩) (Ne.symm neW1_23) (.int .i64 st)) (p := ⟨w.heap.size + 1 + 1, 3, none⟩) (Ne.symm neW1_23) (.int .u8 to)) (p := ⟨w.heap.size + 1 + 1, 4, none⟩) (Ne.symm neW1_23) (.string cg)) (p := ⟨w.heap.size + 1 + 1, 5, none⟩) (Ne.symm neW1_23) (.bool kp)) (p := ⟨w.heap.size + 1 + 1, 6, none⟩) (Ne.symm neW1_23) (.slice none 0 0)) (p := ⟨w.heap.size + 1 + 1, 7, none⟩) (Ne.symm neW1_23) (.int .i64 10))
            have oV4 := (Below.setCell (Below.setCell (Below.setCell (Below.setCell (Below.setCell (Below.setCell (Below.setCell (Below.setCell l3 (p := ⟨w.heap.size + 1 + 1, 0, none⟩) (by dsimp only; omega) (.int .u8 me)) (p := ⟨w.heap.size + 1 + 1, 1, none⟩) (by dsimp only; omega) (.int .i64 ep)) (p := ⟨w.heap.size + 1 + 1, 2, none⟩) (by dsimp only; omega) (.int .i64 st)) (p := ⟨w.heap.size + 1 + 1, 3, none⟩) (by dsimp only; omega) (.int .u8 to)) (p := ⟨w.heap.size + 1 + 1, 4, none⟩) (by dsimp only; omega) (.string cg)) (p := ⟨w.heap.size + 1 + 1, 5, none⟩) (by dsimp only; omega) (.bool kp)) (p := ⟨w.heap.size + 1 + 1, 6, none⟩) (by dsimp only; omega) (.slice none 0 0)) (p := ⟨w.heap.size + 1 + 1, 7, none⟩) (by dsimp only; omega) (.int .i64 10))
            rw [hV4] at oV4
            have HV4 := Lib.hid hV4
            clear hV4
            clear r3_r r3_s r3_m r3_l l3
            go_wp2_with fail
            rw [HV4.out]
            have x_r0 : V4.cell? ⟨w.heap.size + 1 + 1, 0, none⟩ = some (.int .u8 me) := CB.cell nV4 0
            have x_r1 : V4.cell? ⟨w.heap.size + 1 + 1, 1, none⟩ = some (.int .i64 ep) := CB.cell nV4 1
            have x_r2 : V4.cell? ⟨w.heap.size + 1 + 1, 2, none⟩ = some (.int .i64 st) := CB.cell nV4 2
            have x_r3 : V4.cell? ⟨w.heap.size + 1 + 1, 3, none⟩ = some (.int .u8 to) := CB.cell nV4 3
            have x_r4 : V4.cell? ⟨w.heap.size + 1 + 1, 4, none⟩ = some (.string cg) := CB.cell nV4 4
            have x_r5 : V4.cell? ⟨w.heap.size + 1 + 1, 5, none⟩ = some (.bool kp) := CB.cell nV4 5
            have x_r6 : V4.cell? ⟨w.heap.size + 1 + 1, 6, none⟩ = some (.slice none 0 0) := CB.cell nV4 6
            have x_r7 : V4.cell? ⟨w.heap.size + 1 + 1, 7, none⟩ = some (.int .i64 10) := CB.cell nV4 7
            exact bodyPost_ret (v := .agg #[.int .u8 me, .int .i64 ep, .int .i64 st, .int .u8 to, .string cg, .bool kp, .slice none 0 0, .int .i64 10]) (by simp [results, Try.results43, go_sem, x_r0, x_r1, x_r2, x_r3, x_r4, x_r5, x_r6, x_r7]) rfl (TdPost.mk' me ep st to cg kp 10 [] H.out (RS.nil _ _ _ _) oV4)
        · have t2 : (ep == e) = false := by simp [q2]
          clear hk q1 q2
          obtain ⟨W1, hW1⟩ : ∃ V, (((w.alloc (.cells #[.int .u8 me, .int .i64 ep, .int .i64 st, .int .u8 to, .string cg, .bool kp] 25)).alloc (.cells #[.int .i64 kd, .int .u8 fr, .int .u8 t, .int .i64 e, .string mg] 27)).alloc (.cells #[.int .u8 0, .int .i64 0, .int .i64 0, .int .u8 0, .string ⟨#[]⟩, .bool false, .slice none 0 0, .int .i64 0] 40)).alloc (.cells #[.int .i64 ep, .int .i64 st, .int .u8 to] 23) = V := ⟨_, rfl⟩
          have nW1_s : CB W1 (w.heap.size) 25 #[.int .u8 me, .int .i64 ep, .int .i64 st, .int .u8 to, .string cg, .bool kp] := by
            rw [← hW1]
            have := ((((CB.new w 25 #[.int .u8 me, .int .i64 ep, .int .i64 st, .int .u8 to, .string cg, .bool kp]).alloc (.cells #[.int .i64 kd, .int .u8 fr, .int .u8 t, .int .i64 e, .string mg] 27)).alloc (.cells #[.int .u8 0, .int .i64 0, .int .i64 0, .int .u8 0, .string ⟨#[]⟩, .bool false, .slice none 0 0, .int .i64 0] 40)).alloc (.cells #[.int .i64 ep, .int .i64 st, .int .u8 to] 23))
            simpa using this
          have nW1_m : CB W1 (w.heap.size + 1) 27 #[.int .i64 kd, .int .u8 fr, .int .u8 t, .int .i64 e, .string mg] := by
            rw [← hW1]
            have := (((CB.new (w.alloc (.cells #[.int .u8 me, .int .i64 ep, .int .i64 st, .int .u8 to, .string cg, .bool kp] 25)) 27 #[.int .i64 kd, .int .u8 fr, .int .u8 t, .int .i64 e, .string mg]).alloc (.cells #[.int .u8 0, .int .i64 0, .int .i64 0, .int .u8 0, .string ⟨#[]⟩, .bool false, .slice none 0 0, .int .i64 0] 40)).alloc (.cells #[.int .i64 ep, .int .i64 st, .int .u8 to] 23))
            simpa using this
          have nW1_r : CB W1 (w.heap.size + 1 + 1) 40 #[.int .u8 0, .int .i64 0, .int .i64 0, .int .u8 0, .string ⟨#[]⟩, .bool false, .slice none 0 0, .int .i64 0] := by
            rw [← hW1]
            have := ((CB.new ((w.alloc (.cells #[.int .u8 me, .int .i64 ep, .int .i64 st, .int .u8 to, .string cg, .bool kp] 25)).alloc (.cells #[.int .i64 kd, .int .u8 fr, .int .u8 t, .int .i64 e, .string mg] 27)) 40 #[.int .u8 0, .int .i64 0, .int .i64 0, .int .u8 0, .string ⟨#[]⟩, .bool false, .slice none 0 0, .int .i64 0]).alloc (.cells #[.int .i64 ep, .int .i64 st, .int .u8 to] 23))
            simpa using this
          have nW1_l : CB W1 (w.heap.size + 1 + 1 + 1) 23 #[.int .i64 ep, .int .i64 st, .int .u8 to] := by
            rw [← hW1]
            have := (CB.new (((w.alloc (.cells #[.int .u8 me, .int .i64 ep, .int .i64 st, .int .u8 to, .string cg, .bool kp] 25)).alloc (.cells #[.int .i64 kd, .int .u8 fr, .int .u8 t, .int .i64 e, .string mg] 27)).alloc (.cells #[.int .u8 0, .int .i64 0, .int .i64 0, .int .u8 0, .string ⟨#[]⟩, .bool false, .slice none 0 0, .int .i64 0] 40)) 23 #[.int .i64 ep, .int .i64 st, .int .u8 to])
            simpa using this
          have neW1_01 : w.heap.size ≠ w.heap.size + 1 := by omega
          have neW1_02 : w.heap.size ≠ w.heap.size + 1 + 1 := by omega
          have neW1_03 : w.heap.size ≠ w.heap.size + 1 + 1 + 1 := by omega
          have neW1_12 : w.heap.size + 1 ≠ w.heap.size + 1 + 1 := by omega
          have neW1_13 : w.heap.size + 1 ≠ w.heap.size + 1 + 1 + 1 := by omega
          have neW1_23 : w.heap.size + 1 + 1 ≠ w.heap.size + 1 + 1 + 1 := by omega
          have lW1 : Below w.heap.size w W1 := by rw [← hW1]; exact le_tr (le_tr (le_tr (le_al _ _) (le_al _ _)) (le_al _ _)) (le_al _ _)
          have HW1 := Lib.hid hW1
          clear hW1
          go_enter Try.func43, Try.ntmps43
          go_wp2_with fail
          rw [HW1.out]
          refine (S1 _).mono ?_
          rintro e w2 ⟨rfl, b2⟩
          have r3_s := le_on nW1_s b2
          have r3_m := le_on nW1_m b2
          have r3_r := le_on nW1_r b2
          have r3_l := le_on nW1_l b2
          have l3 := le_tr lW1 b2
          clear nW1_s nW1_m nW1_r nW1_l lW1
          clear b2
          have f3_s0 : w2.cell? ⟨w.heap.size, 0, none⟩ = some (.int .u8 me) := CB.cell r3_s 0
          have f3_s1 : w2.cell? ⟨w.heap.size, 1, none⟩ = some (.int .i64 ep) := CB.cell r3_s 1
          have f3_s2 : w2.cell? ⟨w.heap.size, 2, none⟩ = some (.int .i64 st) := CB.cell r3_s 2
          have f3_s3 : w2.cell? ⟨w.heap.size, 3, none⟩ = some (.int .u8 to) := CB.cell r3_s 3
          have f3_s4 : w2.cell? ⟨w.heap.size, 4, none⟩ = some (.string cg) := CB.cell r3_s 4
          have f3_s5 : w2.cell? ⟨w.heap.size, 5, none⟩ = some (.bool kp) := CB.cell r3_s 5
          have f3_m0 : w2.cell? ⟨w.heap.size + 1, 0, none⟩ = some (.int .i64 kd) := CB.cell r3_m 0
          have f3_m1 : w2.cell? ⟨w.heap.size + 1, 1, none⟩ = some (.int .u8 fr) := CB.cell r3_m 1
          have f3_m2 : w2.cell? ⟨w.heap.size + 1, 2, none⟩ = some (.int .u8 t) := CB.cell r3_m 2
          have f3_m3 : w2.cell? ⟨w.heap.size + 1, 3, none⟩ = some (.int .i64 e) := CB.cell r3_m 3
          have f3_m4 : w2.cell? ⟨w.heap.size + 1, 4, none⟩ = some (.string mg) := CB.cell r3_m 4
          have f3_l0 : w2.cell? ⟨w.heap.size + 1 + 1 + 1, 0, none⟩ = some (.int .i64 ep) := CB.cell r3_l 0
          have f3_l1 : w2.cell? ⟨w.heap.size + 1 + 1 + 1, 1, none⟩ = some (.int .i64 st) := CB.cell r3_l 1
          have f3_l2 : w2.cell? ⟨w.heap.size + 1 + 1 + 1, 2, none⟩ = some (.int .u8 to) := CB.cell r3_l 2
          have f3_r0 : w2.cell? ⟨w.heap.size + 1 + 1, 0, none⟩ = some (.int .u8 0) := CB.cell r3_r 0
          have z3_r0 : w2.frozen? ⟨w.heap.size + 1 + 1, 0, none⟩ = false := CB.frozen r3_r 0
          have f3_r1 : w2.cell? ⟨w.heap.size + 1 + 1, 1, none⟩ = some (.int .i64 0) := CB.cell r3_r 1
          have z3_r1 : w2.frozen? ⟨w.heap.size + 1 + 1, 1, none⟩ = false := CB.frozen r3_r 1
          have f3_r2 : w2.cell? ⟨w.heap.size + 1 + 1, 2, none⟩ = some (.int .i64 0) := CB.cell r3_r 2
          have z3_r2 : w2.frozen? ⟨w.heap.size + 1 + 1, 2, none⟩ = false := CB.frozen r3_r 2
          have f3_r3 : w2.cell? ⟨w.heap.size + 1 + 1, 3, none⟩ = some (.int .u8 0) := CB.cell r3_r 3
          have z3_r3 : w2.frozen? ⟨w.heap.size + 1 + 1, 3, none⟩ = false := CB.frozen r3_r 3
          have f3_r4 : w2.cell? ⟨w.heap.size + 1 + 1, 4, none⟩ = some (.string ⟨#[]⟩) := CB.cell r3_r 4
          have z3_r4 : w2.frozen? ⟨w.heap.size + 1 + 1, 4, none⟩ = false := CB.frozen r3_r 4
          have f3_r5 : w2.cell? ⟨w.heap.size + 1 + 1, 5, none⟩ = some (.bool false) := CB.cell r3_r 5
          have z3_r5 : w2.frozen? ⟨w.heap.size + 1 + 1, 5, none⟩ = false := CB.frozen r3_r 5
          have f3_r6 : w2.cell? ⟨w.heap.size + 1 + 1, 6, none⟩ = some (.slice none 0 0) := CB.cell r3_r 6
          have z3_r6 : w2.frozen? ⟨w.heap.size + 1 + 1, 6, none⟩ = false := CB.frozen r3_r 6
          have f3_r7 : w2.cell? ⟨w.heap.size + 1 + 1, 7, none⟩ = some (.int .i64 0) := CB.cell r3_r 7
          have z3_r7 : w2.frozen? ⟨w.heap.size + 1 + 1, 7, none⟩ = false := CB.frozen r3_r 7
          obtain ⟨V4, hV4⟩ : ∃ V, (((((((w2.setCell ⟨w.heap.size + 1 + 1, 0, none⟩ (.int .u8 me)).setCell ⟨w.heap.size + 1 + 1, 1, none⟩ (.int .i64 ep)).setCell ⟨w.heap.size + 1 + 1, 2, none⟩ (.int .i64 st)).setCell ⟨w.heap.size + 1 + 1, 3, none⟩ (.int .u8 to)).setCell ⟨w.heap.size + 1 + 1, 4, none⟩ (.string cg)).setCell ⟨w.heap.size + 1 + 1, 5, none⟩ (.bool kp)).setCell ⟨w.heap.size + 1 + 1, 6, none⟩ (.slice none 0 0)).setCell ⟨w.heap.size + 1 + 1, 7, none⟩ (.int .i64 10) = V := ⟨_, rfl⟩
          have nV4 : CB V4 (w.heap.size + 1 + 1) 40 #[.int .u8 me, .int .i64 ep, .int .i64 st, .int .u8 to, .string cg, .bool kp, .slice none 0 0, .int .i64 10] := by rw [← hV4]; exact cb_cast (CB.put (CB.put (CB.put (CB.put (CB.put (CB.put (CB.put (CB.put r3_r 0 (.int .u8 me)) 1 (.int .i64 ep)) 2 (.int .i64 st)) 3 (.int .u8 to)) 4 (.string cg)) 5 (.bool kp)) 6 (.slice none 0 0)) 7 (.int .i64 10)) (by kernel_rfl)
          have mV4_s : CB V4 (w.heap.size) 25 #[.int .u8 me, .int .i64 ep, .int .i64 st, .int .u8 to, .string cg, .bool kp] := by rw [← hV4]; exact (CB.far (CB.far (CB.far (CB.far (CB.far (CB.far (CB.far (CB.far r3_s (p := ⟨w.heap.size + 1 + 1, 0, none⟩) neW1_02 (.int .u8 me)) (p := ⟨w.heap.size + 1 + 1, 1, none⟩) neW1_02 (.int .i64 ep)) (p := ⟨w.heap.size + 1 + 1, 2, none⟩) neW1_02 (.int .i64 st)) (p := ⟨w.heap.size + 1 + 1, 3, none⟩) neW1_02 (.int .u8 to)) (p := ⟨w.heap.size + 1 + 1, 4, none⟩) neW1_02 (.string cg)) (p := ⟨w.heap.size + 1 + 1, 5, none⟩) neW1_02 (.bool kp)) (p := ⟨w.heap.size + 1 + 1, 6, none⟩) neW1_02 (.slice none 0 0)) (p := ⟨w.heap.size + 1 + 1, 7, none⟩) neW1_02 (.int .i64 10))
          have mV4_m : CB V4 (w.heap.size + 1) 27 #[.int .i64 kd, .int .u8 fr, .int .u8 t, .int .i64 e, .string mg] := by rw [← hV4]; exact (CB.far (CB.far (CB.far (CB.far (CB.far (CB.far (CB.far (CB.far r3_m (p := ⟨w.heap.size + 1 + 1, 0, none⟩) neW1_12 (.int .u8 me)) (p := ⟨w.heap.size + 1 + 1, 1, none⟩) neW1_12 (.int .i64 ep)) (p := ⟨w.heap.size + 1 + 1, 2, none⟩) neW1_12 (.int .i64 st)) (p := ⟨w.heap.size + 1 + 1, 3, none⟩) neW1_12 (.int .u8 to)) (p := ⟨w.heap.size + 1 + 1, 4, none⟩) neW1_12 (.string cg)) (p := ⟨w.heap.size + 1 + 1, 5, none⟩) neW1_12 (.bool kp)) (p := ⟨w.heap.size + 1 + 1, 6, none⟩) neW1_12 (.slice none 0 0)) (p := ⟨w.heap.size + 1 + 1, 7, none⟩) neW1_12 (.int .i64 10))
          have mV4_l : CB V4 (w.heap.size + 1 + 1 + 1) 23 #[.int .i64 ep, .int .i64 st, .int .u8 to] := by rw [← hV4]; exact (CB.far (CB.far (CB.far (CB.far (CB.far (CB.far (CB.far (CB.far r3_l (p := ⟨w.heap.size + 1 + 1, 0, none⟩) (Ne.symm neW1_23) (.int .u8 me)) (p := ⟨w.heap.size + 1 + 1, 1, none⟩) (Ne.symm neW1_23) (.int .i64 ep)) (p := ⟨w.heap.size + 1 + 1, 2, none⟩) (Ne.symm neW1_23) (.int .i64 st)) (p := ⟨w.heap.size + 1 + 1, 3, none⟩) (Ne.symm neW1_23) (.int .u8 to)) (p := ⟨w.heap.size + 1 + 1, 4, none⟩) (Ne.symm neW1_23) (.string cg)) (p := ⟨w.heap.size + 1 + 1, 5, none⟩) (Ne.symm neW1_23) (.bool kp)) (p := ⟨w.heap.size + 1 + 1, 6, none⟩) (Ne.symm neW1_23) (.slice none 0 0)) (p := ⟨w.heap.size + 1 + 1, 7, none⟩) (Ne.symm neW1_23) (.int .i64 10))
          have oV4 := (Below.setCell (Below.setCell (Below.setCell (Below.setCell (Below.setCell (Below.setCell (Below.setCell (Below.setCell l3 (p := ⟨w.heap.size + 1 + 1, 0, none⟩) (by dsimp only; omega) (.int .u8 me)) (p := ⟨w.heap.size + 1 + 1, 1, none⟩) (by dsimp only; omega) (.int .i64 ep)) (p := ⟨w.heap.size + 1 + 1, 2, none⟩) (by dsimp only; omega) (.int .i64 st)) (p := ⟨w.heap.size + 1 + 1, 3, none⟩) (by dsimp only; omega) (.int .u8 to)) (p := ⟨w.heap.size + 1 + 1, 4, none⟩) (by dsimp only; omega) (.string cg)) (p := ⟨w.heap.size + 1 + 1, 5, none⟩) (by dsimp only; omega) (.bool kp)) (p := ⟨w.heap.size + 1 + 1, 6, none⟩) (by dsimp only; omega) (.slice none 0 0)) (p := ⟨w.heap.size + 1 + 1, 7, none⟩) (by dsimp only; omega) (.int .i64 10))
          rw [hV4] at oV4
          have HV4 := Lib.hid hV4
          clear hV4
          clear r3_r r3_s r3_m r3_l l3
          go_wp2_with fail
          rw [HV4.out]
          have x_r0 : V4.cell? ⟨w.heap.size + 1 + 1, 0, none⟩ = some (.int .u8 me) := CB.cell nV4 0
          have x_r1 : V4.cell? ⟨w.heap.size + 1 + 1, 1, none⟩ = some (.int .i64 ep) := CB.cell nV4 1
          have x_r2 : V4.cell? ⟨w.heap.size + 1 + 1, 2, none⟩ = some (.int .i64 st) := CB.cell nV4 2
          have x_r3 : V4.cell? ⟨w.heap.size + 1 + 1, 3, none⟩ = some (.int .u8 to) := CB.cell nV4 3
          have x_r4 : V4.cell? ⟨w.heap.size + 1 + 1, 4, none⟩ = some (.string cg) := CB.cell nV4 4
          have x_r5 : V4.cell? ⟨w.heap.size + 1 + 1, 5, none⟩ = some (.bool kp) := CB.cell nV4 5
          have x_r6 : V4.cell? ⟨w.heap.size + 1 + 1, 6, none⟩ = some (.slice none 0 0) := CB.cell nV4 6
          have x_r7 : V4.cell? ⟨w.heap.size + 1 + 1, 7, none⟩ = some (.int .i64 10) := CB.cell nV4 7
          exact bodyPost_ret (v := .agg #[.int .u8 me, .int .i64 ep, .int .i64 st, .int .u8 to, .string cg, .bool kp, .slice none 0 0, .int .i64 10]) (by simp [results, Try.results43, go_sem, x_r0, x_r1, x_r2, x_r3, x_r4, x_r5, x_r6, x_r7]) rfl (TdPost.mk' me ep st to cg kp 10 [] H.out (RS.nil _ _ _ _) oV4)
      · have t1 : (st == 2) = false := by simp [q1]
        clear hk q1
        obtain ⟨W1, hW1⟩ : ∃ V, (((w.alloc (.cells #[.int .u8 me, .int .i64 ep, .int .i64 st, .int .u8 to, .string cg, .bool kp] 25)).alloc (.cells #[.int .i64 kd, .int .u8 fr, .int .u8 t, .int .i64 e, .string mg] 27)).alloc (.cells #[.int .u8 0, .int .i64 0, .int .i64 0, .int .u8 0, .string ⟨#[]⟩, .bool false, .slice none 0 0, .int .i64 0] 40)).alloc (.cells #[.int .i64 ep, .int .i64 st, .int .u8 to] 23) = V := ⟨_, rfl⟩
        have nW1_s : CB W1 (w.heap.size) 25 #[.int .u8 me, .int .i64 ep, .int .i64 st, .int .u8 to, .string cg, .bool kp] := by
          rw [← hW1]
          have := ((((CB.new w 25 #[.int .u8 me, .int .i64 ep, .int .i64 st, .int .u8 to, .string cg, .bool kp]).alloc (.cells #[.int .i64 kd, .int .u8 fr, .int .u8 t, .int .i64 e, .string mg] 27)).alloc (.cells #[.int .u8 0, .int .i64 0, .int .i64 0, .int .u8 0, .string ⟨#[]⟩, .bool false, .slice none 0 0, .int .i64 0] 40)).alloc (.cells #[.int .i64 ep, .int .i64 st, .int .u8 to] 23))
          simpa using this
        have nW1_m : CB W1 (w.heap.size + 1) 27 #[.int .i64 kd, .int .u8 fr, .int .u8 t, .int .i64 e, .string mg] := by
          rw [← hW1]
          have := (((CB.new (w.alloc (.cells #[.int .u8 me, .int .i64 ep, .int .i64 st, .int .u8 to, .string cg, .bool kp] 25)) 27 #[.int .i64 kd, .int .u8 fr, .int .u8 t, .int .i64 e, .string mg]).alloc (.cells #[.int .u8 0, .int .i64 0, .int .i64 0, .int .u8 0, .string ⟨#[]⟩, .bool false, .slice none 0 0, .int .i64 0] 40)).alloc (.cells #[.int .i64 ep, .int .i64 st, .int .u8 to] 23))
          simpa using this
        have nW1_r : CB W1 (w.heap.size + 1 + 1) 40 #[.int .u8 0, .int .i64 0, .int .i64 0, .int .u8 0, .string ⟨#[]⟩, .bool false, .slice none 0 0, .int .i64 0] := by
          rw [← hW1]
          have := ((CB.new ((w.alloc (.cells #[.int .u8 me, .int .i64 ep, .int .i64 st, .int .u8 to, .string cg, .bool kp] 25)).alloc (.cells #[.int .i64 kd, .int .u8 fr, .int .u8 t, .int .i64 e, .string mg] 27)) 40 #[.int .u8 0, .int .i64 0, .int .i64 0, .int .u8 0, .string ⟨#[]⟩, .bool false, .slice none 0 0, .int .i64 0]).alloc (.cells #[.int .i64 ep, .int .i64 st, .int .u8 to] 23))
          simpa using this
        have nW1_l : CB W1 (w.heap.size + 1 + 1 + 1) 23 #[.int .i64 ep, .int .i64 st, .int .u8 to] := by
          rw [← hW1]
          have := (CB.new (((w.alloc (.cells #[.int .u8 me, .int .i64 ep, .int .i64 st, .int .u8 to, .string cg, .bool kp] 25)).alloc (.cells #[.int .i64 kd, .int .u8 fr, .int .u8 t, .int .i64 e, .string mg] 27)).alloc (.cells #[.int .u8 0, .int .i64 0, .int .i64 0, .int .u8 0, .string ⟨#[]⟩, .bool false, .slice none 0 0, .int .i64 0] 40)) 23 #[.int .i64 ep, .int .i64 st, .int .u8 to])
          simpa using this
        have neW1_01 : w.heap.size ≠ w.heap.size + 1 := by omega
        have neW1_02 : w.heap.size ≠ w.heap.size + 1 + 1 := by omega
        have neW1_03 : w.heap.size ≠ w.heap.size + 1 + 1 + 1 := by omega
        have neW1_12 : w.heap.size + 1 ≠ w.heap.size + 1 + 1 := by omega
        have neW1_13 : w.heap.size + 1 ≠ w.heap.size + 1 + 1 + 1 := by omega
        have neW1_23 : w.heap.size + 1 + 1 ≠ w.heap.size + 1 + 1 + 1 := by omega
        have lW1 : Below w.heap.size w W1 := by rw [← hW1]; exact le_tr (le_tr (le_tr (le_al _ _) (le_al _ _)) (le_al _ _)) (le_al _ _)
        have HW1 := Lib.hid hW1
        clear hW1
        go_enter Try.func43, Try.ntmps43
        go_wp2_with fail
        rw [HW1.out]
        refine (S1 _).mono ?_
        rintro e w2 ⟨rfl, b2⟩
        have r3_s := le_on nW1_s b2
        have r3_m := le_on nW1_m b2
        have r3_r := le_on nW1_r b2
        have r3_l := le_on nW1_l b2
        have l3 := le_tr lW1 b2
        clear nW1_s nW1_m nW1_r nW1_l lW1
        clear b2
        have f3_s0 : w2.cell? ⟨w.heap.size, 0, none⟩ = some (.int .u8 me) := CB.cell r3_s 0
        have f3_s1 : w2.cell? ⟨w.heap.size, 1, none⟩ = some (.int .i64 ep) := CB.cell r3_s 1
        have f3_s2 : w2.cell? ⟨w.heap.size, 2, none⟩ = some (.int .i64 st) := CB.cell r3_s 2
        have f3_s3 : w2.cell? ⟨w.heap.size, 3, none⟩ = some (.int .u8 to) := CB.cell r3_s 3
        have f3_s4 : w2.cell? ⟨w.heap.size, 4, none⟩ = some (.string cg) := CB.cell r3_s 4
        have f3_s5 : w2.cell? ⟨w.heap.size, 5, none⟩ = some (.bool kp) := CB.cell r3_s 5
        have f3_m0 : w2.cell? ⟨w.heap.size + 1, 0, none⟩ = some (.int .i64 kd) := CB.cell r3_m 0
        have f3_m1 : w2.cell? ⟨w.heap.size + 1, 1, none⟩ = some (.int .u8 fr) := CB.cell r3_m 1
        have f3_m2 : w2.cell? ⟨w.heap.size + 1, 2, none⟩ = some (.int .u8 t) := CB.cell r3_m 2
        have f3_m3 : w2.cell? ⟨w.heap.size + 1, 3, none⟩ = some (.int .i64 e) := CB.cell r3_m 3
        have f3_m4 : w2.cell? ⟨w.heap.size + 1, 4, none⟩ = some (.string mg) := CB.cell r3_m 4
        have f3_l0 : w2.cell? ⟨w.heap.size + 1 + 1 + 1, 0, none⟩ = some (.int .i64 ep) := CB.cell r3_l 0
        have f3_l1 : w2.cell? ⟨w.heap.size + 1 + 1 + 1, 1, none⟩ = some (.int .i64 st) := CB.cell r3_l 1
        have f3_l2 : w2.cell? ⟨w.heap.size + 1 + 1 + 1, 2, none⟩ = some (.int .u8 to) := CB.cell r3_l 2
        have f3_r0 : w2.cell? ⟨w.heap.size + 1 + 1, 0, none⟩ = some (.int .u8 0) := CB.cell r3_r 0
        have z3_r0 : w2.frozen? ⟨w.heap.size + 1 + 1, 0, none⟩ = false := CB.frozen r3_r 0
        have f3_r1 : w2.cell? ⟨w.heap.size + 1 + 1, 1, none⟩ = some (.int .i64 0) := CB.cell r3_r 1
        have z3_r1 : w2.frozen? ⟨w.heap.size + 1 + 1, 1, none⟩ = false := CB.frozen r3_r 1
        have f3_r2 : w2.cell? ⟨w.heap.size + 1 + 1, 2, none⟩ = some (.int .i64 0) := CB.cell r3_r 2
        have z3_r2 : w2.frozen? ⟨w.heap.size + 1 + 1, 2, none⟩ = false := CB.frozen r3_r 2
        have f3_r3 : w2.cell? ⟨w.heap.size + 1 + 1, 3, none⟩ = some (.int .u8 0) := CB.cell r3_r 3
        have z3_r3 : w2.frozen? ⟨w.heap.size + 1 + 1, 3, none⟩ = false := CB.frozen r3_r 3
        have f3_r4 : w2.cell? ⟨w.heap.size + 1 + 1, 4, none⟩ = some (.string ⟨#[]⟩) := CB.cell r3_r 4
        have z3_r4 : w2.frozen? ⟨w.heap.size + 1 + 1, 4, none⟩ = false := CB.frozen r3_r 4
        have f3_r5 : w2.cell? ⟨w.heap.size + 1 + 1, 5, none⟩ = some (.bool false) := CB.cell r3_r 5
        have z3_r5 : w2.frozen? ⟨w.heap.size + 1 + 1, 5, none⟩ = false := CB.frozen r3_r 5
        have f3_r6 : w2.cell? ⟨w.heap.size + 1 + 1, 6, none⟩ = some (.slice none 0 0) := CB.cell r3_r 6
        have z3_r6 : w2.frozen? ⟨w.heap.size + 1 + 1, 6, none⟩ = false := CB.frozen r3_r 6
        have f3_r7 : w2.cell? ⟨w.heap.size + 1 + 1, 7, none⟩ = some (.int .i64 0) := CB.cell r3_r 7
        have z3_r7 : w2.frozen? ⟨w.heap.size + 1 + 1, 7, none⟩ = false := CB.frozen r3_r 7
        obtain ⟨V4, hV4⟩ : ∃ V, (((((((w2.setCell ⟨w.heap.size + 1 + 1, 0, none⟩ (.int .u8 me)).setCell ⟨w.heap.size + 1 + 1, 1, none⟩ (.int .i64 ep)).setCell ⟨w.heap.size + 1 + 1, 2, none⟩ (.int .i64 st)).setCell ⟨w.heap.size + 1 + 1, 3, none⟩ (.int .u8 to)).setCell ⟨w.heap.size + 1 + 1, 4, none⟩ (.string cg)).setCell ⟨w.heap.size + 1 + 1, 5, none⟩ (.bool kp)).setCell ⟨w.heap.size + 1 + 1, 6, none⟩ (.slice none 0 0)).setCell ⟨w.heap.size + 1 + 1, 7, none⟩ (.int .i64 10) = V := ⟨_, rfl⟩
        have nV4 : CB V4 (w.heap.size + 1 + 1) 40 #[.int .u8 me, .int .i64 ep, .int .i64 st, .int .u8 to, .string cg, .bool kp, .slice none 0 0, .int .i64 10] := by rw [← hV4]; exact cb_cast (CB.put (CB.put (CB.put (CB.put (CB.put (CB.put (CB.put (CB.put r3_r 0 (.int .u8 me)) 1 (.int .i64 ep)) 2 (.int .i64 st)) 3 (.int .u8 to)) 4 (.string cg)) 5 (.bool kp)) 6 (.slice none 0 0)) 7 (.int .i64 10)) (by kernel_rfl)
        have mV4_s : CB V4 (w.heap.size) 25 #[.int .u8 me, .int .i64 ep, .int .i64 st, .int .u8 to, .string cg, .bool kp] := by rw [← hV4]; exact (CB.far (CB.far (CB.far (CB.far (CB.far (CB.far (CB.far (CB.far r3_s (p := ⟨w.heap.size + 1 + 1, 0, none⟩) neW1_02 (.int .u8 me)) (p := ⟨w.heap.size + 1 + 1, 1, none⟩) neW1_02 (.int .i64 ep)) (p := ⟨w.heap.size + 1 + 1, 2, none⟩) neW1_02 (.int .i64 st)) (p := ⟨w.heap.size + 1 + 1, 3, none⟩) neW1_02 (.int .u8 to)) (p := ⟨w.heap.size + 1 + 1, 4, none⟩) neW1_02 (.string cg)) (p := ⟨w.heap.size + 1 + 1, 5, none⟩) neW1_02 (.bool kp)) (p := ⟨w.heap.size + 1 + 1, 6, none⟩) neW1_02 (.slice none 0 0)) (p := ⟨w.heap.size + 1 + 1, 7, none⟩) neW1_02 (.int .i64 10))
        have mV4_m : CB V4 (w.heap.size + 1) 27 #[.int .i64 kd, .int .u8 fr, .int .u8 t, .int .i64 e, .string mg] := by rw [← hV4]; exact (CB.far (CB.far (CB.far (CB.far (CB.far (CB.far (CB.far (CB.far r3_m (p := ⟨w.heap.size + 1 + 1, 0, none⟩) neW1_12 (.int .u8 me)) (p := ⟨w.heap.size + 1 + 1, 1, none⟩) neW1_12 (.int .i64 ep)) (p := ⟨w.heap.size + 1 + 1, 2, none⟩) neW1_12 (.int .i64 st)) (p := ⟨w.heap.size + 1 + 1, 3, none⟩) neW1_12 (.int .u8 to)) (p := ⟨w.heap.size + 1 + 1, 4, none⟩) neW1_12 (.string cg)) (p := ⟨w.heap.size + 1 + 1, 5, none⟩) neW1_12 (.bool kp)) (p := ⟨w.heap.size + 1 + 1, 6, none⟩) neW1_12 (.slice none 0 0)) (p := ⟨w.heap.size + 1 + 1, 7, none⟩) neW1_12 (.int .i64 10))
        have mV4_l : CB V4 (w.heap.size + 1 + 1 + 1) 23 #[.int .i64 ep, .int .i64 st, .int .u8 to] := by rw [← hV4]; exact (CB.far (CB.far (CB.far (CB.far (CB.far (CB.far (CB.far (CB.far r3_l (p := ⟨w.heap.size + 1 + 1, 0, none⟩) (Ne.symm neW1_23) (.int .u8 me)) (p := ⟨w.heap.size + 1 + 1, 1, none⟩) (Ne.symm neW1_23) (.int .i64 ep)) (p := ⟨w.heap.size + 1 + 1, 2, none⟩) (Ne.symm neW1_23) (.int .i64 st)) (p := ⟨w.heap.size + 1 + 1, 3, none⟩) (Ne.symm neW1_23) (.int .u8 to)) (p := ⟨w.heap.size + 1 + 1, 4, none⟩) (Ne.symm neW1_23) (.string cg)) (p := ⟨w.heap.size + 1 + 1, 5, none⟩) (Ne.symm neW1_23) (.bool kp)) (p := ⟨w.heap.size + 1 + 1, 6, none⟩) (Ne.symm neW1_23) (.slice none 0 0)) (p := ⟨w.heap.size + 1 + 1, 7, none⟩) (Ne.symm neW1_23) (.int .i64 10))
        have oV4 := (Below.setCell (Below.setCell (Below.setCell (Below.setCell (Below.setCell (Below.setCell (Below.setCell (Below.setCell l3 (p := ⟨w.heap.size + 1 + 1, 0, none⟩) (by dsimp only; omega) (.int .u8 me)) (p := ⟨w.heap.size + 1 + 1, 1, none⟩) (by dsimp only; omega) (.int .i64 ep)) (p := ⟨w.heap.size + 1 + 1, 2, none⟩) (by dsimp only; omega) (.int .i64 st)) (p := ⟨w.heap.size + 1 + 1, 3, none⟩) (by dsimp only; omega) (.int .u8 to)) (p := ⟨w.heap.size + 1 + 1, 4, none⟩) (by dsimp only; omega) (.string cg)) (p := ⟨w.heap.size + 1 + 1, 5, none⟩) (by dsimp only; omega) (.bool kp)) (p := ⟨w.heap.size + 1 + 1, 6, none⟩) (by dsimp only; omega) (.slice none 0 0)) (p := ⟨w.heap.size + 1 + 1, 7, none⟩) (by dsimp only; omega) (.int .i64 10))
        rw [hV4] at oV4
        have HV4 := Lib.hid hV4
        clear hV4
        clear r3_r r3_s r3_m r3_l l3
        go_wp2_with fail
        rw [HV4.out]
        have x_r0 : V4.cell? ⟨w.heap.size + 1 + 1, 0, none⟩ = some (.int .u8 me) := CB.cell nV4 0
        have x_r1 : V4.cell? ⟨w.heap.size + 1 + 1, 1, none⟩ = some (.int .i64 ep) := CB.cell nV4 1
        have x_r2 : V4.cell? ⟨w.heap.size + 1 + 1, 2, none⟩ = some (.int .i64 st) := CB.cell nV4 2
        have x_r3 : V4.cell? ⟨w.heap.size + 1 + 1, 3, none⟩ = some (.int .u8 to) := CB.cell nV4 3
        have x_r4 : V4.cell? ⟨w.heap.size + 1 + 1, 4, none⟩ = some (.string cg) := CB.cell nV4 4
        have x_r5 : V4.cell? ⟨w.heap.size + 1 + 1, 5, none⟩ = some (.bool kp) := CB.cell nV4 5
        have x_r6 : V4.cell? ⟨w.heap.size + 1 + 1, 6, none⟩ = some (.slice none 0 0) := CB.cell nV4 6
        have x_r7 : V4.cell? ⟨w.heap.size + 1 + 1, 7, none⟩ = some (.int .i64 10) := CB.cell nV4 7
        exact bodyPost_ret (v := .agg #[.int .u8 me, .int .i64 ep, .int .i64 st, .int .u8 to, .string cg, .bool kp, .slice none 0 0, .int .i64 10]) (by simp [results, Try.results43, go_sem, x_r0, x_r1, x_r2, x_r3, x_r4, x_r5, x_r6, x_r7]) rfl (TdPost.mk' me ep st to cg kp 10 [] H.out (RS.nil _ _ _ _) oV4)
end Go.Proofs.Ytmghckddofefkaa
