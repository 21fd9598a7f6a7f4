/-
  hearWant of package hand: what the document says comes of a Want. Conditions: the side and the message are valid, the message is to the side.
-/
import Derived.Test.YtfdboahcaiolgaaAqHb
set_option linter.unusedVariables false
set_option linter.unusedSimpArgs false
namespace Go.Proofs.Ytfdboahcaiolgaa
open Go.RowKit

set_option maxRecDepth 100000 in
set_option maxHeartbeats 4000000 in
theorem hwant_c (me ep st to : Int) (cg : ByteArray) (kp : Bool) (kd fr t e : Int) (mg : ByteArray) (w : World) (hs : RightS ⟨me, ⟨ep, st, to⟩, cg, kp⟩) (hm : MayM ⟨kd, fr, t, e, mg⟩) (ht : t = me) : Calls Try.prog 48 #[.agg #[.int .u8 me, .int .i64 ep, .int .i64 st, .int .u8 to, .string cg, .bool kp], .agg #[.int .i64 kd, .int .u8 fr, .int .u8 t, .int .i64 e, .string mg]] w (HPost w 68 (wantM ⟨me, ⟨ep, st, to⟩, cg, kp⟩ ⟨kd, fr, t, e, mg⟩)) := by
  have hrt : rightL ⟨ep, st, to⟩ = true := hs.2.1
  obtain ⟨hm1, hm2, hm3, hm4, hm5, hm6⟩ := hm
  simp only at hm1 hm2 hm3 hm4 hm5
  have S1 := fun W => lspeaks_c ep st to e W
  by_cases hsp : st = 1 ∧ ep = e
  · have h1 : speaksL ⟨ep, st, to⟩ e = true := by unfold speaksL; rw [hrt]; simp [hsp]
    simp only [h1] at S1
    have G1 := fun W => lgive_c ep st to fr W
    by_cases hmx : e = 1048576
    · have h2 : eGiveL ⟨ep, st, to⟩ fr = 3 := by unfold eGiveL; rw [hrt]; simp [hsp.1, hsp.2, hmx]; omega
      have h3 : sGiveL ⟨ep, st, to⟩ fr = ⟨ep, st, to⟩ := by unfold sGiveL; rw [h2]; rfl
      simp only [h2, h3] at G1
      have H := Lib.hid (show wantM ⟨me, ⟨ep, st, to⟩, cg, kp⟩ ⟨kd, fr, t, e, mg⟩ = ⟨⟨me, ⟨ep, st, to⟩, cg, kp⟩, [], 3⟩ by unfold wantM; simp only; rw [if_pos hsp, if_pos hmx])
      clear h1 h2 h3 hsp hmx hrt hs hm1 hm2 hm3 hm4 hm5 hm6 ht
      obtain ⟨W1, hW1⟩ : ∃ V, ((w.alloc (.cells #[.int .u8 me, .int .i64 ep, .int .i64 st, .int .u8 to, .string cg, .bool kp] 45)).alloc (.cells #[.int .i64 kd, .int .u8 fr, .int .u8 t, .int .i64 e, .string mg] 68)).alloc (.cells #[.int .u8 0, .int .i64 0, .int .i64 0, .int .u8 0, .string ⟨#[]⟩, .bool false] 45) = V := ⟨_, rfl⟩
      have nW1_s : CB W1 (w.heap.size) 45 #[.int .u8 me, .int .i64 ep, .int .i64 st, .int .u8 to, .string cg, .bool kp] := by
        rw [← hW1]
        have := (((CB.new w 45 #[.int .u8 me, .int .i64 ep, .int .i64 st, .int .u8 to, .string cg, .bool kp]).alloc (.cells #[.int .i64 kd, .int .u8 fr, .int .u8 t, .int .i64 e, .string mg] 68)).alloc (.cells #[.int .u8 0, .int .i64 0, .int .i64 0, .int .u8 0, .string ⟨#[]⟩, .bool false] 45))
        simpa using this
      have nW1_m : CB W1 (w.heap.size + 1) 68 #[.int .i64 kd, .int .u8 fr, .int .u8 t, .int .i64 e, .string mg] := by
        rw [← hW1]
        have := ((CB.new (w.alloc (.cells #[.int .u8 me, .int .i64 ep, .int .i64 st, .int .u8 to, .string cg, .bool kp] 45)) 68 #[.int .i64 kd, .int .u8 fr, .int .u8 t, .int .i64 e, .string mg]).alloc (.cells #[.int .u8 0, .int .i64 0, .int .i64 0, .int .u8 0, .string ⟨#[]⟩, .bool false] 45))
        simpa using this
      have nW1_r : CB W1 (w.heap.size + 1 + 1) 45 #[.int .u8 0, .int .i64 0, .int .i64 0, .int .u8 0, .string ⟨#[]⟩, .bool false] := by
        rw [← hW1]
        have := (CB.new ((w.alloc (.cells #[.int .u8 me, .int .i64 ep, .int .i64 st, .int .u8 to, .string cg, .bool kp] 45)).alloc (.cells #[.int .i64 kd, .int .u8 fr, .int .u8 t, .int .i64 e, .string mg] 68)) 45 #[.int .u8 0, .int .i64 0, .int .i64 0, .int .u8 0, .string ⟨#[]⟩, .bool false])
        simpa using this
      have neW1_01 : w.heap.size ≠ w.heap.size + 1 := by omega
      have neW1_02 : w.heap.size ≠ w.heap.size + 1 + 1 := by omega
      have neW1_12 : w.heap.size + 1 ≠ w.heap.size + 1 + 1 := by omega
      have lW1 : Below w.heap.size w W1 := by rw [← hW1]; exact le_tr (le_tr (le_al _ _) (le_al _ _)) (le_al _ _)
      have HW1 := Lib.hid hW1
      clear hW1
      go_enter Try.func48, Try.ntmps48
      go_wp2_with fail
      rw [HW1.out]
      refine (S1 _).mono ?_
      rintro e w2 ⟨rfl, b2⟩
      have r3_s := le_on nW1_s b2
      have r3_m := le_on nW1_m b2
      have r3_r := le_on nW1_r b2
      have l3 := le_tr lW1 b2
      clear nW1_s nW1_m nW1_r lW1
      clear b2
      have f3_s0 : w2.cell? ⟨w.heap.size, 0, none⟩ = some (.int .u8 me) := CB.cell r3_s 0
      have f3_s1 : w2.cell? ⟨w.heap.size, 1, none⟩ = some (.int .i64 ep) := CB.cell r3_s 1
      have f3_s2 : w2.cell? ⟨w.heap.size, 2, none⟩ = some (.int .i64 st) := CB.cell r3_s 2
      have f3_s3 : w2.cell? ⟨w.heap.size, 3, none⟩ = some (.int .u8 to) := CB.cell r3_s 3
      have f3_s4 : w2.cell? ⟨w.heap.size, 4, none⟩ = some (.string cg) := CB.cell r3_s 4
      have f3_s5 : w2.cell? ⟨w.heap.size, 5, none⟩ = some (.bool kp) := CB.cell r3_s 5
      have f3_m0 : w2.cell? ⟨w.heap.size + 1, 0, none⟩ = some (.int .i64 kd) := CB.cell r3_m 0
      have f3_m1 : w2.cell? ⟨w.heap.size + 1, 1, none⟩ = some (.int .u8 fr) := CB.cell r3_m 1
      have f3_m2 : w2.cell? ⟨w.heap.size + 1, 2, none⟩ = some (.int .u8 t) := CB.cell r3_m 2
      have f3_m3 : w2.cell? ⟨w.heap.size + 1, 3, none⟩ = some (.int .i64 e) := CB.cell r3_m 3
      have f3_m4 : w2.cell? ⟨w.heap.size + 1, 4, none⟩ = some (.string mg) := CB.cell r3_m 4
      go_wp2_with fail
      refine (G1 _).mono ?_
      rintro e w4 ⟨rfl, b4⟩
      clear f3_s0 f3_s1 f3_s2 f3_s3 f3_s4 f3_s5 f3_m0 f3_m1 f3_m2 f3_m3 f3_m4
      have r5_s := le_on r3_s b4
      have r5_m := le_on r3_m b4
      have r5_r := le_on r3_r b4
      have l5 := le_tr l3 b4
      clear r3_s r3_m r3_r l3
      clear b4
      have av_l : w.heap.size ≤ w4.heap.size := by have := l5.size; omega
      obtain ⟨W6, hW6⟩ : ∃ V, w4.alloc (.cells #[.int .i64 ep, .int .i64 st, .int .u8 to] 43) = V := ⟨_, rfl⟩
      have zW6 : w4.heap.size = w4.heap.size := by rfl
      have nW6 : CB W6 (w4.heap.size) 43 #[.int .i64 ep, .int .i64 st, .int .u8 to] := by rw [← zW6, ← hW6]; exact CB.new _ _ _
      have bW6 : Below w4.heap.size w4 W6 := by rw [← hW6]; exact le_al _ _
      have neW6_s : w.heap.size ≠ w4.heap.size := by have := CB.lt r5_s; omega
      have neW6_m : w.heap.size + 1 ≠ w4.heap.size := by have := CB.lt r5_m; omega
      have neW6_r : w.heap.size + 1 + 1 ≠ w4.heap.size := by have := CB.lt r5_r; omega
      have HW6 := Lib.hid hW6
      clear hW6 zW6
      have r7_s := le_on r5_s bW6
      have r7_m := le_on r5_m bW6
      have r7_r := le_on r5_r bW6
      have l7 := le_tr l5 bW6
      clear r5_s r5_m r5_r l5
      clear bW6
      have f7_s0 : (w4.alloc (.cells #[.int .i64 ep, .int .i64 st, .int .u8 to] 43)).cell? ⟨w.heap.size, 0, none⟩ = some (.int .u8 me) := by rw [HW6.out]; exact CB.cell r7_s 0
      have f7_s1 : (w4.alloc (.cells #[.int .i64 ep, .int .i64 st, .int .u8 to] 43)).cell? ⟨w.heap.size, 1, none⟩ = some (.int .i64 ep) := by rw [HW6.out]; exact CB.cell r7_s 1
      have f7_s2 : (w4.alloc (.cells #[.int .i64 ep, .int .i64 st, .int .u8 to] 43)).cell? ⟨w.heap.size, 2, none⟩ = some (.int .i64 st) := by rw [HW6.out]; exact CB.cell r7_s 2
      have f7_s3 : (w4.alloc (.cells #[.int .i64 ep, .int .i64 st, .int .u8 to] 43)).cell? ⟨w.heap.size, 3, none⟩ = some (.int .u8 to) := by rw [HW6.out]; exact CB.cell r7_s 3
      have f7_s4 : (w4.alloc (.cells #[.int .i64 ep, .int .i64 st, .int .u8 to] 43)).cell? ⟨w.heap.size, 4, none⟩ = some (.string cg) := by rw [HW6.out]; exact CB.cell r7_s 4
      have f7_s5 : (w4.alloc (.cells #[.int .i64 ep, .int .i64 st, .int .u8 to] 43)).cell? ⟨w.heap.size, 5, none⟩ = some (.bool kp) := by rw [HW6.out]; exact CB.cell r7_s 5
      have f7_r0 : (w4.alloc (.cells #[.int .i64 ep, .int .i64 st, .int .u8 to] 43)).cell? ⟨w.heap.size + 1 + 1, 0, none⟩ = some (.int .u8 0) := by rw [HW6.out]; exact CB.cell r7_r 0
      have z7_r0 : (w4.alloc (.cells #[.int .i64 ep, .int .i64 st, .int .u8 to] 43)).frozen? ⟨w.heap.size + 1 + 1, 0, none⟩ = false := by rw [HW6.out]; exact CB.frozen r7_r 0
      have f7_r1 : (w4.alloc (.cells #[.int .i64 ep, .int .i64 st, .int .u8 to] 43)).cell? ⟨w.heap.size + 1 + 1, 1, none⟩ = some (.int .i64 0) := by rw [HW6.out]; exact CB.cell r7_r 1
      have z7_r1 : (w4.alloc (.cells #[.int .i64 ep, .int .i64 st, .int .u8 to] 43)).frozen? ⟨w.heap.size + 1 + 1, 1, none⟩ = false := by rw [HW6.out]; exact CB.frozen r7_r 1
      have f7_r2 : (w4.alloc (.cells #[.int .i64 ep, .int .i64 st, .int .u8 to] 43)).cell? ⟨w.heap.size + 1 + 1, 2, none⟩ = some (.int .i64 0) := by rw [HW6.out]; exact CB.cell r7_r 2
      have z7_r2 : (w4.alloc (.cells #[.int .i64 ep, .int .i64 st, .int .u8 to] 43)).frozen? ⟨w.heap.size + 1 + 1, 2, none⟩ = false := by rw [HW6.out]; exact CB.frozen r7_r 2
      have f7_r3 : (w4.alloc (.cells #[.int .i64 ep, .int .i64 st, .int .u8 to] 43)).cell? ⟨w.heap.size + 1 + 1, 3, none⟩ = some (.int .u8 0) := by rw [HW6.out]; exact CB.cell r7_r 3
      have z7_r3 : (w4.alloc (.cells #[.int .i64 ep, .int .i64 st, .int .u8 to] 43)).frozen? ⟨w.heap.size + 1 + 1, 3, none⟩ = false := by rw [HW6.out]; exact CB.frozen r7_r 3
      have f7_r4 : (w4.alloc (.cells #[.int .i64 ep, .int .i64 st, .int .u8 to] 43)).cell? ⟨w.heap.size + 1 + 1, 4, none⟩ = some (.string ⟨#[]⟩) := by rw [HW6.out]; exact CB.cell r7_r 4
      have z7_r4 : (w4.alloc (.cells #[.int .i64 ep, .int .i64 st, .int .u8 to] 43)).frozen? ⟨w.heap.size + 1 + 1, 4, none⟩ = false := by rw [HW6.out]; exact CB.frozen r7_r 4
      have f7_r5 : (w4.alloc (.cells #[.int .i64 ep, .int .i64 st, .int .u8 to] 43)).cell? ⟨w.heap.size + 1 + 1, 5, none⟩ = some (.bool false) := by rw [HW6.out]; exact CB.cell r7_r 5
      have z7_r5 : (w4.alloc (.cells #[.int .i64 ep, .int .i64 st, .int .u8 to] 43)).frozen? ⟨w.heap.size + 1 + 1, 5, none⟩ = false := by rw [HW6.out]; exact CB.frozen r7_r 5
      obtain ⟨V8, hV8⟩ : ∃ V, (((((W6.setCell ⟨w.heap.size + 1 + 1, 0, none⟩ (.int .u8 me)).setCell ⟨w.heap.size + 1 + 1, 1, none⟩ (.int .i64 ep)).setCell ⟨w.heap.size + 1 + 1, 2, none⟩ (.int .i64 st)).setCell ⟨w.heap.size + 1 + 1, 3, none⟩ (.int .u8 to)).setCell ⟨w.heap.size + 1 + 1, 4, none⟩ (.string cg)).setCell ⟨w.heap.size + 1 + 1, 5, none⟩ (.bool kp) = V := ⟨_, rfl⟩
      have nV8 : CB V8 (w.heap.size + 1 + 1) 45 #[.int .u8 me, .int .i64 ep, .int .i64 st, .int .u8 to, .string cg, .bool kp] := by rw [← hV8]; exact cb_cast (CB.put (CB.put (CB.put (CB.put (CB.put (CB.put r7_r 0 (.int .u8 me)) 1 (.int .i64 ep)) 2 (.int .i64 st)) 3 (.int .u8 to)) 4 (.string cg)) 5 (.bool kp)) (by kernel_rfl)
      have mV8_s : CB V8 (w.heap.size) 45 #[.int .u8 me, .int .i64 ep, .int .i64 st, .int .u8 to, .string cg, .bool kp] := by rw [← hV8]; exact (CB.far (CB.far (CB.far (CB.far (CB.far (CB.far r7_s (p := ⟨w.heap.size + 1 + 1, 0, none⟩) neW1_02 (.int .u8 me)) (p := ⟨w.heap.size + 1 + 1, 1, none⟩) neW1_02 (.int .i64 ep)) (p := ⟨w.heap.size + 1 + 1, 2, none⟩) neW1_02 (.int .i64 st)) (p := ⟨w.heap.size + 1 + 1, 3, none⟩) neW1_02 (.int .u8 to)) (p := ⟨w.heap.size + 1 + 1, 4, none⟩) neW1_02 (.string cg)) (p := ⟨w.heap.size + 1 + 1, 5, none⟩) neW1_02 (.bool kp))
      have mV8_m : CB V8 (w.heap.size + 1) 68 #[.int .i64 kd, .int .u8 fr, .int .u8 t, .int .i64 e, .string mg] := by rw [← hV8]; exact (CB.far (CB.far (CB.far (CB.far (CB.far (CB.far r7_m (p := ⟨w.heap.size + 1 + 1, 0, none⟩) neW1_12 (.int .u8 me)) (p := ⟨w.heap.size + 1 + 1, 1, none⟩) neW1_12 (.int .i64 ep)) (p := ⟨w.heap.size + 1 + 1, 2, none⟩) neW1_12 (.int .i64 st)) (p := ⟨w.heap.size + 1 + 1, 3, none⟩) neW1_12 (.int .u8 to)) (p := ⟨w.heap.size + 1 + 1, 4, none⟩) neW1_12 (.string cg)) (p := ⟨w.heap.size + 1 + 1, 5, none⟩) neW1_12 (.bool kp))
      have mV8_l : CB V8 (w4.heap.size) 43 #[.int .i64 ep, .int .i64 st, .int .u8 to] := by rw [← hV8]; exact (CB.far (CB.far (CB.far (CB.far (CB.far (CB.far nW6 (p := ⟨w.heap.size + 1 + 1, 0, none⟩) (Ne.symm neW6_r) (.int .u8 me)) (p := ⟨w.heap.size + 1 + 1, 1, none⟩) (Ne.symm neW6_r) (.int .i64 ep)) (p := ⟨w.heap.size + 1 + 1, 2, none⟩) (Ne.symm neW6_r) (.int .i64 st)) (p := ⟨w.heap.size + 1 + 1, 3, none⟩) (Ne.symm neW6_r) (.int .u8 to)) (p := ⟨w.heap.size + 1 + 1, 4, none⟩) (Ne.symm neW6_r) (.string cg)) (p := ⟨w.heap.size + 1 + 1, 5, none⟩) (Ne.symm neW6_r) (.bool kp))
      have oV8 := (Below.setCell (Below.setCell (Below.setCell (Below.setCell (Below.setCell (Below.setCell l7 (p := ⟨w.heap.size + 1 + 1, 0, none⟩) (by dsimp only; omega) (.int .u8 me)) (p := ⟨w.heap.size + 1 + 1, 1, none⟩) (by dsimp only; omega) (.int .i64 ep)) (p := ⟨w.heap.size + 1 + 1, 2, none⟩) (by dsimp only; omega) (.int .i64 st)) (p := ⟨w.heap.size + 1 + 1, 3, none⟩) (by dsimp only; omega) (.int .u8 to)) (p := ⟨w.heap.size + 1 + 1, 4, none⟩) (by dsimp only; omega) (.string cg)) (p := ⟨w.heap.size + 1 + 1, 5, none⟩) (by dsimp only; omega) (.bool kp))
      rw [hV8] at oV8
      have HV8 := Lib.hid (show ((((((w4.alloc (.cells #[.int .i64 ep, .int .i64 st, .int .u8 to] 43)).setCell ⟨w.heap.size + 1 + 1, 0, none⟩ (.int .u8 me)).setCell ⟨w.heap.size + 1 + 1, 1, none⟩ (.int .i64 ep)).setCell ⟨w.heap.size + 1 + 1, 2, none⟩ (.int .i64 st)).setCell ⟨w.heap.size + 1 + 1, 3, none⟩ (.int .u8 to)).setCell ⟨w.heap.size + 1 + 1, 4, none⟩ (.string cg)).setCell ⟨w.heap.size + 1 + 1, 5, none⟩ (.bool kp) = V8 by rw [HW6.out]; exact hV8)
      clear hV8
      clear r7_r r7_s r7_m nW6 l7
      go_wp2_with fail
      rw [HV8.out]
      have x_r0 : V8.cell? ⟨w.heap.size + 1 + 1, 0, none⟩ = some (.int .u8 me) := CB.cell nV8 0
      have x_r1 : V8.cell? ⟨w.heap.size + 1 + 1, 1, none⟩ = some (.int .i64 ep) := CB.cell nV8 1
      have x_r2 : V8.cell? ⟨w.heap.size + 1 + 1, 2, none⟩ = some (.int .i64 st) := CB.cell nV8 2
      have x_r3 : V8.cell? ⟨w.heap.size + 1 + 1, 3, none⟩ = some (.int .u8 to) := CB.cell nV8 3
      have x_r4 : V8.cell? ⟨w.heap.size + 1 + 1, 4, none⟩ = some (.string cg) := CB.cell nV8 4
      have x_r5 : V8.cell? ⟨w.heap.size + 1 + 1, 5, none⟩ = some (.bool kp) := CB.cell nV8 5
      exact bodyPost_ret (v := .tuple #[.agg #[.int .u8 me, .int .i64 ep, .int .i64 st, .int .u8 to, .string cg, .bool kp], .slice none 0 0, .int .i64 3]) (by simp [results, Try.results48, go_sem, x_r0, x_r1, x_r2, x_r3, x_r4, x_r5]) rfl (HPost.mk' me ep st to cg kp 3 [] H.out (RS.nil _ _ _ _) oV8)
    · have h2 : eGiveL ⟨ep, st, to⟩ fr = 0 := by unfold eGiveL; rw [hrt]; simp [hsp.1, hsp.2, hmx]; omega
      have h3 : sGiveL ⟨ep, st, to⟩ fr = ⟨ep, 2, fr⟩ := by unfold sGiveL; rw [h2]; rfl
      simp only [h2, h3] at G1
      have H := Lib.hid (show wantM ⟨me, ⟨ep, st, to⟩, cg, kp⟩ ⟨kd, fr, t, e, mg⟩ = ⟨⟨me, ⟨ep, 2, fr⟩, cg, true⟩, [⟨3, me, fr, ep + 1, cg⟩], 0⟩ by unfold wantM; simp only; rw [if_pos hsp, if_neg hmx, hsp.2])
      have h4 : (true && decide (fr = fr) && decide (ep = e)) = true := by simp [hsp.2]
      have K1 := fun W => (by have := keeps_c me ep 2 fr cg true fr e W; rw [h4] at this; exact this)
      have A1 := fun W => hagain_c me ep 2 fr cg true W
      have h5 : againM ⟨me, ⟨ep, 2, fr⟩, cg, true⟩ = [⟨3, me, fr, ep + 1, cg⟩] := by
        unfold againM gvM
        rw [if_pos ⟨⟨hs.1, right_gone (by omega) (by omega) hm2, (by rintro ⟨_, h⟩; exact hm4 (h.trans ht.symm)), hs.2.2.2.1, .inr (.inr rfl), fun _ => rfl⟩, rfl⟩]
      simp only [h5] at A1
      clear h1 h2 h3 h4 h5 hsp hmx hrt hs hm1 hm2 hm3 hm4 hm5 hm6 ht
      obtain ⟨W1, hW1⟩ : ∃ V, ((w.alloc (.cells #[.int .u8 me, .int .i64 ep, .int .i64 st, .int .u8 to, .string cg, .bool kp] 45)).alloc (.cells #[.int .i64 kd, .int .u8 fr, .int .u8 t, .int .i64 e, .string mg] 68)).alloc (.cells #[.int .u8 0, .int .i64 0, .int .i64 0, .int .u8 0, .string ⟨#[]⟩, .bool false] 45) = V := ⟨_, rfl⟩
      have nW1_s : CB W1 (w.heap.size) 45 #[.int .u8 me, .int .i64 ep, .int .i64 st, .int .u8 to, .string cg, .bool kp] := by
        rw [← hW1]
        have := (((CB.new w 45 #[.int .u8 me, .int .i64 ep, .int .i64 st, .int .u8 to, .string cg, .bool kp]).alloc (.cells #[.int .i64 kd, .int .u8 fr, .int .u8 t, .int .i64 e, .string mg] 68)).alloc (.cells #[.int .u8 0, .int .i64 0, .int .i64 0, .int .u8 0, .string ⟨#[]⟩, .bool false] 45))
        simpa using this
      have nW1_m : CB W1 (w.heap.size + 1) 68 #[.int .i64 kd, .int .u8 fr, .int .u8 t, .int .i64 e, .string mg] := by
        rw [← hW1]
        have := ((CB.new (w.alloc (.cells #[.int .u8 me, .int .i64 ep, .int .i64 st, .int .u8 to, .string cg, .bool kp] 45)) 68 #[.int .i64 kd, .int .u8 fr, .int .u8 t, .int .i64 e, .string mg]).alloc (.cells #[.int .u8 0, .int .i64 0, .int .i64 0, .int .u8 0, .string ⟨#[]⟩, .bool false] 45))
        simpa using this
      have nW1_r : CB W1 (w.heap.size + 1 + 1) 45 #[.int .u8 0, .int .i64 0, .int .i64 0, .int .u8 0, .string ⟨#[]⟩, .bool false] := by
        rw [← hW1]
        have := (CB.new ((w.alloc (.cells #[.int .u8 me, .int .i64 ep, .int .i64 st, .int .u8 to, .string cg, .bool kp] 45)).alloc (.cells #[.int .i64 kd, .int .u8 fr, .int .u8 t, .int .i64 e, .string mg] 68)) 45 #[.int .u8 0, .int .i64 0, .int .i64 0, .int .u8 0, .string ⟨#[]⟩, .bool false])
        simpa using this
      have neW1_01 : w.heap.size ≠ w.heap.size + 1 := by omega
      have neW1_02 : w.heap.size ≠ w.heap.size + 1 + 1 := by omega
      have neW1_12 : w.heap.size + 1 ≠ w.heap.size + 1 + 1 := by omega
      have lW1 : Below w.heap.size w W1 := by rw [← hW1]; exact le_tr (le_tr (le_al _ _) (le_al _ _)) (le_al _ _)
      have HW1 := Lib.hid hW1
      clear hW1
      go_enter Try.func48, Try.ntmps48
      go_wp2_with fail
      rw [HW1.out]
      refine (S1 _).mono ?_
      rintro e w2 ⟨rfl, b2⟩
      have r3_s := le_on nW1_s b2
      have r3_m := le_on nW1_m b2
      have r3_r := le_on nW1_r b2
      have l3 := le_tr lW1 b2
      clear nW1_s nW1_m nW1_r lW1
      clear b2
      have f3_s0 : w2.cell? ⟨w.heap.size, 0, none⟩ = some (.int .u8 me) := CB.cell r3_s 0
      have f3_s1 : w2.cell? ⟨w.heap.size, 1, none⟩ = some (.int .i64 ep) := CB.cell r3_s 1
      have f3_s2 : w2.cell? ⟨w.heap.size, 2, none⟩ = some (.int .i64 st) := CB.cell r3_s 2
      have f3_s3 : w2.cell? ⟨w.heap.size, 3, none⟩ = some (.int .u8 to) := CB.cell r3_s 3
      have f3_s4 : w2.cell? ⟨w.heap.size, 4, none⟩ = some (.string cg) := CB.cell r3_s 4
      have f3_s5 : w2.cell? ⟨w.heap.size, 5, none⟩ = some (.bool kp) := CB.cell r3_s 5
      have f3_m0 : w2.cell? ⟨w.heap.size + 1, 0, none⟩ = some (.int .i64 kd) := CB.cell r3_m 0
      have f3_m1 : w2.cell? ⟨w.heap.size + 1, 1, none⟩ = some (.int .u8 fr) := CB.cell r3_m 1
      have f3_m2 : w2.cell? ⟨w.heap.size + 1, 2, none⟩ = some (.int .u8 t) := CB.cell r3_m 2
      have f3_m3 : w2.cell? ⟨w.heap.size + 1, 3, none⟩ = some (.int .i64 e) := CB.cell r3_m 3
      have f3_m4 : w2.cell? ⟨w.heap.size + 1, 4, none⟩ = some (.string mg) := CB.cell r3_m 4
      go_wp2_with fail
      refine (G1 _).mono ?_
      rintro e w4 ⟨rfl, b4⟩
      clear f3_s0 f3_s1 f3_s2 f3_s3 f3_s4 f3_s5 f3_m0 f3_m1 f3_m2 f3_m3 f3_m4
      have r5_s := le_on r3_s b4
      have r5_m := le_on r3_m b4
      have r5_r := le_on r3_r b4
      have l5 := le_tr l3 b4
      clear r3_s r3_m r3_r l3
      clear b4
      have av_l : w.heap.size ≤ w4.heap.size := by have := l5.size; omega
      obtain ⟨W6, hW6⟩ : ∃ V, w4.alloc (.cells #[.int .i64 ep, .int .i64 2, .int .u8 fr] 43) = V := ⟨_, rfl⟩
      have zW6 : w4.heap.size = w4.heap.size := by rfl
      have nW6 : CB W6 (w4.heap.size) 43 #[.int .i64 ep, .int .i64 2, .int .u8 fr] := by rw [← zW6, ← hW6]; exact CB.new _ _ _
      have bW6 : Below w4.heap.size w4 W6 := by rw [← hW6]; exact le_al _ _
      have neW6_s : w.heap.size ≠ w4.heap.size := by have := CB.lt r5_s; omega
      have neW6_m : w.heap.size + 1 ≠ w4.heap.size := by have := CB.lt r5_m; omega
      have neW6_r : w.heap.size + 1 + 1 ≠ w4.heap.size := by have := CB.lt r5_r; omega
      have HW6 := Lib.hid hW6
      clear hW6 zW6
      have r7_s := le_on r5_s bW6
      have r7_m := le_on r5_m bW6
      have r7_r := le_on r5_r bW6
      have l7 := le_tr l5 bW6
      clear r5_s r5_m r5_r l5
      clear bW6
      have f7_l0 : (w4.alloc (.cells #[.int .i64 ep, .int .i64 2, .int .u8 fr] 43)).cell? ⟨w4.heap.size, 0, none⟩ = some (.int .i64 ep) := by rw [HW6.out]; exact CB.cell nW6 0
      have f7_l1 : (w4.alloc (.cells #[.int .i64 ep, .int .i64 2, .int .u8 fr] 43)).cell? ⟨w4.heap.size, 1, none⟩ = some (.int .i64 2) := by rw [HW6.out]; exact CB.cell nW6 1
      have f7_l2 : (w4.alloc (.cells #[.int .i64 ep, .int .i64 2, .int .u8 fr] 43)).cell? ⟨w4.heap.size, 2, none⟩ = some (.int .u8 fr) := by rw [HW6.out]; exact CB.cell nW6 2
      have f7_s0 : (w4.alloc (.cells #[.int .i64 ep, .int .i64 2, .int .u8 fr] 43)).cell? ⟨w.heap.size, 0, none⟩ = some (.int .u8 me) := by rw [HW6.out]; exact CB.cell r7_s 0
      have z7_s0 : (w4.alloc (.cells #[.int .i64 ep, .int .i64 2, .int .u8 fr] 43)).frozen? ⟨w.heap.size, 0, none⟩ = false := by rw [HW6.out]; exact CB.frozen r7_s 0
      have f7_s1 : (w4.alloc (.cells #[.int .i64 ep, .int .i64 2, .int .u8 fr] 43)).cell? ⟨w.heap.size, 1, none⟩ = some (.int .i64 ep) := by rw [HW6.out]; exact CB.cell r7_s 1
      have z7_s1 : (w4.alloc (.cells #[.int .i64 ep, .int .i64 2, .int .u8 fr] 43)).frozen? ⟨w.heap.size, 1, none⟩ = false := by rw [HW6.out]; exact CB.frozen r7_s 1
      have f7_s2 : (w4.alloc (.cells #[.int .i64 ep, .int .i64 2, .int .u8 fr] 43)).cell? ⟨w.heap.size, 2, none⟩ = some (.int .i64 st) := by rw [HW6.out]; exact CB.cell r7_s 2
      have z7_s2 : (w4.alloc (.cells #[.int .i64 ep, .int .i64 2, .int .u8 fr] 43)).frozen? ⟨w.heap.size, 2, none⟩ = false := by rw [HW6.out]; exact CB.frozen r7_s 2
      have f7_s3 : (w4.alloc (.cells #[.int .i64 ep, .int .i64 2, .int .u8 fr] 43)).cell? ⟨w.heap.size, 3, none⟩ = some (.int .u8 to) := by rw [HW6.out]; exact CB.cell r7_s 3
      have z7_s3 : (w4.alloc (.cells #[.int .i64 ep, .int .i64 2, .int .u8 fr] 43)).frozen? ⟨w.heap.size, 3, none⟩ = false := by rw [HW6.out]; exact CB.frozen r7_s 3
      have f7_s4 : (w4.alloc (.cells #[.int .i64 ep, .int .i64 2, .int .u8 fr] 43)).cell? ⟨w.heap.size, 4, none⟩ = some (.string cg) := by rw [HW6.out]; exact CB.cell r7_s 4
      have z7_s4 : (w4.alloc (.cells #[.int .i64 ep, .int .i64 2, .int .u8 fr] 43)).frozen? ⟨w.heap.size, 4, none⟩ = false := by rw [HW6.out]; exact CB.frozen r7_s 4
      have f7_s5 : (w4.alloc (.cells #[.int .i64 ep, .int .i64 2, .int .u8 fr] 43)).cell? ⟨w.heap.size, 5, none⟩ = some (.bool kp) := by rw [HW6.out]; exact CB.cell r7_s 5
      have z7_s5 : (w4.alloc (.cells #[.int .i64 ep, .int .i64 2, .int .u8 fr] 43)).frozen? ⟨w.heap.size, 5, none⟩ = false := by rw [HW6.out]; exact CB.frozen r7_s 5
      obtain ⟨V8, hV8⟩ : ∃ V, (((W6.setCell ⟨w.heap.size, 1, none⟩ (.int .i64 ep)).setCell ⟨w.heap.size, 2, none⟩ (.int .i64 2)).setCell ⟨w.heap.size, 3, none⟩ (.int .u8 fr)).setCell ⟨w.heap.size, 5, none⟩ (.bool true) = V := ⟨_, rfl⟩
      have nV8 : CB V8 (w.heap.size) 45 #[.int .u8 me, .int .i64 ep, .int .i64 2, .int .u8 fr, .string cg, .bool true] := by rw [← hV8]; exact cb_cast (CB.put (CB.put (CB.put (CB.put r7_s 1 (.int .i64 ep)) 2 (.int .i64 2)) 3 (.int .u8 fr)) 5 (.bool true)) (by kernel_rfl)
      have mV8_m : CB V8 (w.heap.size + 1) 68 #[.int .i64 kd, .int .u8 fr, .int .u8 t, .int .i64 e, .string mg] := by rw [← hV8]; exact (CB.far (CB.far (CB.far (CB.far r7_m (p := ⟨w.heap.size, 1, none⟩) (Ne.symm neW1_01) (.int .i64 ep)) (p := ⟨w.heap.size, 2, none⟩) (Ne.symm neW1_01) (.int .i64 2)) (p := ⟨w.heap.size, 3, none⟩) (Ne.symm neW1_01) (.int .u8 fr)) (p := ⟨w.heap.size, 5, none⟩) (Ne.symm neW1_01) (.bool true))
      have mV8_r : CB V8 (w.heap.size + 1 + 1) 45 #[.int .u8 0, .int .i64 0, .int .i64 0, .int .u8 0, .string ⟨#[]⟩, .bool false] := by rw [← hV8]; exact (CB.far (CB.far (CB.far (CB.far r7_r (p := ⟨w.heap.size, 1, none⟩) (Ne.symm neW1_02) (.int .i64 ep)) (p := ⟨w.heap.size, 2, none⟩) (Ne.symm neW1_02) (.int .i64 2)) (p := ⟨w.heap.size, 3, none⟩) (Ne.symm neW1_02) (.int .u8 fr)) (p := ⟨w.heap.size, 5, none⟩) (Ne.symm neW1_02) (.bool true))
      have mV8_l : CB V8 (w4.heap.size) 43 #[.int .i64 ep, .int .i64 2, .int .u8 fr] := by rw [← hV8]; exact (CB.far (CB.far (CB.far (CB.far nW6 (p := ⟨w.heap.size, 1, none⟩) (Ne.symm neW6_s) (.int .i64 ep)) (p := ⟨w.heap.size, 2, none⟩) (Ne.symm neW6_s) (.int .i64 2)) (p := ⟨w.heap.size, 3, none⟩) (Ne.symm neW6_s) (.int .u8 fr)) (p := ⟨w.heap.size, 5, none⟩) (Ne.symm neW6_s) (.bool true))
      have oV8 := (Below.setCell (Below.setCell (Below.setCell (Below.setCell l7 (p := ⟨w.heap.size, 1, none⟩) (by dsimp only; omega) (.int .i64 ep)) (p := ⟨w.heap.size, 2, none⟩) (by dsimp only; omega) (.int .i64 2)) (p := ⟨w.heap.size, 3, none⟩) (by dsimp only; omega) (.int .u8 fr)) (p := ⟨w.heap.size, 5, none⟩) (by dsimp only; omega) (.bool true))
      rw [hV8] at oV8
      have HV8 := Lib.hid (show ((((w4.alloc (.cells #[.int .i64 ep, .int .i64 2, .int .u8 fr] 43)).setCell ⟨w.heap.size, 1, none⟩ (.int .i64 ep)).setCell ⟨w.heap.size, 2, none⟩ (.int .i64 2)).setCell ⟨w.heap.size, 3, none⟩ (.int .u8 fr)).setCell ⟨w.heap.size, 5, none⟩ (.bool true) = V8 by rw [HW6.out]; exact hV8)
      clear hV8
      clear r7_s r7_m r7_r nW6 l7
      have f8_s0 : (((((w4.alloc (.cells #[.int .i64 ep, .int .i64 2, .int .u8 fr] 43)).setCell ⟨w.heap.size, 1, none⟩ (.int .i64 ep)).setCell ⟨w.heap.size, 2, none⟩ (.int .i64 2)).setCell ⟨w.heap.size, 3, none⟩ (.int .u8 fr)).setCell ⟨w.heap.size, 5, none⟩ (.bool true)).cell? ⟨w.heap.size, 0, none⟩ = some (.int .u8 me) := by rw [HV8.out]; exact CB.cell nV8 0
      have f8_s1 : (((((w4.alloc (.cells #[.int .i64 ep, .int .i64 2, .int .u8 fr] 43)).setCell ⟨w.heap.size, 1, none⟩ (.int .i64 ep)).setCell ⟨w.heap.size, 2, none⟩ (.int .i64 2)).setCell ⟨w.heap.size, 3, none⟩ (.int .u8 fr)).setCell ⟨w.heap.size, 5, none⟩ (.bool true)).cell? ⟨w.heap.size, 1, none⟩ = some (.int .i64 ep) := by rw [HV8.out]; exact CB.cell nV8 1
      have f8_s2 : (((((w4.alloc (.cells #[.int .i64 ep, .int .i64 2, .int .u8 fr] 43)).setCell ⟨w.heap.size, 1, none⟩ (.int .i64 ep)).setCell ⟨w.heap.size, 2, none⟩ (.int .i64 2)).setCell ⟨w.heap.size, 3, none⟩ (.int .u8 fr)).setCell ⟨w.heap.size, 5, none⟩ (.bool true)).cell? ⟨w.heap.size, 2, none⟩ = some (.int .i64 2) := by rw [HV8.out]; exact CB.cell nV8 2
      have f8_s3 : (((((w4.alloc (.cells #[.int .i64 ep, .int .i64 2, .int .u8 fr] 43)).setCell ⟨w.heap.size, 1, none⟩ (.int .i64 ep)).setCell ⟨w.heap.size, 2, none⟩ (.int .i64 2)).setCell ⟨w.heap.size, 3, none⟩ (.int .u8 fr)).setCell ⟨w.heap.size, 5, none⟩ (.bool true)).cell? ⟨w.heap.size, 3, none⟩ = some (.int .u8 fr) := by rw [HV8.out]; exact CB.cell nV8 3
      have f8_s4 : (((((w4.alloc (.cells #[.int .i64 ep, .int .i64 2, .int .u8 fr] 43)).setCell ⟨w.heap.size, 1, none⟩ (.int .i64 ep)).setCell ⟨w.heap.size, 2, none⟩ (.int .i64 2)).setCell ⟨w.heap.size, 3, none⟩ (.int .u8 fr)).setCell ⟨w.heap.size, 5, none⟩ (.bool true)).cell? ⟨w.heap.size, 4, none⟩ = some (.string cg) := by rw [HV8.out]; exact CB.cell nV8 4
      have f8_s5 : (((((w4.alloc (.cells #[.int .i64 ep, .int .i64 2, .int .u8 fr] 43)).setCell ⟨w.heap.size, 1, none⟩ (.int .i64 ep)).setCell ⟨w.heap.size, 2, none⟩ (.int .i64 2)).setCell ⟨w.heap.size, 3, none⟩ (.int .u8 fr)).setCell ⟨w.heap.size, 5, none⟩ (.bool true)).cell? ⟨w.heap.size, 5, none⟩ = some (.bool true) := by rw [HV8.out]; exact CB.cell nV8 5
      have f8_m0 : (((((w4.alloc (.cells #[.int .i64 ep, .int .i64 2, .int .u8 fr] 43)).setCell ⟨w.heap.size, 1, none⟩ (.int .i64 ep)).setCell ⟨w.heap.size, 2, none⟩ (.int .i64 2)).setCell ⟨w.heap.size, 3, none⟩ (.int .u8 fr)).setCell ⟨w.heap.size, 5, none⟩ (.bool true)).cell? ⟨w.heap.size + 1, 0, none⟩ = some (.int .i64 kd) := by rw [HV8.out]; exact CB.cell mV8_m 0
      have f8_m1 : (((((w4.alloc (.cells #[.int .i64 ep, .int .i64 2, .int .u8 fr] 43)).setCell ⟨w.heap.size, 1, none⟩ (.int .i64 ep)).setCell ⟨w.heap.size, 2, none⟩ (.int .i64 2)).setCell ⟨w.heap.size, 3, none⟩ (.int .u8 fr)).setCell ⟨w.heap.size, 5, none⟩ (.bool true)).cell? ⟨w.heap.size + 1, 1, none⟩ = some (.int .u8 fr) := by rw [HV8.out]; exact CB.cell mV8_m 1
      have f8_m2 : (((((w4.alloc (.cells #[.int .i64 ep, .int .i64 2, .int .u8 fr] 43)).setCell ⟨w.heap.size, 1, none⟩ (.int .i64 ep)).setCell ⟨w.heap.size, 2, none⟩ (.int .i64 2)).setCell ⟨w.heap.size, 3, none⟩ (.int .u8 fr)).setCell ⟨w.heap.size, 5, none⟩ (.bool true)).cell? ⟨w.heap.size + 1, 2, none⟩ = some (.int .u8 t) := by rw [HV8.out]; exact CB.cell mV8_m 2
      have f8_m3 : (((((w4.alloc (.cells #[.int .i64 ep, .int .i64 2, .int .u8 fr] 43)).setCell ⟨w.heap.size, 1, none⟩ (.int .i64 ep)).setCell ⟨w.heap.size, 2, none⟩ (.int .i64 2)).setCell ⟨w.heap.size, 3, none⟩ (.int .u8 fr)).setCell ⟨w.heap.size, 5, none⟩ (.bool true)).cell? ⟨w.heap.size + 1, 3, none⟩ = some (.int .i64 e) := by rw [HV8.out]; exact CB.cell mV8_m 3
      have f8_m4 : (((((w4.alloc (.cells #[.int .i64 ep, .int .i64 2, .int .u8 fr] 43)).setCell ⟨w.heap.size, 1, none⟩ (.int .i64 ep)).setCell ⟨w.heap.size, 2, none⟩ (.int .i64 2)).setCell ⟨w.heap.size, 3, none⟩ (.int .u8 fr)).setCell ⟨w.heap.size, 5, none⟩ (.bool true)).cell? ⟨w.heap.size + 1, 4, none⟩ = some (.string mg) := by rw [HV8.out]; exact CB.cell mV8_m 4
      go_wp2_with fail
      rw [HV8.out]
      refine (K1 _).mono ?_
      rintro e w9 ⟨rfl, b9⟩
      clear f7_l0 f7_l1 f7_l2 f7_s0 z7_s0 f7_s1 z7_s1 f7_s2 z7_s2 f7_s3 z7_s3 f7_s4 z7_s4 f7_s5 z7_s5 f8_s0 f8_s1 f8_s2 f8_s3 f8_s4 f8_s5 f8_m0 f8_m1 f8_m2 f8_m3 f8_m4
      have r10_s := le_on nV8 b9
      have r10_m := le_on mV8_m b9
      have r10_r := le_on mV8_r b9
      have r10_l := le_on mV8_l b9
      have l10 := le_tr oV8 b9
      clear nV8 mV8_m mV8_r mV8_l oV8
      clear b9
      have f10_s0 : w9.cell? ⟨w.heap.size, 0, none⟩ = some (.int .u8 me) := CB.cell r10_s 0
      have f10_s1 : w9.cell? ⟨w.heap.size, 1, none⟩ = some (.int .i64 ep) := CB.cell r10_s 1
      have f10_s2 : w9.cell? ⟨w.heap.size, 2, none⟩ = some (.int .i64 2) := CB.cell r10_s 2
      have f10_s3 : w9.cell? ⟨w.heap.size, 3, none⟩ = some (.int .u8 fr) := CB.cell r10_s 3
      have f10_s4 : w9.cell? ⟨w.heap.size, 4, none⟩ = some (.string cg) := CB.cell r10_s 4
      have f10_s5 : w9.cell? ⟨w.heap.size, 5, none⟩ = some (.bool true) := CB.cell r10_s 5
      go_wp2_with fail
      clear f10_s0 f10_s1 f10_s2 f10_s3 f10_s4 f10_s5
      have y11 := Lib.hid (show (fun V : World => V.cell? ⟨w.heap.size, 0, none⟩ = some (.int .u8 me) ∧ V.cell? ⟨w.heap.size, 1, none⟩ = some (.int .i64 ep) ∧ V.cell? ⟨w.heap.size, 2, none⟩ = some (.int .i64 2) ∧ V.cell? ⟨w.heap.size, 3, none⟩ = some (.int .u8 fr) ∧ V.cell? ⟨w.heap.size, 4, none⟩ = some (.string cg) ∧ V.cell? ⟨w.heap.size, 5, none⟩ = some (.bool true)) w9 from ⟨CB.cell r10_s 0, CB.cell r10_s 1, CB.cell r10_s 2, CB.cell r10_s 3, CB.cell r10_s 4, CB.cell r10_s 5⟩)
      refine wp_region_held_drew (S := (fun V : World => V.cell? ⟨w.heap.size, 0, none⟩ = some (.int .u8 me) ∧ V.cell? ⟨w.heap.size, 1, none⟩ = some (.int .i64 ep) ∧ V.cell? ⟨w.heap.size, 2, none⟩ = some (.int .i64 2) ∧ V.cell? ⟨w.heap.size, 3, none⟩ = some (.int .u8 fr) ∧ V.cell? ⟨w.heap.size, 4, none⟩ = some (.string cg) ∧ V.cell? ⟨w.heap.size, 5, none⟩ = some (.bool true))) (by kernel_rfl) y11.out (fun hHeld => ?_)
      obtain ⟨D11, hD11⟩ : ∃ V, w9.drew = V := ⟨_, rfl⟩
      have b11 : Below w9.heap.size w9 D11 := by rw [← hD11]; exact le_dr (Below.refl _ _)
      rw [hD11] at hHeld ⊢
      clear hD11
      have r12_s := le_on r10_s b11
      have r12_m := le_on r10_m b11
      have r12_r := le_on r10_r b11
      have r12_l := le_on r10_l b11
      have l12 := le_tr l10 b11
      clear r10_s r10_m r10_r r10_l l10
      clear b11
      refine wpAnyH_takeL (i := 0) (d := some 37) (v := .agg #[.int .u8 me, .int .i64 ep, .int .i64 2, .int .u8 fr, .string cg, .bool true]) rfl rfl (by kernel_rfl) (by kernel_rfl) (by kernel_rfl) (fun _ _ _ h => h) (Or.inl ⟨by rfl, ?_⟩) hHeld ?_
      · intro w hSw; (try dsimp only at hSw); go_simp
      try simp only [Act.put, List.setIfInBounds_toArray, List.set_cons_zero, List.set_cons_succ]
      refine wpAnyH_takeL (i := 1) (d := some 38) (v := .agg #[.int .u8 me, .int .i64 ep, .int .i64 2, .int .u8 fr, .string cg, .bool true]) rfl rfl (by kernel_rfl) (by kernel_rfl) (by kernel_rfl) (fun _ _ _ h => h) (Or.inl ⟨by rfl, ?_⟩) hHeld ?_
      · intro w hSw; (try dsimp only at hSw); go_simp
      try simp only [Act.put, List.setIfInBounds_toArray, List.set_cons_zero, List.set_cons_succ]
      refine wpAnyH_ready (rs := [2]) (by kernel_rfl) (by simp) ?_
      refine AllReadyH.cons rfl (fun K hK => ?_) AllReadyH.nil
      go_simp
      refine (A1 _).mono ?_
      rintro e u13 ⟨A, n, q, rfl, hr, b13⟩
      have r14_s := le_on r12_s b13
      have r14_m := le_on r12_m b13
      have r14_r := le_on r12_r b13
      have r14_l := le_on r12_l b13
      have l14 := le_tr l12 b13
      clear r12_s r12_m r12_r r12_l l12
      clear b13
      go_wp2_with fail
      have y15 := Lib.hid (show (fun V : World => V.cell? ⟨w.heap.size, 0, none⟩ = some (.int .u8 me) ∧ V.cell? ⟨w.heap.size, 1, none⟩ = some (.int .i64 ep) ∧ V.cell? ⟨w.heap.size, 2, none⟩ = some (.int .i64 2) ∧ V.cell? ⟨w.heap.size, 3, none⟩ = some (.int .u8 fr) ∧ V.cell? ⟨w.heap.size, 4, none⟩ = some (.string cg) ∧ V.cell? ⟨w.heap.size, 5, none⟩ = some (.bool true)) u13 from ⟨CB.cell r14_s 0, CB.cell r14_s 1, CB.cell r14_s 2, CB.cell r14_s 3, CB.cell r14_s 4, CB.cell r14_s 5⟩)
      refine hK.out _ _ y15.out (fun hHeld => ?_)
      clear hK K y15
      try simp only [Act.put, List.setIfInBounds_toArray, List.set_cons_zero, List.set_cons_succ]
      refine wpAnyH_ready (rs := [3]) (by kernel_rfl) (by simp) ?_
      refine AllReadyH.cons rfl (fun K hK => ?_) AllReadyH.nil
      have f15_r0 : u13.cell? ⟨w.heap.size + 1 + 1, 0, none⟩ = some (.int .u8 0) := CB.cell r14_r 0
      have z15_r0 : u13.frozen? ⟨w.heap.size + 1 + 1, 0, none⟩ = false := CB.frozen r14_r 0
      have f15_r1 : u13.cell? ⟨w.heap.size + 1 + 1, 1, none⟩ = some (.int .i64 0) := CB.cell r14_r 1
      have z15_r1 : u13.frozen? ⟨w.heap.size + 1 + 1, 1, none⟩ = false := CB.frozen r14_r 1
      have f15_r2 : u13.cell? ⟨w.heap.size + 1 + 1, 2, none⟩ = some (.int .i64 0) := CB.cell r14_r 2
      have z15_r2 : u13.frozen? ⟨w.heap.size + 1 + 1, 2, none⟩ = false := CB.frozen r14_r 2
      have f15_r3 : u13.cell? ⟨w.heap.size + 1 + 1, 3, none⟩ = some (.int .u8 0) := CB.cell r14_r 3
      have z15_r3 : u13.frozen? ⟨w.heap.size + 1 + 1, 3, none⟩ = false := CB.frozen r14_r 3
      have f15_r4 : u13.cell? ⟨w.heap.size + 1 + 1, 4, none⟩ = some (.string ⟨#[]⟩) := CB.cell r14_r 4
      have z15_r4 : u13.frozen? ⟨w.heap.size + 1 + 1, 4, none⟩ = false := CB.frozen r14_r 4
      have f15_r5 : u13.cell? ⟨w.heap.size + 1 + 1, 5, none⟩ = some (.bool false) := CB.cell r14_r 5
      have z15_r5 : u13.frozen? ⟨w.heap.size + 1 + 1, 5, none⟩ = false := CB.frozen r14_r 5
      go_simp
      go_wp2_with fail
      have g16_z := (RS.far (RS.far (RS.far (RS.far (RS.far (RS.far hr r14_r (by decide) 0 (.int .u8 me)) (CB.put r14_r 0 (.int .u8 me)) (by decide) 1 (.int .i64 ep)) (CB.put (CB.put r14_r 0 (.int .u8 me)) 1 (.int .i64 ep)) (by decide) 2 (.int .i64 2)) (CB.put (CB.put (CB.put r14_r 0 (.int .u8 me)) 1 (.int .i64 ep)) 2 (.int .i64 2)) (by decide) 3 (.int .u8 fr)) (CB.put (CB.put (CB.put (CB.put r14_r 0 (.int .u8 me)) 1 (.int .i64 ep)) 2 (.int .i64 2)) 3 (.int .u8 fr)) (by decide) 4 (.string cg)) (CB.put (CB.put (CB.put (CB.put (CB.put r14_r 0 (.int .u8 me)) 1 (.int .i64 ep)) 2 (.int .i64 2)) 3 (.int .u8 fr)) 4 (.string cg)) (by decide) 5 (.bool true))
      have f15_r0 : u13.cell? ⟨w.heap.size + 1 + 1, 0, none⟩ = some (.int .u8 0) := CB.cell r14_r 0
      have z15_r0 : u13.frozen? ⟨w.heap.size + 1 + 1, 0, none⟩ = false := CB.frozen r14_r 0
      have f15_r1 : u13.cell? ⟨w.heap.size + 1 + 1, 1, none⟩ = some (.int .i64 0) := CB.cell r14_r 1
      have z15_r1 : u13.frozen? ⟨w.heap.size + 1 + 1, 1, none⟩ = false := CB.frozen r14_r 1
      have f15_r2 : u13.cell? ⟨w.heap.size + 1 + 1, 2, none⟩ = some (.int .i64 0) := CB.cell r14_r 2
      have z15_r2 : u13.frozen? ⟨w.heap.size + 1 + 1, 2, none⟩ = false := CB.frozen r14_r 2
      have f15_r3 : u13.cell? ⟨w.heap.size + 1 + 1, 3, none⟩ = some (.int .u8 0) := CB.cell r14_r 3
      have z15_r3 : u13.frozen? ⟨w.heap.size + 1 + 1, 3, none⟩ = false := CB.frozen r14_r 3
      have f15_r4 : u13.cell? ⟨w.heap.size + 1 + 1, 4, none⟩ = some (.string ⟨#[]⟩) := CB.cell r14_r 4
      have z15_r4 : u13.frozen? ⟨w.heap.size + 1 + 1, 4, none⟩ = false := CB.frozen r14_r 4
      have f15_r5 : u13.cell? ⟨w.heap.size + 1 + 1, 5, none⟩ = some (.bool false) := CB.cell r14_r 5
      have z15_r5 : u13.frozen? ⟨w.heap.size + 1 + 1, 5, none⟩ = false := CB.frozen r14_r 5
      obtain ⟨V16, hV16⟩ : ∃ V, (((((u13.setCell ⟨w.heap.size + 1 + 1, 0, none⟩ (.int .u8 me)).setCell ⟨w.heap.size + 1 + 1, 1, none⟩ (.int .i64 ep)).setCell ⟨w.heap.size + 1 + 1, 2, none⟩ (.int .i64 2)).setCell ⟨w.heap.size + 1 + 1, 3, none⟩ (.int .u8 fr)).setCell ⟨w.heap.size + 1 + 1, 4, none⟩ (.string cg)).setCell ⟨w.heap.size + 1 + 1, 5, none⟩ (.bool true) = V := ⟨_, rfl⟩
      have nV16 : CB V16 (w.heap.size + 1 + 1) 45 #[.int .u8 me, .int .i64 ep, .int .i64 2, .int .u8 fr, .string cg, .bool true] := by rw [← hV16]; exact cb_cast (CB.put (CB.put (CB.put (CB.put (CB.put (CB.put r14_r 0 (.int .u8 me)) 1 (.int .i64 ep)) 2 (.int .i64 2)) 3 (.int .u8 fr)) 4 (.string cg)) 5 (.bool true)) (by kernel_rfl)
      have mV16_s : CB V16 (w.heap.size) 45 #[.int .u8 me, .int .i64 ep, .int .i64 2, .int .u8 fr, .string cg, .bool true] := by rw [← hV16]; exact (CB.far (CB.far (CB.far (CB.far (CB.far (CB.far r14_s (p := ⟨w.heap.size + 1 + 1, 0, none⟩) neW1_02 (.int .u8 me)) (p := ⟨w.heap.size + 1 + 1, 1, none⟩) neW1_02 (.int .i64 ep)) (p := ⟨w.heap.size + 1 + 1, 2, none⟩) neW1_02 (.int .i64 2)) (p := ⟨w.heap.size + 1 + 1, 3, none⟩) neW1_02 (.int .u8 fr)) (p := ⟨w.heap.size + 1 + 1, 4, none⟩) neW1_02 (.string cg)) (p := ⟨w.heap.size + 1 + 1, 5, none⟩) neW1_02 (.bool true))
      have mV16_m : CB V16 (w.heap.size + 1) 68 #[.int .i64 kd, .int .u8 fr, .int .u8 t, .int .i64 e, .string mg] := by rw [← hV16]; exact (CB.far (CB.far (CB.far (CB.far (CB.far (CB.far r14_m (p := ⟨w.heap.size + 1 + 1, 0, none⟩) neW1_12 (.int .u8 me)) (p := ⟨w.heap.size + 1 + 1, 1, none⟩) neW1_12 (.int .i64 ep)) (p := ⟨w.heap.size + 1 + 1, 2, none⟩) neW1_12 (.int .i64 2)) (p := ⟨w.heap.size + 1 + 1, 3, none⟩) neW1_12 (.int .u8 fr)) (p := ⟨w.heap.size + 1 + 1, 4, none⟩) neW1_12 (.string cg)) (p := ⟨w.heap.size + 1 + 1, 5, none⟩) neW1_12 (.bool true))
      have mV16_l : CB V16 (w4.heap.size) 43 #[.int .i64 ep, .int .i64 2, .int .u8 fr] := by rw [← hV16]; exact (CB.far (CB.far (CB.far (CB.far (CB.far (CB.far r14_l (p := ⟨w.heap.size + 1 + 1, 0, none⟩) (Ne.symm neW6_r) (.int .u8 me)) (p := ⟨w.heap.size + 1 + 1, 1, none⟩) (Ne.symm neW6_r) (.int .i64 ep)) (p := ⟨w.heap.size + 1 + 1, 2, none⟩) (Ne.symm neW6_r) (.int .i64 2)) (p := ⟨w.heap.size + 1 + 1, 3, none⟩) (Ne.symm neW6_r) (.int .u8 fr)) (p := ⟨w.heap.size + 1 + 1, 4, none⟩) (Ne.symm neW6_r) (.string cg)) (p := ⟨w.heap.size + 1 + 1, 5, none⟩) (Ne.symm neW6_r) (.bool true))
      have oV16 := (Below.setCell (Below.setCell (Below.setCell (Below.setCell (Below.setCell (Below.setCell l14 (p := ⟨w.heap.size + 1 + 1, 0, none⟩) (by dsimp only; omega) (.int .u8 me)) (p := ⟨w.heap.size + 1 + 1, 1, none⟩) (by dsimp only; omega) (.int .i64 ep)) (p := ⟨w.heap.size + 1 + 1, 2, none⟩) (by dsimp only; omega) (.int .i64 2)) (p := ⟨w.heap.size + 1 + 1, 3, none⟩) (by dsimp only; omega) (.int .u8 fr)) (p := ⟨w.heap.size + 1 + 1, 4, none⟩) (by dsimp only; omega) (.string cg)) (p := ⟨w.heap.size + 1 + 1, 5, none⟩) (by dsimp only; omega) (.bool true))
      rw [hV16] at oV16
      have HV16 := Lib.hid hV16
      have V16_eq := hV16
      clear hV16
      clear r14_r r14_s r14_m r14_l l14
      have q16_z : RS V16 68 mc 5 A n q [⟨3, me, fr, ep + 1, cg⟩] := by rw [← V16_eq]; exact g16_z
      clear g16_z hr
      clear V16_eq
      rw [HV16.out]
      clear f15_r0 z15_r0 f15_r1 z15_r1 f15_r2 z15_r2 f15_r3 z15_r3 f15_r4 z15_r4 f15_r5 z15_r5
      have y17 := Lib.hid (show (fun V : World => V.cell? ⟨w.heap.size, 0, none⟩ = some (.int .u8 me) ∧ V.cell? ⟨w.heap.size, 1, none⟩ = some (.int .i64 ep) ∧ V.cell? ⟨w.heap.size, 2, none⟩ = some (.int .i64 2) ∧ V.cell? ⟨w.heap.size, 3, none⟩ = some (.int .u8 fr) ∧ V.cell? ⟨w.heap.size, 4, none⟩ = some (.string cg) ∧ V.cell? ⟨w.heap.size, 5, none⟩ = some (.bool true)) V16 from ⟨CB.cell mV16_s 0, CB.cell mV16_s 1, CB.cell mV16_s 2, CB.cell mV16_s 3, CB.cell mV16_s 4, CB.cell mV16_s 5⟩)
      refine hK.out _ _ y17.out (fun hHeld => ?_)
      clear hK K y17
      try simp only [Act.put, List.setIfInBounds_toArray, List.set_cons_zero, List.set_cons_succ]
      refine wpAnyH_takeL (i := 4) (d := some 5) (v := .slice A n q) rfl rfl (by kernel_rfl) (by kernel_rfl) (by kernel_rfl) (fun _ _ _ h => h) (Or.inl ⟨by rfl, ?_⟩) hHeld ?_
      · intro w hSw; (try dsimp only at hSw); go_simp
      try simp only [Act.put, List.setIfInBounds_toArray, List.set_cons_zero, List.set_cons_succ]
      refine wpAnyH_takeL (i := 5) (d := some 6) (v := .int .i64 0) rfl rfl (by kernel_rfl) (by kernel_rfl) (by kernel_rfl) (fun _ _ _ h => h) (Or.inl ⟨by rfl, ?_⟩) hHeld ?_
      · intro w hSw; (try dsimp only at hSw); go_simp
      try simp only [Act.put, List.setIfInBounds_toArray, List.set_cons_zero, List.set_cons_succ]
      refine wpAnyH_done (by kernel_rfl) ?_ _
      go_wp2_with fail
      have x_r0 : V16.cell? ⟨w.heap.size + 1 + 1, 0, none⟩ = some (.int .u8 me) := CB.cell nV16 0
      have x_r1 : V16.cell? ⟨w.heap.size + 1 + 1, 1, none⟩ = some (.int .i64 ep) := CB.cell nV16 1
      have x_r2 : V16.cell? ⟨w.heap.size + 1 + 1, 2, none⟩ = some (.int .i64 2) := CB.cell nV16 2
      have x_r3 : V16.cell? ⟨w.heap.size + 1 + 1, 3, none⟩ = some (.int .u8 fr) := CB.cell nV16 3
      have x_r4 : V16.cell? ⟨w.heap.size + 1 + 1, 4, none⟩ = some (.string cg) := CB.cell nV16 4
      have x_r5 : V16.cell? ⟨w.heap.size + 1 + 1, 5, none⟩ = some (.bool true) := CB.cell nV16 5
      exact bodyPost_ret (v := .tuple #[.agg #[.int .u8 me, .int .i64 ep, .int .i64 2, .int .u8 fr, .string cg, .bool true], .slice A n q, .int .i64 0]) (by simp [results, Try.results48, go_sem, x_r0, x_r1, x_r2, x_r3, x_r4, x_r5]) rfl (HPost.mk' (me) (ep) (2) (fr) (cg) (true) 0 _ H.out (q16_z) oV16)
  · have h1 : speaksL ⟨ep, st, to⟩ e = false := by unfold speaksL; rw [hrt]; simp; intro a b; exact hsp ⟨a, b⟩
    simp only [h1] at S1
    have K1 := fun W => keeps_c me ep st to cg kp fr e W
    cases hk : (kp && decide (to = fr) && decide (ep = e)) with
    | false =>
      simp only [hk] at K1
      have H := Lib.hid (show wantM ⟨me, ⟨ep, st, to⟩, cg, kp⟩ ⟨kd, fr, t, e, mg⟩ = ⟨⟨me, ⟨ep, st, to⟩, cg, kp⟩, [], 10⟩ by unfold wantM; simp only; rw [if_neg hsp, if_neg (by rintro ⟨c1, c2, c3, c4⟩; simp [c2, c3, c4] at hk)])
      clear h1 hk hsp hrt hs hm1 hm2 hm3 hm4 hm5 hm6 ht
      obtain ⟨W1, hW1⟩ : ∃ V, ((w.alloc (.cells #[.int .u8 me, .int .i64 ep, .int .i64 st, .int .u8 to, .string cg, .bool kp] 45)).alloc (.cells #[.int .i64 kd, .int .u8 fr, .int .u8 t, .int .i64 e, .string mg] 68)).alloc (.cells #[.int .u8 0, .int .i64 0, .int .i64 0, .int .u8 0, .string ⟨#[]⟩, .bool false] 45) = V := ⟨_, rfl⟩
      have nW1_s : CB W1 (w.heap.size) 45 #[.int .u8 me, .int .i64 ep, .int .i64 st, .int .u8 to, .string cg, .bool kp] := by
        rw [← hW1]
        have := (((CB.new w 45 #[.int .u8 me, .int .i64 ep, .int .i64 st, .int .u8 to, .string cg, .bool kp]).alloc (.cells #[.int .i64 kd, .int .u8 fr, .int .u8 t, .int .i64 e, .string mg] 68)).alloc (.cells #[.int .u8 0, .int .i64 0, .int .i64 0, .int .u8 0, .string ⟨#[]⟩, .bool false] 45))
        simpa using this
      have nW1_m : CB W1 (w.heap.size + 1) 68 #[.int .i64 kd, .int .u8 fr, .int .u8 t, .int .i64 e, .string mg] := by
        rw [← hW1]
        have := ((CB.new (w.alloc (.cells #[.int .u8 me, .int .i64 ep, .int .i64 st, .int .u8 to, .string cg, .bool kp] 45)) 68 #[.int .i64 kd, .int .u8 fr, .int .u8 t, .int .i64 e, .string mg]).alloc (.cells #[.int .u8 0, .int .i64 0, .int .i64 0, .int .u8 0, .string ⟨#[]⟩, .bool false] 45))
        simpa using this
      have nW1_r : CB W1 (w.heap.size + 1 + 1) 45 #[.int .u8 0, .int .i64 0, .int .i64 0, .int .u8 0, .string ⟨#[]⟩, .bool false] := by
        rw [← hW1]
        have := (CB.new ((w.alloc (.cells #[.int .u8 me, .int .i64 ep, .int .i64 st, .int .u8 to, .string cg, .bool kp] 45)).alloc (.cells #[.int .i64 kd, .int .u8 fr, .int .u8 t, .int .i64 e, .string mg] 68)) 45 #[.int .u8 0, .int .i64 0, .int .i64 0, .int .u8 0, .string ⟨#[]⟩, .bool false])
        simpa using this
      have neW1_01 : w.heap.size ≠ w.heap.size + 1 := by omega
      have neW1_02 : w.heap.size ≠ w.heap.size + 1 + 1 := by omega
      have neW1_12 : w.heap.size + 1 ≠ w.heap.size + 1 + 1 := by omega
      have lW1 : Below w.heap.size w W1 := by rw [← hW1]; exact le_tr (le_tr (le_al _ _) (le_al _ _)) (le_al _ _)
      have HW1 := Lib.hid hW1
      clear hW1
      go_enter Try.func48, Try.ntmps48
      go_wp2_with fail
      rw [HW1.out]
      refine (S1 _).mono ?_
      rintro e w2 ⟨rfl, b2⟩
      have r3_s := le_on nW1_s b2
      have r3_m := le_on nW1_m b2
      have r3_r := le_on nW1_r b2
      have l3 := le_tr lW1 b2
      clear nW1_s nW1_m nW1_r lW1
      clear b2
      have f3_s0 : w2.cell? ⟨w.heap.size, 0, none⟩ = some (.int .u8 me) := CB.cell r3_s 0
      have f3_s1 : w2.cell? ⟨w.heap.size, 1, none⟩ = some (.int .i64 ep) := CB.cell r3_s 1
      have f3_s2 : w2.cell? ⟨w.heap.size, 2, none⟩ = some (.int .i64 st) := CB.cell r3_s 2
      have f3_s3 : w2.cell? ⟨w.heap.size, 3, none⟩ = some (.int .u8 to) := CB.cell r3_s 3
      have f3_s4 : w2.cell? ⟨w.heap.size, 4, none⟩ = some (.string cg) := CB.cell r3_s 4
      have f3_s5 : w2.cell? ⟨w.heap.size, 5, none⟩ = some (.bool kp) := CB.cell r3_s 5
      have f3_m0 : w2.cell? ⟨w.heap.size + 1, 0, none⟩ = some (.int .i64 kd) := CB.cell r3_m 0
      have f3_m1 : w2.cell? ⟨w.heap.size + 1, 1, none⟩ = some (.int .u8 fr) := CB.cell r3_m 1
      have f3_m2 : w2.cell? ⟨w.heap.size + 1, 2, none⟩ = some (.int .u8 t) := CB.cell r3_m 2
      have f3_m3 : w2.cell? ⟨w.heap.size + 1, 3, none⟩ = some (.int .i64 e) := CB.cell r3_m 3
      have f3_m4 : w2.cell? ⟨w.heap.size + 1, 4, none⟩ = some (.string mg) := CB.cell r3_m 4
      go_wp2_with fail
      refine (K1 _).mono ?_
      rintro e w4 ⟨rfl, b4⟩
      clear f3_s0 f3_s1 f3_s2 f3_s3 f3_s4 f3_s5 f3_m0 f3_m1 f3_m2 f3_m3 f3_m4
      have r5_s := le_on r3_s b4
      have r5_m := le_on r3_m b4
      have r5_r := le_on r3_r b4
      have l5 := le_tr l3 b4
      clear r3_s r3_m r3_r l3
      clear b4
      have f5_s0 : w4.cell? ⟨w.heap.size, 0, none⟩ = some (.int .u8 me) := CB.cell r5_s 0
      have f5_s1 : w4.cell? ⟨w.heap.size, 1, none⟩ = some (.int .i64 ep) := CB.cell r5_s 1
      have f5_s2 : w4.cell? ⟨w.heap.size, 2, none⟩ = some (.int .i64 st) := CB.cell r5_s 2
      have f5_s3 : w4.cell? ⟨w.heap.size, 3, none⟩ = some (.int .u8 to) := CB.cell r5_s 3
      have f5_s4 : w4.cell? ⟨w.heap.size, 4, none⟩ = some (.string cg) := CB.cell r5_s 4
      have f5_s5 : w4.cell? ⟨w.heap.size, 5, none⟩ = some (.bool kp) := CB.cell r5_s 5
      have f5_r0 : w4.cell? ⟨w.heap.size + 1 + 1, 0, none⟩ = some (.int .u8 0) := CB.cell r5_r 0
      have z5_r0 : w4.frozen? ⟨w.heap.size + 1 + 1, 0, none⟩ = false := CB.frozen r5_r 0
      have f5_r1 : w4.cell? ⟨w.heap.size + 1 + 1, 1, none⟩ = some (.int .i64 0) := CB.cell r5_r 1
      have z5_r1 : w4.frozen? ⟨w.heap.size + 1 + 1, 1, none⟩ = false := CB.frozen r5_r 1
      have f5_r2 : w4.cell? ⟨w.heap.size + 1 + 1, 2, none⟩ = some (.int .i64 0) := CB.cell r5_r 2
      have z5_r2 : w4.frozen? ⟨w.heap.size + 1 + 1, 2, none⟩ = false := CB.frozen r5_r 2
      have f5_r3 : w4.cell? ⟨w.heap.size + 1 + 1, 3, none⟩ = some (.int .u8 0) := CB.cell r5_r 3
      have z5_r3 : w4.frozen? ⟨w.heap.size + 1 + 1, 3, none⟩ = false := CB.frozen r5_r 3
      have f5_r4 : w4.cell? ⟨w.heap.size + 1 + 1, 4, none⟩ = some (.string ⟨#[]⟩) := CB.cell r5_r 4
      have z5_r4 : w4.frozen? ⟨w.heap.size + 1 + 1, 4, none⟩ = false := CB.frozen r5_r 4
      have f5_r5 : w4.cell? ⟨w.heap.size + 1 + 1, 5, none⟩ = some (.bool false) := CB.cell r5_r 5
      have z5_r5 : w4.frozen? ⟨w.heap.size + 1 + 1, 5, none⟩ = false := CB.frozen r5_r 5
      obtain ⟨V6, hV6⟩ : ∃ V, (((((w4.setCell ⟨w.heap.size + 1 + 1, 0, none⟩ (.int .u8 me)).setCell ⟨w.heap.size + 1 + 1, 1, none⟩ (.int .i64 ep)).setCell ⟨w.heap.size + 1 + 1, 2, none⟩ (.int .i64 st)).setCell ⟨w.heap.size + 1 + 1, 3, none⟩ (.int .u8 to)).setCell ⟨w.heap.size + 1 + 1, 4, none⟩ (.string cg)).setCell ⟨w.heap.size + 1 + 1, 5, none⟩ (.bool kp) = V := ⟨_, rfl⟩
      have nV6 : CB V6 (w.heap.size + 1 + 1) 45 #[.int .u8 me, .int .i64 ep, .int .i64 st, .int .u8 to, .string cg, .bool kp] := by rw [← hV6]; exact cb_cast (CB.put (CB.put (CB.put (CB.put (CB.put (CB.put r5_r 0 (.int .u8 me)) 1 (.int .i64 ep)) 2 (.int .i64 st)) 3 (.int .u8 to)) 4 (.string cg)) 5 (.bool kp)) (by kernel_rfl)
      have mV6_s : CB V6 (w.heap.size) 45 #[.int .u8 me, .int .i64 ep, .int .i64 st, .int .u8 to, .string cg, .bool kp] := by rw [← hV6]; exact (CB.far (CB.far (CB.far (CB.far (CB.far (CB.far r5_s (p := ⟨w.heap.size + 1 + 1, 0, none⟩) neW1_02 (.int .u8 me)) (p := ⟨w.heap.size + 1 + 1, 1, none⟩) neW1_02 (.int .i64 ep)) (p := ⟨w.heap.size + 1 + 1, 2, none⟩) neW1_02 (.int .i64 st)) (p := ⟨w.heap.size + 1 + 1, 3, none⟩) neW1_02 (.int .u8 to)) (p := ⟨w.heap.size + 1 + 1, 4, none⟩) neW1_02 (.string cg)) (p := ⟨w.heap.size + 1 + 1, 5, none⟩) neW1_02 (.bool kp))
      have mV6_m : CB V6 (w.heap.size + 1) 68 #[.int .i64 kd, .int .u8 fr, .int .u8 t, .int .i64 e, .string mg] := by rw [← hV6]; exact (CB.far (CB.far (CB.far (CB.far (CB.far (CB.far r5_m (p := ⟨w.heap.size + 1 + 1, 0, none⟩) neW1_12 (.int .u8 me)) (p := ⟨w.heap.size + 1 + 1, 1, none⟩) neW1_12 (.int .i64 ep)) (p := ⟨w.heap.size + 1 + 1, 2, none⟩) neW1_12 (.int .i64 st)) (p := ⟨w.heap.size + 1 + 1, 3, none⟩) neW1_12 (.int .u8 to)) (p := ⟨w.heap.size + 1 + 1, 4, none⟩) neW1_12 (.string cg)) (p := ⟨w.heap.size + 1 + 1, 5, none⟩) neW1_12 (.bool kp))
      have oV6 := (Below.setCell (Below.setCell (Below.setCell (Below.setCell (Below.setCell (Below.setCell l5 (p := ⟨w.heap.size + 1 + 1, 0, none⟩) (by dsimp only; omega) (.int .u8 me)) (p := ⟨w.heap.size + 1 + 1, 1, none⟩) (by dsimp only; omega) (.int .i64 ep)) (p := ⟨w.heap.size + 1 + 1, 2, none⟩) (by dsimp only; omega) (.int .i64 st)) (p := ⟨w.heap.size + 1 + 1, 3, none⟩) (by dsimp only; omega) (.int .u8 to)) (p := ⟨w.heap.size + 1 + 1, 4, none⟩) (by dsimp only; omega) (.string cg)) (p := ⟨w.heap.size + 1 + 1, 5, none⟩) (by dsimp only; omega) (.bool kp))
      rw [hV6] at oV6
      have HV6 := Lib.hid hV6
      clear hV6
      clear r5_r r5_s r5_m l5
      go_wp2_with fail
      rw [HV6.out]
      have x_r0 : V6.cell? ⟨w.heap.size + 1 + 1, 0, none⟩ = some (.int .u8 me) := CB.cell nV6 0
      have x_r1 : V6.cell? ⟨w.heap.size + 1 + 1, 1, none⟩ = some (.int .i64 ep) := CB.cell nV6 1
      have x_r2 : V6.cell? ⟨w.heap.size + 1 + 1, 2, none⟩ = some (.int .i64 st) := CB.cell nV6 2
      have x_r3 : V6.cell? ⟨w.heap.size + 1 + 1, 3, none⟩ = some (.int .u8 to) := CB.cell nV6 3
      have x_r4 : V6.cell? ⟨w.heap.size + 1 + 1, 4, none⟩ = some (.string cg) := CB.cell nV6 4
      have x_r5 : V6.cell? ⟨w.heap.size + 1 + 1, 5, none⟩ = some (.bool kp) := CB.cell nV6 5
      exact bodyPost_ret (v := .tuple #[.agg #[.int .u8 me, .int .i64 ep, .int .i64 st, .int .u8 to, .string cg, .bool kp], .slice none 0 0, .int .i64 10]) (by simp [results, Try.results48, go_sem, x_r0, x_r1, x_r2, x_r3, x_r4, x_r5]) rfl (HPost.mk' me ep st to cg kp 10 [] H.out (RS.nil _ _ _ _) oV6)
    | true =>
      simp only [hk] at K1
      have hkp : kp = true ∧ to = fr ∧ ep = e := by simpa [and_assoc] using hk
      have A1 := fun W => hagain_c me ep st to cg kp W
      have h5 : againM ⟨me, ⟨ep, st, to⟩, cg, kp⟩ = [⟨3, me, to, ep + 1, cg⟩] := by unfold againM gvM; rw [if_pos ⟨hs, hkp.1⟩]
      simp only [h5] at A1
      have H := Lib.hid (show wantM ⟨me, ⟨ep, st, to⟩, cg, kp⟩ ⟨kd, fr, t, e, mg⟩ = ⟨⟨me, ⟨ep, st, to⟩, cg, kp⟩, [⟨3, me, to, ep + 1, cg⟩], 0⟩ by unfold wantM; simp only; rw [if_neg hsp, if_pos ⟨hs.2.2.2.2.2 hkp.1, hkp.2.2, hkp.2.1, hkp.1⟩, hkp.2.1, hkp.2.2])
      clear h1 h5 hk hkp hsp hrt hs hm1 hm2 hm3 hm4 hm5 hm6 ht
      obtain ⟨W1, hW1⟩ : ∃ V, ((w.alloc (.cells #[.int .u8 me, .int .i64 ep, .int .i64 st, .int .u8 to, .string cg, .bool kp] 45)).alloc (.cells #[.int .i64 kd, .int .u8 fr, .int .u8 t, .int .i64 e, .string mg] 68)).alloc (.cells #[.int .u8 0, .int .i64 0, .int .i64 0, .int .u8 0, .string ⟨#[]⟩, .bool false] 45) = V := ⟨_, rfl⟩
      have nW1_s : CB W1 (w.heap.size) 45 #[.int .u8 me, .int .i64 ep, .int .i64 st, .int .u8 to, .string cg, .bool kp] := by
        rw [← hW1]
        have := (((CB.new w 45 #[.int .u8 me, .int .i64 ep, .int .i64 st, .int .u8 to, .string cg, .bool kp]).alloc (.cells #[.int .i64 kd, .int .u8 fr, .int .u8 t, .int .i64 e, .string mg] 68)).alloc (.cells #[.int .u8 0, .int .i64 0, .int .i64 0, .int .u8 0, .string ⟨#[]⟩, .bool false] 45))
        simpa using this
      have nW1_m : CB W1 (w.heap.size + 1) 68 #[.int .i64 kd, .int .u8 fr, .int .u8 t, .int .i64 e, .string mg] := by
        rw [← hW1]
        have := ((CB.new (w.alloc (.cells #[.int .u8 me, .int .i64 ep, .int .i64 st, .int .u8 to, .string cg, .bool kp] 45)) 68 #[.int .i64 kd, .int .u8 fr, .int .u8 t, .int .i64 e, .string mg]).alloc (.cells #[.int .u8 0, .int .i64 0, .int .i64 0, .int .u8 0, .string ⟨#[]⟩, .bool false] 45))
        simpa using this
      have nW1_r : CB W1 (w.heap.size + 1 + 1) 45 #[.int .u8 0, .int .i64 0, .int .i64 0, .int .u8 0, .string ⟨#[]⟩, .bool false] := by
        rw [← hW1]
        have := (CB.new ((w.alloc (.cells #[.int .u8 me, .int .i64 ep, .int .i64 st, .int .u8 to, .string cg, .bool kp] 45)).alloc (.cells #[.int .i64 kd, .int .u8 fr, .int .u8 t, .int .i64 e, .string mg] 68)) 45 #[.int .u8 0, .int .i64 0, .int .i64 0, .int .u8 0, .string ⟨#[]⟩, .bool false])
        simpa using this
      have neW1_01 : w.heap.size ≠ w.heap.size + 1 := by omega
      have neW1_02 : w.heap.size ≠ w.heap.size + 1 + 1 := by omega
      have neW1_12 : w.heap.size + 1 ≠ w.heap.size + 1 + 1 := by omega
      have lW1 : Below w.heap.size w W1 := by rw [← hW1]; exact le_tr (le_tr (le_al _ _) (le_al _ _)) (le_al _ _)
      have HW1 := Lib.hid hW1
      clear hW1
      go_enter Try.func48, Try.ntmps48
      go_wp2_with fail
      rw [HW1.out]
      refine (S1 _).mono ?_
      rintro e w2 ⟨rfl, b2⟩
      have r3_s := le_on nW1_s b2
      have r3_m := le_on nW1_m b2
      have r3_r := le_on nW1_r b2
      have l3 := le_tr lW1 b2
      clear nW1_s nW1_m nW1_r lW1
      clear b2
      have f3_s0 : w2.cell? ⟨w.heap.size, 0, none⟩ = some (.int .u8 me) := CB.cell r3_s 0
      have f3_s1 : w2.cell? ⟨w.heap.size, 1, none⟩ = some (.int .i64 ep) := CB.cell r3_s 1
      have f3_s2 : w2.cell? ⟨w.heap.size, 2, none⟩ = some (.int .i64 st) := CB.cell r3_s 2
      have f3_s3 : w2.cell? ⟨w.heap.size, 3, none⟩ = some (.int .u8 to) := CB.cell r3_s 3
      have f3_s4 : w2.cell? ⟨w.heap.size, 4, none⟩ = some (.string cg) := CB.cell r3_s 4
      have f3_s5 : w2.cell? ⟨w.heap.size, 5, none⟩ = some (.bool kp) := CB.cell r3_s 5
      have f3_m0 : w2.cell? ⟨w.heap.size + 1, 0, none⟩ = some (.int .i64 kd) := CB.cell r3_m 0
      have f3_m1 : w2.cell? ⟨w.heap.size + 1, 1, none⟩ = some (.int .u8 fr) := CB.cell r3_m 1
      have f3_m2 : w2.cell? ⟨w.heap.size + 1, 2, none⟩ = some (.int .u8 t) := CB.cell r3_m 2
      have f3_m3 : w2.cell? ⟨w.heap.size + 1, 3, none⟩ = some (.int .i64 e) := CB.cell r3_m 3
      have f3_m4 : w2.cell? ⟨w.heap.size + 1, 4, none⟩ = some (.string mg) := CB.cell r3_m 4
      go_wp2_with fail
      refine (K1 _).mono ?_
      rintro e w4 ⟨rfl, b4⟩
      clear f3_s0 f3_s1 f3_s2 f3_s3 f3_s4 f3_s5 f3_m0 f3_m1 f3_m2 f3_m3 f3_m4
      have r5_s := le_on r3_s b4
      have r5_m := le_on r3_m b4
      have r5_r := le_on r3_r b4
      have l5 := le_tr l3 b4
      clear r3_s r3_m r3_r l3
      clear b4
      have f5_s0 : w4.cell? ⟨w.heap.size, 0, none⟩ = some (.int .u8 me) := CB.cell r5_s 0
      have f5_s1 : w4.cell? ⟨w.heap.size, 1, none⟩ = some (.int .i64 ep) := CB.cell r5_s 1
      have f5_s2 : w4.cell? ⟨w.heap.size, 2, none⟩ = some (.int .i64 st) := CB.cell r5_s 2
      have f5_s3 : w4.cell? ⟨w.heap.size, 3, none⟩ = some (.int .u8 to) := CB.cell r5_s 3
      have f5_s4 : w4.cell? ⟨w.heap.size, 4, none⟩ = some (.string cg) := CB.cell r5_s 4
      have f5_s5 : w4.cell? ⟨w.heap.size, 5, none⟩ = some (.bool kp) := CB.cell r5_s 5
      go_wp2_with fail
      clear f5_s0 f5_s1 f5_s2 f5_s3 f5_s4 f5_s5
      have y6 := Lib.hid (show (fun V : World => V.cell? ⟨w.heap.size, 0, none⟩ = some (.int .u8 me) ∧ V.cell? ⟨w.heap.size, 1, none⟩ = some (.int .i64 ep) ∧ V.cell? ⟨w.heap.size, 2, none⟩ = some (.int .i64 st) ∧ V.cell? ⟨w.heap.size, 3, none⟩ = some (.int .u8 to) ∧ V.cell? ⟨w.heap.size, 4, none⟩ = some (.string cg) ∧ V.cell? ⟨w.heap.size, 5, none⟩ = some (.bool kp)) w4 from ⟨CB.cell r5_s 0, CB.cell r5_s 1, CB.cell r5_s 2, CB.cell r5_s 3, CB.cell r5_s 4, CB.cell r5_s 5⟩)
      refine wp_region_held_drew (S := (fun V : World => V.cell? ⟨w.heap.size, 0, none⟩ = some (.int .u8 me) ∧ V.cell? ⟨w.heap.size, 1, none⟩ = some (.int .i64 ep) ∧ V.cell? ⟨w.heap.size, 2, none⟩ = some (.int .i64 st) ∧ V.cell? ⟨w.heap.size, 3, none⟩ = some (.int .u8 to) ∧ V.cell? ⟨w.heap.size, 4, none⟩ = some (.string cg) ∧ V.cell? ⟨w.heap.size, 5, none⟩ = some (.bool kp))) (by kernel_rfl) y6.out (fun hHeld => ?_)
      obtain ⟨D6, hD6⟩ : ∃ V, w4.drew = V := ⟨_, rfl⟩
      have b6 : Below w4.heap.size w4 D6 := by rw [← hD6]; exact le_dr (Below.refl _ _)
      rw [hD6] at hHeld ⊢
      clear hD6
      have r7_s := le_on r5_s b6
      have r7_m := le_on r5_m b6
      have r7_r := le_on r5_r b6
      have l7 := le_tr l5 b6
      clear r5_s r5_m r5_r l5
      clear b6
      refine wpAnyH_takeL (i := 0) (d := some 37) (v := .agg #[.int .u8 me, .int .i64 ep, .int .i64 st, .int .u8 to, .string cg, .bool kp]) rfl rfl (by kernel_rfl) (by kernel_rfl) (by kernel_rfl) (fun _ _ _ h => h) (Or.inl ⟨by rfl, ?_⟩) hHeld ?_
      · intro w hSw; (try dsimp only at hSw); go_simp
      try simp only [Act.put, List.setIfInBounds_toArray, List.set_cons_zero, List.set_cons_succ]
      refine wpAnyH_takeL (i := 1) (d := some 38) (v := .agg #[.int .u8 me, .int .i64 ep, .int .i64 st, .int .u8 to, .string cg, .bool kp]) rfl rfl (by kernel_rfl) (by kernel_rfl) (by kernel_rfl) (fun _ _ _ h => h) (Or.inl ⟨by rfl, ?_⟩) hHeld ?_
      · intro w hSw; (try dsimp only at hSw); go_simp
      try simp only [Act.put, List.setIfInBounds_toArray, List.set_cons_zero, List.set_cons_succ]
      refine wpAnyH_ready (rs := [2]) (by kernel_rfl) (by simp) ?_
      refine AllReadyH.cons rfl (fun K hK => ?_) AllReadyH.nil
      go_simp
      refine (A1 _).mono ?_
      rintro e u8 ⟨A, n, q, rfl, hr, b8⟩
      have r9_s := le_on r7_s b8
      have r9_m := le_on r7_m b8
      have r9_r := le_on r7_r b8
      have l9 := le_tr l7 b8
      clear r7_s r7_m r7_r l7
      clear b8
      go_wp2_with fail
      have y10 := Lib.hid (show (fun V : World => V.cell? ⟨w.heap.size, 0, none⟩ = some (.int .u8 me) ∧ V.cell? ⟨w.heap.size, 1, none⟩ = some (.int .i64 ep) ∧ V.cell? ⟨w.heap.size, 2, none⟩ = some (.int .i64 st) ∧ V.cell? ⟨w.heap.size, 3, none⟩ = some (.int .u8 to) ∧ V.cell? ⟨w.heap.size, 4, none⟩ = some (.string cg) ∧ V.cell? ⟨w.heap.size, 5, none⟩ = some (.bool kp)) u8 from ⟨CB.cell r9_s 0, CB.cell r9_s 1, CB.cell r9_s 2, CB.cell r9_s 3, CB.cell r9_s 4, CB.cell r9_s 5⟩)
      refine hK.out _ _ y10.out (fun hHeld => ?_)
      clear hK K y10
      try simp only [Act.put, List.setIfInBounds_toArray, List.set_cons_zero, List.set_cons_succ]
      refine wpAnyH_ready (rs := [3]) (by kernel_rfl) (by simp) ?_
      refine AllReadyH.cons rfl (fun K hK => ?_) AllReadyH.nil
      have f10_r0 : u8.cell? ⟨w.heap.size + 1 + 1, 0, none⟩ = some (.int .u8 0) := CB.cell r9_r 0
      have z10_r0 : u8.frozen? ⟨w.heap.size + 1 + 1, 0, none⟩ = false := CB.frozen r9_r 0
      have f10_r1 : u8.cell? ⟨w.heap.size + 1 + 1, 1, none⟩ = some (.int .i64 0) := CB.cell r9_r 1
      have z10_r1 : u8.frozen? ⟨w.heap.size + 1 + 1, 1, none⟩ = false := CB.frozen r9_r 1
      have f10_r2 : u8.cell? ⟨w.heap.size + 1 + 1, 2, none⟩ = some (.int .i64 0) := CB.cell r9_r 2
      have z10_r2 : u8.frozen? ⟨w.heap.size + 1 + 1, 2, none⟩ = false := CB.frozen r9_r 2
      have f10_r3 : u8.cell? ⟨w.heap.size + 1 + 1, 3, none⟩ = some (.int .u8 0) := CB.cell r9_r 3
      have z10_r3 : u8.frozen? ⟨w.heap.size + 1 + 1, 3, none⟩ = false := CB.frozen r9_r 3
      have f10_r4 : u8.cell? ⟨w.heap.size + 1 + 1, 4, none⟩ = some (.string ⟨#[]⟩) := CB.cell r9_r 4
      have z10_r4 : u8.frozen? ⟨w.heap.size + 1 + 1, 4, none⟩ = false := CB.frozen r9_r 4
      have f10_r5 : u8.cell? ⟨w.heap.size + 1 + 1, 5, none⟩ = some (.bool false) := CB.cell r9_r 5
      have z10_r5 : u8.frozen? ⟨w.heap.size + 1 + 1, 5, none⟩ = false := CB.frozen r9_r 5
      go_simp
      go_wp2_with fail
      have g11_z := (RS.far (RS.far (RS.far (RS.far (RS.far (RS.far hr r9_r (by decide) 0 (.int .u8 me)) (CB.put r9_r 0 (.int .u8 me)) (by decide) 1 (.int .i64 ep)) (CB.put (CB.put r9_r 0 (.int .u8 me)) 1 (.int .i64 ep)) (by decide) 2 (.int .i64 st)) (CB.put (CB.put (CB.put r9_r 0 (.int .u8 me)) 1 (.int .i64 ep)) 2 (.int .i64 st)) (by decide) 3 (.int .u8 to)) (CB.put (CB.put (CB.put (CB.put r9_r 0 (.int .u8 me)) 1 (.int .i64 ep)) 2 (.int .i64 st)) 3 (.int .u8 to)) (by decide) 4 (.string cg)) (CB.put (CB.put (CB.put (CB.put (CB.put r9_r 0 (.int .u8 me)) 1 (.int .i64 ep)) 2 (.int .i64 st)) 3 (.int .u8 to)) 4 (.string cg)) (by decide) 5 (.bool kp))
      have f10_r0 : u8.cell? ⟨w.heap.size + 1 + 1, 0, none⟩ = some (.int .u8 0) := CB.cell r9_r 0
      have z10_r0 : u8.frozen? ⟨w.heap.size + 1 + 1, 0, none⟩ = false := CB.frozen r9_r 0
      have f10_r1 : u8.cell? ⟨w.heap.size + 1 + 1, 1, none⟩ = some (.int .i64 0) := CB.cell r9_r 1
      have z10_r1 : u8.frozen? ⟨w.heap.size + 1 + 1, 1, none⟩ = false := CB.frozen r9_r 1
      have f10_r2 : u8.cell? ⟨w.heap.size + 1 + 1, 2, none⟩ = some (.int .i64 0) := CB.cell r9_r 2
      have z10_r2 : u8.frozen? ⟨w.heap.size + 1 + 1, 2, none⟩ = false := CB.frozen r9_r 2
      have f10_r3 : u8.cell? ⟨w.heap.size + 1 + 1, 3, none⟩ = some (.int .u8 0) := CB.cell r9_r 3
      have z10_r3 : u8.frozen? ⟨w.heap.size + 1 + 1, 3, none⟩ = false := CB.frozen r9_r 3
      have f10_r4 : u8.cell? ⟨w.heap.size + 1 + 1, 4, none⟩ = some (.string ⟨#[]⟩) := CB.cell r9_r 4
      have z10_r4 : u8.frozen? ⟨w.heap.size + 1 + 1, 4, none⟩ = false := CB.frozen r9_r 4
      have f10_r5 : u8.cell? ⟨w.heap.size + 1 + 1, 5, none⟩ = some (.bool false) := CB.cell r9_r 5
      have z10_r5 : u8.frozen? ⟨w.heap.size + 1 + 1, 5, none⟩ = false := CB.frozen r9_r 5
      obtain ⟨V11, hV11⟩ : ∃ V, (((((u8.setCell ⟨w.heap.size + 1 + 1, 0, none⟩ (.int .u8 me)).setCell ⟨w.heap.size + 1 + 1, 1, none⟩ (.int .i64 ep)).setCell ⟨w.heap.size + 1 + 1, 2, none⟩ (.int .i64 st)).setCell ⟨w.heap.size + 1 + 1, 3, none⟩ (.int .u8 to)).setCell ⟨w.heap.size + 1 + 1, 4, none⟩ (.string cg)).setCell ⟨w.heap.size + 1 + 1, 5, none⟩ (.bool kp) = V := ⟨_, rfl⟩
      have nV11 : CB V11 (w.heap.size + 1 + 1) 45 #[.int .u8 me, .int .i64 ep, .int .i64 st, .int .u8 to, .string cg, .bool kp] := by rw [← hV11]; exact cb_cast (CB.put (CB.put (CB.put (CB.put (CB.put (CB.put r9_r 0 (.int .u8 me)) 1 (.int .i64 ep)) 2 (.int .i64 st)) 3 (.int .u8 to)) 4 (.string cg)) 5 (.bool kp)) (by kernel_rfl)
      have mV11_s : CB V11 (w.heap.size) 45 #[.int .u8 me, .int .i64 ep, .int .i64 st, .int .u8 to, .string cg, .bool kp] := by rw [← hV11]; exact (CB.far (CB.far (CB.far (CB.far (CB.far (CB.far r9_s (p := ⟨w.heap.size + 1 + 1, 0, none⟩) neW1_02 (.int .u8 me)) (p := ⟨w.heap.size + 1 + 1, 1, none⟩) neW1_02 (.int .i64 ep)) (p := ⟨w.heap.size + 1 + 1, 2, none⟩) neW1_02 (.int .i64 st)) (p := ⟨w.heap.size + 1 + 1, 3, none⟩) neW1_02 (.int .u8 to)) (p := ⟨w.heap.size + 1 + 1, 4, none⟩) neW1_02 (.string cg)) (p := ⟨w.heap.size + 1 + 1, 5, none⟩) neW1_02 (.bool kp))
      have mV11_m : CB V11 (w.heap.size + 1) 68 #[.int .i64 kd, .int .u8 fr, .int .u8 t, .int .i64 e, .string mg] := by rw [← hV11]; exact (CB.far (CB.far (CB.far (CB.far (CB.far (CB.far r9_m (p := ⟨w.heap.size + 1 + 1, 0, none⟩) neW1_12 (.int .u8 me)) (p := ⟨w.heap.size + 1 + 1, 1, none⟩) neW1_12 (.int .i64 ep)) (p := ⟨w.heap.size + 1 + 1, 2, none⟩) neW1_12 (.int .i64 st)) (p := ⟨w.heap.size + 1 + 1, 3, none⟩) neW1_12 (.int .u8 to)) (p := ⟨w.heap.size + 1 + 1, 4, none⟩) neW1_12 (.string cg)) (p := ⟨w.heap.size + 1 + 1, 5, none⟩) neW1_12 (.bool kp))
      have oV11 := (Below.setCell (Below.setCell (Below.setCell (Below.setCell (Below.setCell (Below.setCell l9 (p := ⟨w.heap.size + 1 + 1, 0, none⟩) (by dsimp only; omega) (.int .u8 me)) (p := ⟨w.heap.size + 1 + 1, 1, none⟩) (by dsimp only; omega) (.int .i64 ep)) (p := ⟨w.heap.size + 1 + 1, 2, none⟩) (by dsimp only; omega) (.int .i64 st)) (p := ⟨w.heap.size + 1 + 1, 3, none⟩) (by dsimp only; omega) (.int .u8 to)) (p := ⟨w.heap.size + 1 + 1, 4, none⟩) (by dsimp only; omega) (.string cg)) (p := ⟨w.heap.size + 1 + 1, 5, none⟩) (by dsimp only; omega) (.bool kp))
      rw [hV11] at oV11
      have HV11 := Lib.hid hV11
      have V11_eq := hV11
      clear hV11
      clear r9_r r9_s r9_m l9
      have q11_z : RS V11 68 mc 5 A n q [⟨3, me, to, ep + 1, cg⟩] := by rw [← V11_eq]; exact g11_z
      clear g11_z hr
      clear V11_eq
      rw [HV11.out]
      clear f10_r0 z10_r0 f10_r1 z10_r1 f10_r2 z10_r2 f10_r3 z10_r3 f10_r4 z10_r4 f10_r5 z10_r5
      have y12 := Lib.hid (show (fun V : World => V.cell? ⟨w.heap.size, 0, none⟩ = some (.int .u8 me) ∧ V.cell? ⟨w.heap.size, 1, none⟩ = some (.int .i64 ep) ∧ V.cell? ⟨w.heap.size, 2, none⟩ = some (.int .i64 st) ∧ V.cell? ⟨w.heap.size, 3, none⟩ = some (.int .u8 to) ∧ V.cell? ⟨w.heap.size, 4, none⟩ = some (.string cg) ∧ V.cell? ⟨w.heap.size, 5, none⟩ = some (.bool kp)) V11 from ⟨CB.cell mV11_s 0, CB.cell mV11_s 1, CB.cell mV11_s 2, CB.cell mV11_s 3, CB.cell mV11_s 4, CB.cell mV11_s 5⟩)
      refine hK.out _ _ y12.out (fun hHeld => ?_)
      clear hK K y12
      try simp only [Act.put, List.setIfInBounds_toArray, List.set_cons_zero, List.set_cons_succ]
      refine wpAnyH_takeL (i := 4) (d := some 5) (v := .slice A n q) rfl rfl (by kernel_rfl) (by kernel_rfl) (by kernel_rfl) (fun _ _ _ h => h) (Or.inl ⟨by rfl, ?_⟩) hHeld ?_
      · intro w hSw; (try dsimp only at hSw); go_simp
      try simp only [Act.put, List.setIfInBounds_toArray, List.set_cons_zero, List.set_cons_succ]
      refine wpAnyH_takeL (i := 5) (d := some 6) (v := .int .i64 0) rfl rfl (by kernel_rfl) (by kernel_rfl) (by kernel_rfl) (fun _ _ _ h => h) (Or.inl ⟨by rfl, ?_⟩) hHeld ?_
      · intro w hSw; (try dsimp only at hSw); go_simp
      try simp only [Act.put, List.setIfInBounds_toArray, List.set_cons_zero, List.set_cons_succ]
      refine wpAnyH_done (by kernel_rfl) ?_ _
      go_wp2_with fail
      have x_r0 : V11.cell? ⟨w.heap.size + 1 + 1, 0, none⟩ = some (.int .u8 me) := CB.cell nV11 0
      have x_r1 : V11.cell? ⟨w.heap.size + 1 + 1, 1, none⟩ = some (.int .i64 ep) := CB.cell nV11 1
      have x_r2 : V11.cell? ⟨w.heap.size + 1 + 1, 2, none⟩ = some (.int .i64 st) := CB.cell nV11 2
      have x_r3 : V11.cell? ⟨w.heap.size + 1 + 1, 3, none⟩ = some (.int .u8 to) := CB.cell nV11 3
      have x_r4 : V11.cell? ⟨w.heap.size + 1 + 1, 4, none⟩ = some (.string cg) := CB.cell nV11 4
      have x_r5 : V11.cell? ⟨w.heap.size + 1 + 1, 5, none⟩ = some (.bool kp) := CB.cell nV11 5
      exact bodyPost_ret (v := .tuple #[.agg #[.int .u8 me, .int .i64 ep, .int .i64 st, .int .u8 to, .string cg, .bool kp], .slice A n q, .int .i64 0]) (by simp [results, Try.results48, go_sem, x_r0, x_r1, x_r2, x_r3, x_r4, x_r5]) rfl (HPost.mk' (me) (ep) (st) (to) (cg) (kp) 0 _ H.out (q11_z) oV11)
end Go.Proofs.Ytfdboahcaiolgaa
