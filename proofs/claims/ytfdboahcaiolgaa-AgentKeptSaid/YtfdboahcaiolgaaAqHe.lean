/-
  Hear of package hand: what the document says comes of any message. No condition.
-/
import Derived.Test.YtfdboahcaiolgaaAqHc
import Derived.Test.YtfdboahcaiolgaaAqHd
set_option linter.unusedVariables false
set_option linter.unusedSimpArgs false
namespace Go.Proofs.Ytfdboahcaiolgaa
open Go.RowKit

set_option maxRecDepth 100000 in
set_option maxHeartbeats 8000000 in
theorem hhear_c (me ep st to : Int) (cg : ByteArray) (kp : Bool) (kd fr t e : Int) (mg : ByteArray) (w : World) : Calls Try.prog 24 #[.agg #[.int .u8 me, .int .i64 ep, .int .i64 st, .int .u8 to, .string cg, .bool kp], .agg #[.int .i64 kd, .int .u8 fr, .int .u8 t, .int .i64 e, .string mg]] w (HPost w 68 (hearM ⟨me, ⟨ep, st, to⟩, cg, kp⟩ ⟨kd, fr, t, e, mg⟩)) := by
  cases hR : decide (RightS ⟨me, ⟨ep, st, to⟩, cg, kp⟩) with
  | false =>
    have H := Lib.hid (show hearM ⟨me, ⟨ep, st, to⟩, cg, kp⟩ ⟨kd, fr, t, e, mg⟩ = ⟨⟨me, ⟨ep, st, to⟩, cg, kp⟩, [], 2⟩ from if_neg (fun h => of_decide_eq_false hR h.1))
    have R1 := fun W => (by have := hright_c me ep st to cg kp W; rw [hR] at this; exact this)
    clear hR
    obtain ⟨W1, hW1⟩ : ∃ V, ((w.alloc (.cells #[.int .u8 me, .int .i64 ep, .int .i64 st, .int .u8 to, .string cg, .bool kp] 45)).alloc (.cells #[.int .i64 kd, .int .u8 fr, .int .u8 t, .int .i64 e, .string mg] 68)).alloc (.cells #[.int .u8 0, .int .i64 0, .int .i64 0, .int .u8 0, .string ⟨#[]⟩, .bool false] 45) = V := ⟨_, rfl⟩
    have nW1_s : CB W1 (w.heap.size) 45 #[.int .u8 me, .int .i64 ep, .int .i64 st, .int .u8 to, .string cg, .bool kp] := by
      rw [← hW1]
      have := (((CB.new w 45 #[.int .u8 me, .int .i64 ep, .int .i64 st, .int .u8 to, .string cg, .bool kp]).alloc (.cells #[.int .i64 kd, .int .u8 fr, .int .u8 t, .int .i64 e, .string mg] 68)).alloc (.cells #[.int .u8 0, .int .i64 0, .int .i64 0, .int .u8 0, .string ⟨#[]⟩, .bool false] 45))
      simpa using this
    have nW1_m : CB W1 (w.heap.size + 1) 68 #[.int .i64 kd, .int .u8 fr, .int .u8 t, .int .i64 e, .string mg] := by
      rw [← hW1]
      have := ((CB.new (w.alloc (.cells #[.int .u8 me, .int .i64 ep, .int .i64 st, .int .u8 to, .string cg, .bool kp] 45)) 68 #[.int .i64 kd, .int .u8 fr, .int .u8 t, .int .i64 e, .string mg]).alloc (.cells #[.int .u8 0, .int .i64 0, .int .i64 0, .int .u8 0, .string ⟨#[]⟩, .bool false] 45))
      simpa using this
    have nW1_r : CB W1 (w.heap.size + 1 + 1) 45 #[.int .u8 0, .int .i64 0, .int .i64 0, .int .u8 0, .string ⟨#[]⟩, .bool false] := by
      rw [← hW1]
      have := (CB.new ((w.alloc (.cells #[.int .u8 me, .int .i64 ep, .int .i64 st, .int .u8 to, .string cg, .bool kp] 45)).alloc (.cells #[.int .i64 kd, .int .u8 fr, .int .u8 t, .int .i64 e, .string mg] 68)) 45 #[.int .u8 0, .int .i64 0, .int .i64 0, .int .u8 0, .string ⟨#[]⟩, .bool false])
      simpa using this
    have neW1_01 : w.heap.size ≠ w.heap.size + 1 := by omega
    have neW1_02 : w.heap.size ≠ w.heap.size + 1 + 1 := by omega
    have neW1_12 : w.heap.size + 1 ≠ w.heap.size + 1 + 1 := by omega
    have lW1 : Below w.heap.size w W1 := by rw [← hW1]; exact le_tr (le_tr (le_al _ _) (le_al _ _)) (le_al _ _)
    have HW1 := Lib.hid hW1
    clear hW1
    go_enter Try.func24, Try.ntmps24
    go_wp2_with fail
    rw [HW1.out]
    refine (R1 _).mono ?_
    rintro e w2 ⟨rfl, b2⟩
    have r3_s := le_on nW1_s b2
    have r3_m := le_on nW1_m b2
    have r3_r := le_on nW1_r b2
    have l3 := le_tr lW1 b2
    clear nW1_s nW1_m nW1_r lW1
    clear b2
    have f3_s0 : w2.cell? ⟨w.heap.size, 0, none⟩ = some (.int .u8 me) := CB.cell r3_s 0
    have f3_s1 : w2.cell? ⟨w.heap.size, 1, none⟩ = some (.int .i64 ep) := CB.cell r3_s 1
    have f3_s2 : w2.cell? ⟨w.heap.size, 2, none⟩ = some (.int .i64 st) := CB.cell r3_s 2
    have f3_s3 : w2.cell? ⟨w.heap.size, 3, none⟩ = some (.int .u8 to) := CB.cell r3_s 3
    have f3_s4 : w2.cell? ⟨w.heap.size, 4, none⟩ = some (.string cg) := CB.cell r3_s 4
    have f3_s5 : w2.cell? ⟨w.heap.size, 5, none⟩ = some (.bool kp) := CB.cell r3_s 5
    have f3_m0 : w2.cell? ⟨w.heap.size + 1, 0, none⟩ = some (.int .i64 kd) := CB.cell r3_m 0
    have f3_m1 : w2.cell? ⟨w.heap.size + 1, 1, none⟩ = some (.int .u8 fr) := CB.cell r3_m 1
    have f3_m2 : w2.cell? ⟨w.heap.size + 1, 2, none⟩ = some (.int .u8 t) := CB.cell r3_m 2
    have f3_m3 : w2.cell? ⟨w.heap.size + 1, 3, none⟩ = some (.int .i64 e) := CB.cell r3_m 3
    have f3_m4 : w2.cell? ⟨w.heap.size + 1, 4, none⟩ = some (.string mg) := CB.cell r3_m 4
    have f3_r0 : w2.cell? ⟨w.heap.size + 1 + 1, 0, none⟩ = some (.int .u8 0) := CB.cell r3_r 0
    have z3_r0 : w2.frozen? ⟨w.heap.size + 1 + 1, 0, none⟩ = false := CB.frozen r3_r 0
    have f3_r1 : w2.cell? ⟨w.heap.size + 1 + 1, 1, none⟩ = some (.int .i64 0) := CB.cell r3_r 1
    have z3_r1 : w2.frozen? ⟨w.heap.size + 1 + 1, 1, none⟩ = false := CB.frozen r3_r 1
    have f3_r2 : w2.cell? ⟨w.heap.size + 1 + 1, 2, none⟩ = some (.int .i64 0) := CB.cell r3_r 2
    have z3_r2 : w2.frozen? ⟨w.heap.size + 1 + 1, 2, none⟩ = false := CB.frozen r3_r 2
    have f3_r3 : w2.cell? ⟨w.heap.size + 1 + 1, 3, none⟩ = some (.int .u8 0) := CB.cell r3_r 3
    have z3_r3 : w2.frozen? ⟨w.heap.size + 1 + 1, 3, none⟩ = false := CB.frozen r3_r 3
    have f3_r4 : w2.cell? ⟨w.heap.size + 1 + 1, 4, none⟩ = some (.string ⟨#[]⟩) := CB.cell r3_r 4
    have z3_r4 : w2.frozen? ⟨w.heap.size + 1 + 1, 4, none⟩ = false := CB.frozen r3_r 4
    have f3_r5 : w2.cell? ⟨w.heap.size + 1 + 1, 5, none⟩ = some (.bool false) := CB.cell r3_r 5
    have z3_r5 : w2.frozen? ⟨w.heap.size + 1 + 1, 5, none⟩ = false := CB.frozen r3_r 5
    obtain ⟨V4, hV4⟩ : ∃ V, (((((w2.setCell ⟨w.heap.size + 1 + 1, 0, none⟩ (.int .u8 me)).setCell ⟨w.heap.size + 1 + 1, 1, none⟩ (.int .i64 ep)).setCell ⟨w.heap.size + 1 + 1, 2, none⟩ (.int .i64 st)).setCell ⟨w.heap.size + 1 + 1, 3, none⟩ (.int .u8 to)).setCell ⟨w.heap.size + 1 + 1, 4, none⟩ (.string cg)).setCell ⟨w.heap.size + 1 + 1, 5, none⟩ (.bool kp) = V := ⟨_, rfl⟩
    have nV4 : CB V4 (w.heap.size + 1 + 1) 45 #[.int .u8 me, .int .i64 ep, .int .i64 st, .int .u8 to, .string cg, .bool kp] := by rw [← hV4]; exact cb_cast (CB.put (CB.put (CB.put (CB.put (CB.put (CB.put r3_r 0 (.int .u8 me)) 1 (.int .i64 ep)) 2 (.int .i64 st)) 3 (.int .u8 to)) 4 (.string cg)) 5 (.bool kp)) (by kernel_rfl)
    have mV4_s : CB V4 (w.heap.size) 45 #[.int .u8 me, .int .i64 ep, .int .i64 st, .int .u8 to, .string cg, .bool kp] := by rw [← hV4]; exact (CB.far (CB.far (CB.far (CB.far (CB.far (CB.far r3_s (p := ⟨w.heap.size + 1 + 1, 0, none⟩) neW1_02 (.int .u8 me)) (p := ⟨w.heap.size + 1 + 1, 1, none⟩) neW1_02 (.int .i64 ep)) (p := ⟨w.heap.size + 1 + 1, 2, none⟩) neW1_02 (.int .i64 st)) (p := ⟨w.heap.size + 1 + 1, 3, none⟩) neW1_02 (.int .u8 to)) (p := ⟨w.heap.size + 1 + 1, 4, none⟩) neW1_02 (.string cg)) (p := ⟨w.heap.size + 1 + 1, 5, none⟩) neW1_02 (.bool kp))
    have mV4_m : CB V4 (w.heap.size + 1) 68 #[.int .i64 kd, .int .u8 fr, .int .u8 t, .int .i64 e, .string mg] := by rw [← hV4]; exact (CB.far (CB.far (CB.far (CB.far (CB.far (CB.far r3_m (p := ⟨w.heap.size + 1 + 1, 0, none⟩) neW1_12 (.int .u8 me)) (p := ⟨w.heap.size + 1 + 1, 1, none⟩) neW1_12 (.int .i64 ep)) (p := ⟨w.heap.size + 1 + 1, 2, none⟩) neW1_12 (.int .i64 st)) (p := ⟨w.heap.size + 1 + 1, 3, none⟩) neW1_12 (.int .u8 to)) (p := ⟨w.heap.size + 1 + 1, 4, none⟩) neW1_12 (.string cg)) (p := ⟨w.heap.size + 1 + 1, 5, none⟩) neW1_12 (.bool kp))
    have oV4 := (Below.setCell (Below.setCell (Below.setCell (Below.setCell (Below.setCell (Below.setCell l3 (p := ⟨w.heap.size + 1 + 1, 0, none⟩) (by dsimp only; omega) (.int .u8 me)) (p := ⟨w.heap.size + 1 + 1, 1, none⟩) (by dsimp only; omega) (.int .i64 ep)) (p := ⟨w.heap.size + 1 + 1, 2, none⟩) (by dsimp only; omega) (.int .i64 st)) (p := ⟨w.heap.size + 1 + 1, 3, none⟩) (by dsimp only; omega) (.int .u8 to)) (p := ⟨w.heap.size + 1 + 1, 4, none⟩) (by dsimp only; omega) (.string cg)) (p := ⟨w.heap.size + 1 + 1, 5, none⟩) (by dsimp only; omega) (.bool kp))
    rw [hV4] at oV4
    have HV4 := Lib.hid hV4
    clear hV4
    clear r3_r r3_s r3_m l3
    go_wp2_with fail
    rw [HV4.out]
    have x_r0 : V4.cell? ⟨w.heap.size + 1 + 1, 0, none⟩ = some (.int .u8 me) := CB.cell nV4 0
    have x_r1 : V4.cell? ⟨w.heap.size + 1 + 1, 1, none⟩ = some (.int .i64 ep) := CB.cell nV4 1
    have x_r2 : V4.cell? ⟨w.heap.size + 1 + 1, 2, none⟩ = some (.int .i64 st) := CB.cell nV4 2
    have x_r3 : V4.cell? ⟨w.heap.size + 1 + 1, 3, none⟩ = some (.int .u8 to) := CB.cell nV4 3
    have x_r4 : V4.cell? ⟨w.heap.size + 1 + 1, 4, none⟩ = some (.string cg) := CB.cell nV4 4
    have x_r5 : V4.cell? ⟨w.heap.size + 1 + 1, 5, none⟩ = some (.bool kp) := CB.cell nV4 5
    exact bodyPost_ret (v := .tuple #[.agg #[.int .u8 me, .int .i64 ep, .int .i64 st, .int .u8 to, .string cg, .bool kp], .slice none 0 0, .int .i64 2]) (by simp [results, Try.results24, go_sem, x_r0, x_r1, x_r2, x_r3, x_r4, x_r5]) rfl (HPost.mk' me ep st to cg kp 2 [] H.out (RS.nil _ _ _ _) oV4)
  | true =>
    cases hM : decide (MayM ⟨kd, fr, t, e, mg⟩) with
    | false =>
      have H := Lib.hid (show hearM ⟨me, ⟨ep, st, to⟩, cg, kp⟩ ⟨kd, fr, t, e, mg⟩ = ⟨⟨me, ⟨ep, st, to⟩, cg, kp⟩, [], 2⟩ from if_neg (fun h => of_decide_eq_false hM h.2.1))
      have R1 := fun W => (by have := hright_c me ep st to cg kp W; rw [hR] at this; exact this)
      have M1 := fun W => (by have := rmsg_c kd fr t e mg W; rw [hM] at this; exact this)
      clear hR hM
      obtain ⟨W1, hW1⟩ : ∃ V, ((w.alloc (.cells #[.int .u8 me, .int .i64 ep, .int .i64 st, .int .u8 to, .string cg, .bool kp] 45)).alloc (.cells #[.int .i64 kd, .int .u8 fr, .int .u8 t, .int .i64 e, .string mg] 68)).alloc (.cells #[.int .u8 0, .int .i64 0, .int .i64 0, .int .u8 0, .string ⟨#[]⟩, .bool false] 45) = V := ⟨_, rfl⟩
      have nW1_s : CB W1 (w.heap.size) 45 #[.int .u8 me, .int .i64 ep, .int .i64 st, .int .u8 to, .string cg, .bool kp] := by
        rw [← hW1]
        have := (((CB.new w 45 #[.int .u8 me, .int .i64 ep, .int .i64 st, .int .u8 to, .string cg, .bool kp]).alloc (.cells #[.int .i64 kd, .int .u8 fr, .int .u8 t, .int .i64 e, .string mg] 68)).alloc (.cells #[.int .u8 0, .int .i64 0, .int .i64 0, .int .u8 0, .string ⟨#[]⟩, .bool false] 45))
        simpa using this
      have nW1_m : CB W1 (w.heap.size + 1) 68 #[.int .i64 kd, .int .u8 fr, .int .u8 t, .int .i64 e, .string mg] := by
        rw [← hW1]
        have := ((CB.new (w.alloc (.cells #[.int .u8 me, .int .i64 ep, .int .i64 st, .int .u8 to, .string cg, .bool kp] 45)) 68 #[.int .i64 kd, .int .u8 fr, .int .u8 t, .int .i64 e, .string mg]).alloc (.cells #[.int .u8 0, .int .i64 0, .int .i64 0, .int .u8 0, .string ⟨#[]⟩, .bool false] 45))
        simpa using this
      have nW1_r : CB W1 (w.heap.size + 1 + 1) 45 #[.int .u8 0, .int .i64 0, .int .i64 0, .int .u8 0, .string ⟨#[]⟩, .bool false] := by
        rw [← hW1]
        have := (CB.new ((w.alloc (.cells #[.int .u8 me, .int .i64 ep, .int .i64 st, .int .u8 to, .string cg, .bool kp] 45)).alloc (.cells #[.int .i64 kd, .int .u8 fr, .int .u8 t, .int .i64 e, .string mg] 68)) 45 #[.int .u8 0, .int .i64 0, .int .i64 0, .int .u8 0, .string ⟨#[]⟩, .bool false])
        simpa using this
      have neW1_01 : w.heap.size ≠ w.heap.size + 1 := by omega
      have neW1_02 : w.heap.size ≠ w.heap.size + 1 + 1 := by omega
      have neW1_12 : w.heap.size + 1 ≠ w.heap.size + 1 + 1 := by omega
      have lW1 : Below w.heap.size w W1 := by rw [← hW1]; exact le_tr (le_tr (le_al _ _) (le_al _ _)) (le_al _ _)
      have HW1 := Lib.hid hW1
      clear hW1
      go_enter Try.func24, Try.ntmps24
      go_wp2_with fail
      rw [HW1.out]
      refine (R1 _).mono ?_
      rintro e w2 ⟨rfl, b2⟩
      have r3_s := le_on nW1_s b2
      have r3_m := le_on nW1_m b2
      have r3_r := le_on nW1_r b2
      have l3 := le_tr lW1 b2
      clear nW1_s nW1_m nW1_r lW1
      clear b2
      have f3_s0 : w2.cell? ⟨w.heap.size, 0, none⟩ = some (.int .u8 me) := CB.cell r3_s 0
      have f3_s1 : w2.cell? ⟨w.heap.size, 1, none⟩ = some (.int .i64 ep) := CB.cell r3_s 1
      have f3_s2 : w2.cell? ⟨w.heap.size, 2, none⟩ = some (.int .i64 st) := CB.cell r3_s 2
      have f3_s3 : w2.cell? ⟨w.heap.size, 3, none⟩ = some (.int .u8 to) := CB.cell r3_s 3
      have f3_s4 : w2.cell? ⟨w.heap.size, 4, none⟩ = some (.string cg) := CB.cell r3_s 4
      have f3_s5 : w2.cell? ⟨w.heap.size, 5, none⟩ = some (.bool kp) := CB.cell r3_s 5
      have f3_m0 : w2.cell? ⟨w.heap.size + 1, 0, none⟩ = some (.int .i64 kd) := CB.cell r3_m 0
      have f3_m1 : w2.cell? ⟨w.heap.size + 1, 1, none⟩ = some (.int .u8 fr) := CB.cell r3_m 1
      have f3_m2 : w2.cell? ⟨w.heap.size + 1, 2, none⟩ = some (.int .u8 t) := CB.cell r3_m 2
      have f3_m3 : w2.cell? ⟨w.heap.size + 1, 3, none⟩ = some (.int .i64 e) := CB.cell r3_m 3
      have f3_m4 : w2.cell? ⟨w.heap.size + 1, 4, none⟩ = some (.string mg) := CB.cell r3_m 4
      go_wp2_with fail
      refine (M1 _).mono ?_
      rintro e w4 ⟨rfl, b4⟩
      clear f3_s0 f3_s1 f3_s2 f3_s3 f3_s4 f3_s5 f3_m0 f3_m1 f3_m2 f3_m3 f3_m4
      have r5_s := le_on r3_s b4
      have r5_m := le_on r3_m b4
      have r5_r := le_on r3_r b4
      have l5 := le_tr l3 b4
      clear r3_s r3_m r3_r l3
      clear b4
      have f5_s0 : w4.cell? ⟨w.heap.size, 0, none⟩ = some (.int .u8 me) := CB.cell r5_s 0
      have f5_s1 : w4.cell? ⟨w.heap.size, 1, none⟩ = some (.int .i64 ep) := CB.cell r5_s 1
      have f5_s2 : w4.cell? ⟨w.heap.size, 2, none⟩ = some (.int .i64 st) := CB.cell r5_s 2
      have f5_s3 : w4.cell? ⟨w.heap.size, 3, none⟩ = some (.int .u8 to) := CB.cell r5_s 3
      have f5_s4 : w4.cell? ⟨w.heap.size, 4, none⟩ = some (.string cg) := CB.cell r5_s 4
      have f5_s5 : w4.cell? ⟨w.heap.size, 5, none⟩ = some (.bool kp) := CB.cell r5_s 5
      have f5_m0 : w4.cell? ⟨w.heap.size + 1, 0, none⟩ = some (.int .i64 kd) := CB.cell r5_m 0
      have f5_m1 : w4.cell? ⟨w.heap.size + 1, 1, none⟩ = some (.int .u8 fr) := CB.cell r5_m 1
      have f5_m2 : w4.cell? ⟨w.heap.size + 1, 2, none⟩ = some (.int .u8 t) := CB.cell r5_m 2
      have f5_m3 : w4.cell? ⟨w.heap.size + 1, 3, none⟩ = some (.int .i64 e) := CB.cell r5_m 3
      have f5_m4 : w4.cell? ⟨w.heap.size + 1, 4, none⟩ = some (.string mg) := CB.cell r5_m 4
      have f5_r0 : w4.cell? ⟨w.heap.size + 1 + 1, 0, none⟩ = some (.int .u8 0) := CB.cell r5_r 0
      have z5_r0 : w4.frozen? ⟨w.heap.size + 1 + 1, 0, none⟩ = false := CB.frozen r5_r 0
      have f5_r1 : w4.cell? ⟨w.heap.size + 1 + 1, 1, none⟩ = some (.int .i64 0) := CB.cell r5_r 1
      have z5_r1 : w4.frozen? ⟨w.heap.size + 1 + 1, 1, none⟩ = false := CB.frozen r5_r 1
      have f5_r2 : w4.cell? ⟨w.heap.size + 1 + 1, 2, none⟩ = some (.int .i64 0) := CB.cell r5_r 2
      have z5_r2 : w4.frozen? ⟨w.heap.size + 1 + 1, 2, none⟩ = false := CB.frozen r5_r 2
      have f5_r3 : w4.cell? ⟨w.heap.size + 1 + 1, 3, none⟩ = some (.int .u8 0) := CB.cell r5_r 3
      have z5_r3 : w4.frozen? ⟨w.heap.size + 1 + 1, 3, none⟩ = false := CB.frozen r5_r 3
      have f5_r4 : w4.cell? ⟨w.heap.size + 1 + 1, 4, none⟩ = some (.string ⟨#[]⟩) := CB.cell r5_r 4
      have z5_r4 : w4.frozen? ⟨w.heap.size + 1 + 1, 4, none⟩ = false := CB.frozen r5_r 4
      have f5_r5 : w4.cell? ⟨w.heap.size + 1 + 1, 5, none⟩ = some (.bool false) := CB.cell r5_r 5
      have z5_r5 : w4.frozen? ⟨w.heap.size + 1 + 1, 5, none⟩ = false := CB.frozen r5_r 5
      obtain ⟨V6, hV6⟩ : ∃ V, (((((w4.setCell ⟨w.heap.size + 1 + 1, 0, none⟩ (.int .u8 me)).setCell ⟨w.heap.size + 1 + 1, 1, none⟩ (.int .i64 ep)).setCell ⟨w.heap.size + 1 + 1, 2, none⟩ (.int .i64 st)).setCell ⟨w.heap.size + 1 + 1, 3, none⟩ (.int .u8 to)).setCell ⟨w.heap.size + 1 + 1, 4, none⟩ (.string cg)).setCell ⟨w.heap.size + 1 + 1, 5, none⟩ (.bool kp) = V := ⟨_, rfl⟩
      have nV6 : CB V6 (w.heap.size + 1 + 1) 45 #[.int .u8 me, .int .i64 ep, .int .i64 st, .int .u8 to, .string cg, .bool kp] := by rw [← hV6]; exact cb_cast (CB.put (CB.put (CB.put (CB.put (CB.put (CB.put r5_r 0 (.int .u8 me)) 1 (.int .i64 ep)) 2 (.int .i64 st)) 3 (.int .u8 to)) 4 (.string cg)) 5 (.bool kp)) (by kernel_rfl)
      have mV6_s : CB V6 (w.heap.size) 45 #[.int .u8 me, .int .i64 ep, .int .i64 st, .int .u8 to, .string cg, .bool kp] := by rw [← hV6]; exact (CB.far (CB.far (CB.far (CB.far (CB.far (CB.far r5_s (p := ⟨w.heap.size + 1 + 1, 0, none⟩) neW1_02 (.int .u8 me)) (p := ⟨w.heap.size + 1 + 1, 1, none⟩) neW1_02 (.int .i64 ep)) (p := ⟨w.heap.size + 1 + 1, 2, none⟩) neW1_02 (.int .i64 st)) (p := ⟨w.heap.size + 1 + 1, 3, none⟩) neW1_02 (.int .u8 to)) (p := ⟨w.heap.size + 1 + 1, 4, none⟩) neW1_02 (.string cg)) (p := ⟨w.heap.size + 1 + 1, 5, none⟩) neW1_02 (.bool kp))
      have mV6_m : CB V6 (w.heap.size + 1) 68 #[.int .i64 kd, .int .u8 fr, .int .u8 t, .int .i64 e, .string mg] := by rw [← hV6]; exact (CB.far (CB.far (CB.far (CB.far (CB.far (CB.far r5_m (p := ⟨w.heap.size + 1 + 1, 0, none⟩) neW1_12 (.int .u8 me)) (p := ⟨w.heap.size + 1 + 1, 1, none⟩) neW1_12 (.int .i64 ep)) (p := ⟨w.heap.size + 1 + 1, 2, none⟩) neW1_12 (.int .i64 st)) (p := ⟨w.heap.size + 1 + 1, 3, none⟩) neW1_12 (.int .u8 to)) (p := ⟨w.heap.size + 1 + 1, 4, none⟩) neW1_12 (.string cg)) (p := ⟨w.heap.size + 1 + 1, 5, none⟩) neW1_12 (.bool kp))
      have oV6 := (Below.setCell (Below.setCell (Below.setCell (Below.setCell (Below.setCell (Below.setCell l5 (p := ⟨w.heap.size + 1 + 1, 0, none⟩) (by dsimp only; omega) (.int .u8 me)) (p := ⟨w.heap.size + 1 + 1, 1, none⟩) (by dsimp only; omega) (.int .i64 ep)) (p := ⟨w.heap.size + 1 + 1, 2, none⟩) (by dsimp only; omega) (.int .i64 st)) (p := ⟨w.heap.size + 1 + 1, 3, none⟩) (by dsimp only; omega) (.int .u8 to)) (p := ⟨w.heap.size + 1 + 1, 4, none⟩) (by dsimp only; omega) (.string cg)) (p := ⟨w.heap.size + 1 + 1, 5, none⟩) (by dsimp only; omega) (.bool kp))
      rw [hV6] at oV6
      have HV6 := Lib.hid hV6
      clear hV6
      clear r5_r r5_s r5_m l5
      go_wp2_with fail
      rw [HV6.out]
      have x_r0 : V6.cell? ⟨w.heap.size + 1 + 1, 0, none⟩ = some (.int .u8 me) := CB.cell nV6 0
      have x_r1 : V6.cell? ⟨w.heap.size + 1 + 1, 1, none⟩ = some (.int .i64 ep) := CB.cell nV6 1
      have x_r2 : V6.cell? ⟨w.heap.size + 1 + 1, 2, none⟩ = some (.int .i64 st) := CB.cell nV6 2
      have x_r3 : V6.cell? ⟨w.heap.size + 1 + 1, 3, none⟩ = some (.int .u8 to) := CB.cell nV6 3
      have x_r4 : V6.cell? ⟨w.heap.size + 1 + 1, 4, none⟩ = some (.string cg) := CB.cell nV6 4
      have x_r5 : V6.cell? ⟨w.heap.size + 1 + 1, 5, none⟩ = some (.bool kp) := CB.cell nV6 5
      exact bodyPost_ret (v := .tuple #[.agg #[.int .u8 me, .int .i64 ep, .int .i64 st, .int .u8 to, .string cg, .bool kp], .slice none 0 0, .int .i64 2]) (by simp [results, Try.results24, go_sem, x_r0, x_r1, x_r2, x_r3, x_r4, x_r5]) rfl (HPost.mk' me ep st to cg kp 2 [] H.out (RS.nil _ _ _ _) oV6)
    | true =>
      by_cases htm : t = me
      · have hs := of_decide_eq_true hR
        have hm := of_decide_eq_true hM
        have htm' : (t != me) = false := by simp [htm]
        have hok : hearM ⟨me, ⟨ep, st, to⟩, cg, kp⟩ ⟨kd, fr, t, e, mg⟩ = (if kd = 2 then wantM ⟨me, ⟨ep, st, to⟩, cg, kp⟩ ⟨kd, fr, t, e, mg⟩ else if kd = 3 then giveM ⟨me, ⟨ep, st, to⟩, cg, kp⟩ ⟨kd, fr, t, e, mg⟩ else if kd = 1 then offerM ⟨me, ⟨ep, st, to⟩, cg, kp⟩ ⟨kd, fr, t, e, mg⟩ else gotM ⟨me, ⟨ep, st, to⟩, cg, kp⟩ ⟨kd, fr, t, e, mg⟩) := hear_ok ⟨hs, hm, htm⟩
        obtain ⟨⟨⟨zme, ⟨zep, zst, zto⟩, zcg, zkp⟩, zr, ze⟩, hd⟩ : ∃ d, hearM ⟨me, ⟨ep, st, to⟩, cg, kp⟩ ⟨kd, fr, t, e, mg⟩ = d := ⟨_, rfl⟩
        have H := Lib.hid hd
        have hkd : 1 ≤ kd ∧ kd ≤ 4 := hm.1
        have R1 := fun W => (by have := hright_c me ep st to cg kp W; rw [hR] at this; exact this)
        have M1 := fun W => (by have := rmsg_c kd fr t e mg W; rw [hM] at this; exact this)
        by_cases hk : kd = 2
        · skip
          have O1 : ∀ W, Calls Try.prog 48 #[.agg #[.int .u8 me, .int .i64 ep, .int .i64 st, .int .u8 to, .string cg, .bool kp], .agg #[.int .i64 kd, .int .u8 fr, .int .u8 t, .int .i64 e, .string mg]] W (fun r w' => ∃ A n q, r = .returned (.tuple #[.agg #[.int .u8 zme, .int .i64 zep, .int .i64 zst, .int .u8 zto, .string zcg, .bool zkp], .slice A n q, .int .i64 (ze : Int)]) ∧ RS w' 68 mc 5 A n q zr ∧ Below W.heap.size W w') := fun W => by
            have := hwant_c me ep st to cg kp kd fr t e mg W hs hm htm
            rw [if_pos hk, hd] at hok
            rw [← hok] at this
            exact this
          have k1 : (kd == 1) = false := by simp [hk]
          have k2 : (kd == 2) = true := by simp [hk]
          have k3 : (kd == 3) = false := by simp [hk]
          clear hR hM hs hm htm hok hd hkd hk
          obtain ⟨W1, hW1⟩ : ∃ V, ((w.alloc (.cells #[.int .u8 me, .int .i64 ep, .int .i64 st, .int .u8 to, .string cg, .bool kp] 45)).alloc (.cells #[.int .i64 kd, .int .u8 fr, .int .u8 t, .int .i64 e, .string mg] 68)).alloc (.cells #[.int .u8 0, .int .i64 0, .int .i64 0, .int .u8 0, .string ⟨#[]⟩, .bool false] 45) = V := ⟨_, rfl⟩
          have nW1_s : CB W1 (w.heap.size) 45 #[.int .u8 me, .int .i64 ep, .int .i64 st, .int .u8 to, .string cg, .bool kp] := by
            rw [← hW1]
            have := (((CB.new w 45 #[.int .u8 me, .int .i64 ep, .int .i64 st, .int .u8 to, .string cg, .bool kp]).alloc (.cells #[.int .i64 kd, .int .u8 fr, .int .u8 t, .int .i64 e, .string mg] 68)).alloc (.cells #[.int .u8 0, .int .i64 0, .int .i64 0, .int .u8 0, .string ⟨#[]⟩, .bool false] 45))
            simpa using this
          have nW1_m : CB W1 (w.heap.size + 1) 68 #[.int .i64 kd, .int .u8 fr, .int .u8 t, .int .i64 e, .string mg] := by
            rw [← hW1]
            have := ((CB.new (w.alloc (.cells #[.int .u8 me, .int .i64 ep, .int .i64 st, .int .u8 to, .string cg, .bool kp] 45)) 68 #[.int .i64 kd, .int .u8 fr, .int .u8 t, .int .i64 e, .string mg]).alloc (.cells #[.int .u8 0, .int .i64 0, .int .i64 0, .int .u8 0, .string ⟨#[]⟩, .bool false] 45))
            simpa using this
          have nW1_r : CB W1 (w.heap.size + 1 + 1) 45 #[.int .u8 0, .int .i64 0, .int .i64 0, .int .u8 0, .string ⟨#[]⟩, .bool false] := by
            rw [← hW1]
            have := (CB.new ((w.alloc (.cells #[.int .u8 me, .int .i64 ep, .int .i64 st, .int .u8 to, .string cg, .bool kp] 45)).alloc (.cells #[.int .i64 kd, .int .u8 fr, .int .u8 t, .int .i64 e, .string mg] 68)) 45 #[.int .u8 0, .int .i64 0, .int .i64 0, .int .u8 0, .string ⟨#[]⟩, .bool false])
            simpa using this
          have neW1_01 : w.heap.size ≠ w.heap.size + 1 := by omega
          have neW1_02 : w.heap.size ≠ w.heap.size + 1 + 1 := by omega
          have neW1_12 : w.heap.size + 1 ≠ w.heap.size + 1 + 1 := by omega
          have lW1 : Below w.heap.size w W1 := by rw [← hW1]; exact le_tr (le_tr (le_al _ _) (le_al _ _)) (le_al _ _)
          have HW1 := Lib.hid hW1
          clear hW1
          go_enter Try.func24, Try.ntmps24
          go_wp2_with fail
          rw [HW1.out]
          refine (R1 _).mono ?_
          rintro e w2 ⟨rfl, b2⟩
          have r3_s := le_on nW1_s b2
          have r3_m := le_on nW1_m b2
          have r3_r := le_on nW1_r b2
          have l3 := le_tr lW1 b2
          clear nW1_s nW1_m nW1_r lW1
          clear b2
          have f3_s0 : w2.cell? ⟨w.heap.size, 0, none⟩ = some (.int .u8 me) := CB.cell r3_s 0
          have f3_s1 : w2.cell? ⟨w.heap.size, 1, none⟩ = some (.int .i64 ep) := CB.cell r3_s 1
          have f3_s2 : w2.cell? ⟨w.heap.size, 2, none⟩ = some (.int .i64 st) := CB.cell r3_s 2
          have f3_s3 : w2.cell? ⟨w.heap.size, 3, none⟩ = some (.int .u8 to) := CB.cell r3_s 3
          have f3_s4 : w2.cell? ⟨w.heap.size, 4, none⟩ = some (.string cg) := CB.cell r3_s 4
          have f3_s5 : w2.cell? ⟨w.heap.size, 5, none⟩ = some (.bool kp) := CB.cell r3_s 5
          have f3_m0 : w2.cell? ⟨w.heap.size + 1, 0, none⟩ = some (.int .i64 kd) := CB.cell r3_m 0
          have f3_m1 : w2.cell? ⟨w.heap.size + 1, 1, none⟩ = some (.int .u8 fr) := CB.cell r3_m 1
          have f3_m2 : w2.cell? ⟨w.heap.size + 1, 2, none⟩ = some (.int .u8 t) := CB.cell r3_m 2
          have f3_m3 : w2.cell? ⟨w.heap.size + 1, 3, none⟩ = some (.int .i64 e) := CB.cell r3_m 3
          have f3_m4 : w2.cell? ⟨w.heap.size + 1, 4, none⟩ = some (.string mg) := CB.cell r3_m 4
          go_wp2_with fail
          refine (M1 _).mono ?_
          rintro e w4 ⟨rfl, b4⟩
          clear f3_s0 f3_s1 f3_s2 f3_s3 f3_s4 f3_s5 f3_m0 f3_m1 f3_m2 f3_m3 f3_m4
          have r5_s := le_on r3_s b4
          have r5_m := le_on r3_m b4
          have r5_r := le_on r3_r b4
          have l5 := le_tr l3 b4
          clear r3_s r3_m r3_r l3
          clear b4
          have f5_s0 : w4.cell? ⟨w.heap.size, 0, none⟩ = some (.int .u8 me) := CB.cell r5_s 0
          have f5_s1 : w4.cell? ⟨w.heap.size, 1, none⟩ = some (.int .i64 ep) := CB.cell r5_s 1
          have f5_s2 : w4.cell? ⟨w.heap.size, 2, none⟩ = some (.int .i64 st) := CB.cell r5_s 2
          have f5_s3 : w4.cell? ⟨w.heap.size, 3, none⟩ = some (.int .u8 to) := CB.cell r5_s 3
          have f5_s4 : w4.cell? ⟨w.heap.size, 4, none⟩ = some (.string cg) := CB.cell r5_s 4
          have f5_s5 : w4.cell? ⟨w.heap.size, 5, none⟩ = some (.bool kp) := CB.cell r5_s 5
          have f5_m0 : w4.cell? ⟨w.heap.size + 1, 0, none⟩ = some (.int .i64 kd) := CB.cell r5_m 0
          have f5_m1 : w4.cell? ⟨w.heap.size + 1, 1, none⟩ = some (.int .u8 fr) := CB.cell r5_m 1
          have f5_m2 : w4.cell? ⟨w.heap.size + 1, 2, none⟩ = some (.int .u8 t) := CB.cell r5_m 2
          have f5_m3 : w4.cell? ⟨w.heap.size + 1, 3, none⟩ = some (.int .i64 e) := CB.cell r5_m 3
          have f5_m4 : w4.cell? ⟨w.heap.size + 1, 4, none⟩ = some (.string mg) := CB.cell r5_m 4
          go_wp2_with fail
          refine (O1 _).mono ?_
          rintro e w6 ⟨A, n, q, rfl, hr, b6⟩
          clear f5_s0 f5_s1 f5_s2 f5_s3 f5_s4 f5_s5 f5_m0 f5_m1 f5_m2 f5_m3 f5_m4
          have r7_s := le_on r5_s b6
          have r7_m := le_on r5_m b6
          have r7_r := le_on r5_r b6
          have l7 := le_tr l5 b6
          clear r5_s r5_m r5_r l5
          clear b6
          have g8_z := (RS.far (RS.far (RS.far (RS.far (RS.far (RS.far hr r7_r (by decide) 0 (.int .u8 zme)) (CB.put r7_r 0 (.int .u8 zme)) (by decide) 1 (.int .i64 zep)) (CB.put (CB.put r7_r 0 (.int .u8 zme)) 1 (.int .i64 zep)) (by decide) 2 (.int .i64 zst)) (CB.put (CB.put (CB.put r7_r 0 (.int .u8 zme)) 1 (.int .i64 zep)) 2 (.int .i64 zst)) (by decide) 3 (.int .u8 zto)) (CB.put (CB.put (CB.put (CB.put r7_r 0 (.int .u8 zme)) 1 (.int .i64 zep)) 2 (.int .i64 zst)) 3 (.int .u8 zto)) (by decide) 4 (.string zcg)) (CB.put (CB.put (CB.put (CB.put (CB.put r7_r 0 (.int .u8 zme)) 1 (.int .i64 zep)) 2 (.int .i64 zst)) 3 (.int .u8 zto)) 4 (.string zcg)) (by decide) 5 (.bool zkp))
          have f7_r0 : w6.cell? ⟨w.heap.size + 1 + 1, 0, none⟩ = some (.int .u8 0) := CB.cell r7_r 0
          have z7_r0 : w6.frozen? ⟨w.heap.size + 1 + 1, 0, none⟩ = false := CB.frozen r7_r 0
          have f7_r1 : w6.cell? ⟨w.heap.size + 1 + 1, 1, none⟩ = some (.int .i64 0) := CB.cell r7_r 1
          have z7_r1 : w6.frozen? ⟨w.heap.size + 1 + 1, 1, none⟩ = false := CB.frozen r7_r 1
          have f7_r2 : w6.cell? ⟨w.heap.size + 1 + 1, 2, none⟩ = some (.int .i64 0) := CB.cell r7_r 2
          have z7_r2 : w6.frozen? ⟨w.heap.size + 1 + 1, 2, none⟩ = false := CB.frozen r7_r 2
          have f7_r3 : w6.cell? ⟨w.heap.size + 1 + 1, 3, none⟩ = some (.int .u8 0) := CB.cell r7_r 3
          have z7_r3 : w6.frozen? ⟨w.heap.size + 1 + 1, 3, none⟩ = false := CB.frozen r7_r 3
          have f7_r4 : w6.cell? ⟨w.heap.size + 1 + 1, 4, none⟩ = some (.string ⟨#[]⟩) := CB.cell r7_r 4
          have z7_r4 : w6.frozen? ⟨w.heap.size + 1 + 1, 4, none⟩ = false := CB.frozen r7_r 4
          have f7_r5 : w6.cell? ⟨w.heap.size + 1 + 1, 5, none⟩ = some (.bool false) := CB.cell r7_r 5
          have z7_r5 : w6.frozen? ⟨w.heap.size + 1 + 1, 5, none⟩ = false := CB.frozen r7_r 5
          obtain ⟨V8, hV8⟩ : ∃ V, (((((w6.setCell ⟨w.heap.size + 1 + 1, 0, none⟩ (.int .u8 zme)).setCell ⟨w.heap.size + 1 + 1, 1, none⟩ (.int .i64 zep)).setCell ⟨w.heap.size + 1 + 1, 2, none⟩ (.int .i64 zst)).setCell ⟨w.heap.size + 1 + 1, 3, none⟩ (.int .u8 zto)).setCell ⟨w.heap.size + 1 + 1, 4, none⟩ (.string zcg)).setCell ⟨w.heap.size + 1 + 1, 5, none⟩ (.bool zkp) = V := ⟨_, rfl⟩
          have nV8 : CB V8 (w.heap.size + 1 + 1) 45 #[.int .u8 zme, .int .i64 zep, .int .i64 zst, .int .u8 zto, .string zcg, .bool zkp] := by rw [← hV8]; exact cb_cast (CB.put (CB.put (CB.put (CB.put (CB.put (CB.put r7_r 0 (.int .u8 zme)) 1 (.int .i64 zep)) 2 (.int .i64 zst)) 3 (.int .u8 zto)) 4 (.string zcg)) 5 (.bool zkp)) (by kernel_rfl)
          have mV8_s : CB V8 (w.heap.size) 45 #[.int .u8 me, .int .i64 ep, .int .i64 st, .int .u8 to, .string cg, .bool kp] := by rw [← hV8]; exact (CB.far (CB.far (CB.far (CB.far (CB.far (CB.far r7_s (p := ⟨w.heap.size + 1 + 1, 0, none⟩) neW1_02 (.int .u8 zme)) (p := ⟨w.heap.size + 1 + 1, 1, none⟩) neW1_02 (.int .i64 zep)) (p := ⟨w.heap.size + 1 + 1, 2, none⟩) neW1_02 (.int .i64 zst)) (p := ⟨w.heap.size + 1 + 1, 3, none⟩) neW1_02 (.int .u8 zto)) (p := ⟨w.heap.size + 1 + 1, 4, none⟩) neW1_02 (.string zcg)) (p := ⟨w.heap.size + 1 + 1, 5, none⟩) neW1_02 (.bool zkp))
          have mV8_m : CB V8 (w.heap.size + 1) 68 #[.int .i64 kd, .int .u8 fr, .int .u8 t, .int .i64 e, .string mg] := by rw [← hV8]; exact (CB.far (CB.far (CB.far (CB.far (CB.far (CB.far r7_m (p := ⟨w.heap.size + 1 + 1, 0, none⟩) neW1_12 (.int .u8 zme)) (p := ⟨w.heap.size + 1 + 1, 1, none⟩) neW1_12 (.int .i64 zep)) (p := ⟨w.heap.size + 1 + 1, 2, none⟩) neW1_12 (.int .i64 zst)) (p := ⟨w.heap.size + 1 + 1, 3, none⟩) neW1_12 (.int .u8 zto)) (p := ⟨w.heap.size + 1 + 1, 4, none⟩) neW1_12 (.string zcg)) (p := ⟨w.heap.size + 1 + 1, 5, none⟩) neW1_12 (.bool zkp))
          have oV8 := (Below.setCell (Below.setCell (Below.setCell (Below.setCell (Below.setCell (Below.setCell l7 (p := ⟨w.heap.size + 1 + 1, 0, none⟩) (by dsimp only; omega) (.int .u8 zme)) (p := ⟨w.heap.size + 1 + 1, 1, none⟩) (by dsimp only; omega) (.int .i64 zep)) (p := ⟨w.heap.size + 1 + 1, 2, none⟩) (by dsimp only; omega) (.int .i64 zst)) (p := ⟨w.heap.size + 1 + 1, 3, none⟩) (by dsimp only; omega) (.int .u8 zto)) (p := ⟨w.heap.size + 1 + 1, 4, none⟩) (by dsimp only; omega) (.string zcg)) (p := ⟨w.heap.size + 1 + 1, 5, none⟩) (by dsimp only; omega) (.bool zkp))
          rw [hV8] at oV8
          have HV8 := Lib.hid hV8
          have V8_eq := hV8
          clear hV8
          clear r7_r r7_s r7_m l7
          have q8_z : RS V8 68 mc 5 A n q zr := by rw [← V8_eq]; exact g8_z
          clear g8_z hr
          clear V8_eq
          go_wp2_with fail
          rw [HV8.out]
          have x_r0 : V8.cell? ⟨w.heap.size + 1 + 1, 0, none⟩ = some (.int .u8 zme) := CB.cell nV8 0
          have x_r1 : V8.cell? ⟨w.heap.size + 1 + 1, 1, none⟩ = some (.int .i64 zep) := CB.cell nV8 1
          have x_r2 : V8.cell? ⟨w.heap.size + 1 + 1, 2, none⟩ = some (.int .i64 zst) := CB.cell nV8 2
          have x_r3 : V8.cell? ⟨w.heap.size + 1 + 1, 3, none⟩ = some (.int .u8 zto) := CB.cell nV8 3
          have x_r4 : V8.cell? ⟨w.heap.size + 1 + 1, 4, none⟩ = some (.string zcg) := CB.cell nV8 4
          have x_r5 : V8.cell? ⟨w.heap.size + 1 + 1, 5, none⟩ = some (.bool zkp) := CB.cell nV8 5
          exact bodyPost_ret (v := .tuple #[.agg #[.int .u8 zme, .int .i64 zep, .int .i64 zst, .int .u8 zto, .string zcg, .bool zkp], .slice A n q, .int .i64 (ze : Int)]) (by simp [results, Try.results24, go_sem, x_r0, x_r1, x_r2, x_r3, x_r4, x_r5]) rfl (HPost.mk' zme zep zst zto zcg zkp ze _ H.out (q8_z) oV8)
        have hk2 := hk
        clear hk
        by_cases hk : kd = 3
        · skip
          have O1 : ∀ W, Calls Try.prog 49 #[.agg #[.int .u8 me, .int .i64 ep, .int .i64 st, .int .u8 to, .string cg, .bool kp], .agg #[.int .i64 kd, .int .u8 fr, .int .u8 t, .int .i64 e, .string mg]] W (fun r w' => ∃ A n q, r = .returned (.tuple #[.agg #[.int .u8 zme, .int .i64 zep, .int .i64 zst, .int .u8 zto, .string zcg, .bool zkp], .slice A n q, .int .i64 (ze : Int)]) ∧ RS w' 68 mc 5 A n q zr ∧ Below W.heap.size W w') := fun W => by
            have := hgive_c me ep st to cg kp kd fr t e mg W hs hm
            rw [if_neg hk2, if_pos hk, hd] at hok
            rw [← hok] at this
            exact this
          have k1 : (kd == 1) = false := by simp [hk]
          have k2 : (kd == 2) = false := by simp [hk]
          have k3 : (kd == 3) = true := by simp [hk]
          clear hR hM hs hm htm hok hd hkd hk
          obtain ⟨W1, hW1⟩ : ∃ V, ((w.alloc (.cells #[.int .u8 me, .int .i64 ep, .int .i64 st, .int .u8 to, .string cg, .bool kp] 45)).alloc (.cells #[.int .i64 kd, .int .u8 fr, .int .u8 t, .int .i64 e, .string mg] 68)).alloc (.cells #[.int .u8 0, .int .i64 0, .int .i64 0, .int .u8 0, .string ⟨#[]⟩, .bool false] 45) = V := ⟨_, rfl⟩
          have nW1_s : CB W1 (w.heap.size) 45 #[.int .u8 me, .int .i64 ep, .int .i64 st, .int .u8 to, .string cg, .bool kp] := by
            rw [← hW1]
            have := (((CB.new w 45 #[.int .u8 me, .int .i64 ep, .int .i64 st, .int .u8 to, .string cg, .bool kp]).alloc (.cells #[.int .i64 kd, .int .u8 fr, .int .u8 t, .int .i64 e, .string mg] 68)).alloc (.cells #[.int .u8 0, .int .i64 0, .int .i64 0, .int .u8 0, .string ⟨#[]⟩, .bool false] 45))
            simpa using this
          have nW1_m : CB W1 (w.heap.size + 1) 68 #[.int .i64 kd, .int .u8 fr, .int .u8 t, .int .i64 e, .string mg] := by
            rw [← hW1]
            have := ((CB.new (w.alloc (.cells #[.int .u8 me, .int .i64 ep, .int .i64 st, .int .u8 to, .string cg, .bool kp] 45)) 68 #[.int .i64 kd, .int .u8 fr, .int .u8 t, .int .i64 e, .string mg]).alloc (.cells #[.int .u8 0, .int .i64 0, .int .i64 0, .int .u8 0, .string ⟨#[]⟩, .bool false] 45))
            simpa using this
          have nW1_r : CB W1 (w.heap.size + 1 + 1) 45 #[.int .u8 0, .int .i64 0, .int .i64 0, .int .u8 0, .string ⟨#[]⟩, .bool false] := by
            rw [← hW1]
            have := (CB.new ((w.alloc (.cells #[.int .u8 me, .int .i64 ep, .int .i64 st, .int .u8 to, .string cg, .bool kp] 45)).alloc (.cells #[.int .i64 kd, .int .u8 fr, .int .u8 t, .int .i64 e, .string mg] 68)) 45 #[.int .u8 0, .int .i64 0, .int .i64 0, .int .u8 0, .string ⟨#[]⟩, .bool false])
            simpa using this
          have neW1_01 : w.heap.size ≠ w.heap.size + 1 := by omega
          have neW1_02 : w.heap.size ≠ w.heap.size + 1 + 1 := by omega
          have neW1_12 : w.heap.size + 1 ≠ w.heap.size + 1 + 1 := by omega
          have lW1 : Below w.heap.size w W1 := by rw [← hW1]; exact le_tr (le_tr (le_al _ _) (le_al _ _)) (le_al _ _)
          have HW1 := Lib.hid hW1
          clear hW1
          go_enter Try.func24, Try.ntmps24
          go_wp2_with fail
          rw [HW1.out]
          refine (R1 _).mono ?_
          rintro e w2 ⟨rfl, b2⟩
          have r3_s := le_on nW1_s b2
          have r3_m := le_on nW1_m b2
          have r3_r := le_on nW1_r b2
          have l3 := le_tr lW1 b2
          clear nW1_s nW1_m nW1_r lW1
          clear b2
          have f3_s0 : w2.cell? ⟨w.heap.size, 0, none⟩ = some (.int .u8 me) := CB.cell r3_s 0
          have f3_s1 : w2.cell? ⟨w.heap.size, 1, none⟩ = some (.int .i64 ep) := CB.cell r3_s 1
          have f3_s2 : w2.cell? ⟨w.heap.size, 2, none⟩ = some (.int .i64 st) := CB.cell r3_s 2
          have f3_s3 : w2.cell? ⟨w.heap.size, 3, none⟩ = some (.int .u8 to) := CB.cell r3_s 3
          have f3_s4 : w2.cell? ⟨w.heap.size, 4, none⟩ = some (.string cg) := CB.cell r3_s 4
          have f3_s5 : w2.cell? ⟨w.heap.size, 5, none⟩ = some (.bool kp) := CB.cell r3_s 5
          have f3_m0 : w2.cell? ⟨w.heap.size + 1, 0, none⟩ = some (.int .i64 kd) := CB.cell r3_m 0
          have f3_m1 : w2.cell? ⟨w.heap.size + 1, 1, none⟩ = some (.int .u8 fr) := CB.cell r3_m 1
          have f3_m2 : w2.cell? ⟨w.heap.size + 1, 2, none⟩ = some (.int .u8 t) := CB.cell r3_m 2
          have f3_m3 : w2.cell? ⟨w.heap.size + 1, 3, none⟩ = some (.int .i64 e) := CB.cell r3_m 3
          have f3_m4 : w2.cell? ⟨w.heap.size + 1, 4, none⟩ = some (.string mg) := CB.cell r3_m 4
          go_wp2_with fail
          refine (M1 _).mono ?_
          rintro e w4 ⟨rfl, b4⟩
          clear f3_s0 f3_s1 f3_s2 f3_s3 f3_s4 f3_s5 f3_m0 f3_m1 f3_m2 f3_m3 f3_m4
          have r5_s := le_on r3_s b4
          have r5_m := le_on r3_m b4
          have r5_r := le_on r3_r b4
          have l5 := le_tr l3 b4
          clear r3_s r3_m r3_r l3
          clear b4
          have f5_s0 : w4.cell? ⟨w.heap.size, 0, none⟩ = some (.int .u8 me) := CB.cell r5_s 0
          have f5_s1 : w4.cell? ⟨w.heap.size, 1, none⟩ = some (.int .i64 ep) := CB.cell r5_s 1
          have f5_s2 : w4.cell? ⟨w.heap.size, 2, none⟩ = some (.int .i64 st) := CB.cell r5_s 2
          have f5_s3 : w4.cell? ⟨w.heap.size, 3, none⟩ = some (.int .u8 to) := CB.cell r5_s 3
          have f5_s4 : w4.cell? ⟨w.heap.size, 4, none⟩ = some (.string cg) := CB.cell r5_s 4
          have f5_s5 : w4.cell? ⟨w.heap.size, 5, none⟩ = some (.bool kp) := CB.cell r5_s 5
          have f5_m0 : w4.cell? ⟨w.heap.size + 1, 0, none⟩ = some (.int .i64 kd) := CB.cell r5_m 0
          have f5_m1 : w4.cell? ⟨w.heap.size + 1, 1, none⟩ = some (.int .u8 fr) := CB.cell r5_m 1
          have f5_m2 : w4.cell? ⟨w.heap.size + 1, 2, none⟩ = some (.int .u8 t) := CB.cell r5_m 2
          have f5_m3 : w4.cell? ⟨w.heap.size + 1, 3, none⟩ = some (.int .i64 e) := CB.cell r5_m 3
          have f5_m4 : w4.cell? ⟨w.heap.size + 1, 4, none⟩ = some (.string mg) := CB.cell r5_m 4
          go_wp2_with fail
          refine (O1 _).mono ?_
          rintro e w6 ⟨A, n, q, rfl, hr, b6⟩
          clear f5_s0 f5_s1 f5_s2 f5_s3 f5_s4 f5_s5 f5_m0 f5_m1 f5_m2 f5_m3 f5_m4
          have r7_s := le_on r5_s b6
          have r7_m := le_on r5_m b6
          have r7_r := le_on r5_r b6
          have l7 := le_tr l5 b6
          clear r5_s r5_m r5_r l5
          clear b6
          have g8_z := (RS.far (RS.far (RS.far (RS.far (RS.far (RS.far hr r7_r (by decide) 0 (.int .u8 zme)) (CB.put r7_r 0 (.int .u8 zme)) (by decide) 1 (.int .i64 zep)) (CB.put (CB.put r7_r 0 (.int .u8 zme)) 1 (.int .i64 zep)) (by decide) 2 (.int .i64 zst)) (CB.put (CB.put (CB.put r7_r 0 (.int .u8 zme)) 1 (.int .i64 zep)) 2 (.int .i64 zst)) (by decide) 3 (.int .u8 zto)) (CB.put (CB.put (CB.put (CB.put r7_r 0 (.int .u8 zme)) 1 (.int .i64 zep)) 2 (.int .i64 zst)) 3 (.int .u8 zto)) (by decide) 4 (.string zcg)) (CB.put (CB.put (CB.put (CB.put (CB.put r7_r 0 (.int .u8 zme)) 1 (.int .i64 zep)) 2 (.int .i64 zst)) 3 (.int .u8 zto)) 4 (.string zcg)) (by decide) 5 (.bool zkp))
          have f7_r0 : w6.cell? ⟨w.heap.size + 1 + 1, 0, none⟩ = some (.int .u8 0) := CB.cell r7_r 0
          have z7_r0 : w6.frozen? ⟨w.heap.size + 1 + 1, 0, none⟩ = false := CB.frozen r7_r 0
          have f7_r1 : w6.cell? ⟨w.heap.size + 1 + 1, 1, none⟩ = some (.int .i64 0) := CB.cell r7_r 1
          have z7_r1 : w6.frozen? ⟨w.heap.size + 1 + 1, 1, none⟩ = false := CB.frozen r7_r 1
          have f7_r2 : w6.cell? ⟨w.heap.size + 1 + 1, 2, none⟩ = some (.int .i64 0) := CB.cell r7_r 2
          have z7_r2 : w6.frozen? ⟨w.heap.size + 1 + 1, 2, none⟩ = false := CB.frozen r7_r 2
          have f7_r3 : w6.cell? ⟨w.heap.size + 1 + 1, 3, none⟩ = some (.int .u8 0) := CB.cell r7_r 3
          have z7_r3 : w6.frozen? ⟨w.heap.size + 1 + 1, 3, none⟩ = false := CB.frozen r7_r 3
          have f7_r4 : w6.cell? ⟨w.heap.size + 1 + 1, 4, none⟩ = some (.string ⟨#[]⟩) := CB.cell r7_r 4
          have z7_r4 : w6.frozen? ⟨w.heap.size + 1 + 1, 4, none⟩ = false := CB.frozen r7_r 4
          have f7_r5 : w6.cell? ⟨w.heap.size + 1 + 1, 5, none⟩ = some (.bool false) := CB.cell r7_r 5
          have z7_r5 : w6.frozen? ⟨w.heap.size + 1 + 1, 5, none⟩ = false := CB.frozen r7_r 5
          obtain ⟨V8, hV8⟩ : ∃ V, (((((w6.setCell ⟨w.heap.size + 1 + 1, 0, none⟩ (.int .u8 zme)).setCell ⟨w.heap.size + 1 + 1, 1, none⟩ (.int .i64 zep)).setCell ⟨w.heap.size + 1 + 1, 2, none⟩ (.int .i64 zst)).setCell ⟨w.heap.size + 1 + 1, 3, none⟩ (.int .u8 zto)).setCell ⟨w.heap.size + 1 + 1, 4, none⟩ (.string zcg)).setCell ⟨w.heap.size + 1 + 1, 5, none⟩ (.bool zkp) = V := ⟨_, rfl⟩
          have nV8 : CB V8 (w.heap.size + 1 + 1) 45 #[.int .u8 zme, .int .i64 zep, .int .i64 zst, .int .u8 zto, .string zcg, .bool zkp] := by rw [← hV8]; exact cb_cast (CB.put (CB.put (CB.put (CB.put (CB.put (CB.put r7_r 0 (.int .u8 zme)) 1 (.int .i64 zep)) 2 (.int .i64 zst)) 3 (.int .u8 zto)) 4 (.string zcg)) 5 (.bool zkp)) (by kernel_rfl)
          have mV8_s : CB V8 (w.heap.size) 45 #[.int .u8 me, .int .i64 ep, .int .i64 st, .int .u8 to, .string cg, .bool kp] := by rw [← hV8]; exact (CB.far (CB.far (CB.far (CB.far (CB.far (CB.far r7_s (p := ⟨w.heap.size + 1 + 1, 0, none⟩) neW1_02 (.int .u8 zme)) (p := ⟨w.heap.size + 1 + 1, 1, none⟩) neW1_02 (.int .i64 zep)) (p := ⟨w.heap.size + 1 + 1, 2, none⟩) neW1_02 (.int .i64 zst)) (p := ⟨w.heap.size + 1 + 1, 3, none⟩) neW1_02 (.int .u8 zto)) (p := ⟨w.heap.size + 1 + 1, 4, none⟩) neW1_02 (.string zcg)) (p := ⟨w.heap.size + 1 + 1, 5, none⟩) neW1_02 (.bool zkp))
          have mV8_m : CB V8 (w.heap.size + 1) 68 #[.int .i64 kd, .int .u8 fr, .int .u8 t, .int .i64 e, .string mg] := by rw [← hV8]; exact (CB.far (CB.far (CB.far (CB.far (CB.far (CB.far r7_m (p := ⟨w.heap.size + 1 + 1, 0, none⟩) neW1_12 (.int .u8 zme)) (p := ⟨w.heap.size + 1 + 1, 1, none⟩) neW1_12 (.int .i64 zep)) (p := ⟨w.heap.size + 1 + 1, 2, none⟩) neW1_12 (.int .i64 zst)) (p := ⟨w.heap.size + 1 + 1, 3, none⟩) neW1_12 (.int .u8 zto)) (p := ⟨w.heap.size + 1 + 1, 4, none⟩) neW1_12 (.string zcg)) (p := ⟨w.heap.size + 1 + 1, 5, none⟩) neW1_12 (.bool zkp))
          have oV8 := (Below.setCell (Below.setCell (Below.setCell (Below.setCell (Below.setCell (Below.setCell l7 (p := ⟨w.heap.size + 1 + 1, 0, none⟩) (by dsimp only; omega) (.int .u8 zme)) (p := ⟨w.heap.size + 1 + 1, 1, none⟩) (by dsimp only; omega) (.int .i64 zep)) (p := ⟨w.heap.size + 1 + 1, 2, none⟩) (by dsimp only; omega) (.int .i64 zst)) (p := ⟨w.heap.size + 1 + 1, 3, none⟩) (by dsimp only; omega) (.int .u8 zto)) (p := ⟨w.heap.size + 1 + 1, 4, none⟩) (by dsimp only; omega) (.string zcg)) (p := ⟨w.heap.size + 1 + 1, 5, none⟩) (by dsimp only; omega) (.bool zkp))
          rw [hV8] at oV8
          have HV8 := Lib.hid hV8
          have V8_eq := hV8
          clear hV8
          clear r7_r r7_s r7_m l7
          have q8_z : RS V8 68 mc 5 A n q zr := by rw [← V8_eq]; exact g8_z
          clear g8_z hr
          clear V8_eq
          go_wp2_with fail
          rw [HV8.out]
          have x_r0 : V8.cell? ⟨w.heap.size + 1 + 1, 0, none⟩ = some (.int .u8 zme) := CB.cell nV8 0
          have x_r1 : V8.cell? ⟨w.heap.size + 1 + 1, 1, none⟩ = some (.int .i64 zep) := CB.cell nV8 1
          have x_r2 : V8.cell? ⟨w.heap.size + 1 + 1, 2, none⟩ = some (.int .i64 zst) := CB.cell nV8 2
          have x_r3 : V8.cell? ⟨w.heap.size + 1 + 1, 3, none⟩ = some (.int .u8 zto) := CB.cell nV8 3
          have x_r4 : V8.cell? ⟨w.heap.size + 1 + 1, 4, none⟩ = some (.string zcg) := CB.cell nV8 4
          have x_r5 : V8.cell? ⟨w.heap.size + 1 + 1, 5, none⟩ = some (.bool zkp) := CB.cell nV8 5
          exact bodyPost_ret (v := .tuple #[.agg #[.int .u8 zme, .int .i64 zep, .int .i64 zst, .int .u8 zto, .string zcg, .bool zkp], .slice A n q, .int .i64 (ze : Int)]) (by simp [results, Try.results24, go_sem, x_r0, x_r1, x_r2, x_r3, x_r4, x_r5]) rfl (HPost.mk' zme zep zst zto zcg zkp ze _ H.out (q8_z) oV8)
        have hk3 := hk
        clear hk
        by_cases hk : kd = 1
        · skip
          have O1 : ∀ W, Calls Try.prog 47 #[.agg #[.int .u8 me, .int .i64 ep, .int .i64 st, .int .u8 to, .string cg, .bool kp], .agg #[.int .i64 kd, .int .u8 fr, .int .u8 t, .int .i64 e, .string mg]] W (fun r w' => ∃ A n q, r = .returned (.tuple #[.agg #[.int .u8 zme, .int .i64 zep, .int .i64 zst, .int .u8 zto, .string zcg, .bool zkp], .slice A n q, .int .i64 (ze : Int)]) ∧ RS w' 68 mc 5 A n q zr ∧ Below W.heap.size W w') := fun W => by
            have := hoffer_c me ep st to cg kp kd fr t e mg W
            rw [if_neg hk2, if_neg hk3, if_pos hk, hd] at hok
            rw [← hok] at this
            exact this
          have k1 : (kd == 1) = true := by simp [hk]
          have k2 : (kd == 2) = false := by simp [hk]
          have k3 : (kd == 3) = false := by simp [hk]
          clear hR hM hs hm htm hok hd hkd hk
          obtain ⟨W1, hW1⟩ : ∃ V, ((w.alloc (.cells #[.int .u8 me, .int .i64 ep, .int .i64 st, .int .u8 to, .string cg, .bool kp] 45)).alloc (.cells #[.int .i64 kd, .int .u8 fr, .int .u8 t, .int .i64 e, .string mg] 68)).alloc (.cells #[.int .u8 0, .int .i64 0, .int .i64 0, .int .u8 0, .string ⟨#[]⟩, .bool false] 45) = V := ⟨_, rfl⟩
          have nW1_s : CB W1 (w.heap.size) 45 #[.int .u8 me, .int .i64 ep, .int .i64 st, .int .u8 to, .string cg, .bool kp] := by
            rw [← hW1]
            have := (((CB.new w 45 #[.int .u8 me, .int .i64 ep, .int .i64 st, .int .u8 to, .string cg, .bool kp]).alloc (.cells #[.int .i64 kd, .int .u8 fr, .int .u8 t, .int .i64 e, .string mg] 68)).alloc (.cells #[.int .u8 0, .int .i64 0, .int .i64 0, .int .u8 0, .string ⟨#[]⟩, .bool false] 45))
            simpa using this
          have nW1_m : CB W1 (w.heap.size + 1) 68 #[.int .i64 kd, .int .u8 fr, .int .u8 t, .int .i64 e, .string mg] := by
            rw [← hW1]
            have := ((CB.new (w.alloc (.cells #[.int .u8 me, .int .i64 ep, .int .i64 st, .int .u8 to, .string cg, .bool kp] 45)) 68 #[.int .i64 kd, .int .u8 fr, .int .u8 t, .int .i64 e, .string mg]).alloc (.cells #[.int .u8 0, .int .i64 0, .int .i64 0, .int .u8 0, .string ⟨#[]⟩, .bool false] 45))
            simpa using this
          have nW1_r : CB W1 (w.heap.size + 1 + 1) 45 #[.int .u8 0, .int .i64 0, .int .i64 0, .int .u8 0, .string ⟨#[]⟩, .bool false] := by
            rw [← hW1]
            have := (CB.new ((w.alloc (.cells #[.int .u8 me, .int .i64 ep, .int .i64 st, .int .u8 to, .string cg, .bool kp] 45)).alloc (.cells #[.int .i64 kd, .int .u8 fr, .int .u8 t, .int .i64 e, .string mg] 68)) 45 #[.int .u8 0, .int .i64 0, .int .i64 0, .int .u8 0, .string ⟨#[]⟩, .bool false])
            simpa using this
          have neW1_01 : w.heap.size ≠ w.heap.size + 1 := by omega
          have neW1_02 : w.heap.size ≠ w.heap.size + 1 + 1 := by omega
          have neW1_12 : w.heap.size + 1 ≠ w.heap.size + 1 + 1 := by omega
          have lW1 : Below w.heap.size w W1 := by rw [← hW1]; exact le_tr (le_tr (le_al _ _) (le_al _ _)) (le_al _ _)
          have HW1 := Lib.hid hW1
          clear hW1
          go_enter Try.func24, Try.ntmps24
          go_wp2_with fail
          rw [HW1.out]
          refine (R1 _).mono ?_
          rintro e w2 ⟨rfl, b2⟩
          have r3_s := le_on nW1_s b2
          have r3_m := le_on nW1_m b2
          have r3_r := le_on nW1_r b2
          have l3 := le_tr lW1 b2
          clear nW1_s nW1_m nW1_r lW1
          clear b2
          have f3_s0 : w2.cell? ⟨w.heap.size, 0, none⟩ = some (.int .u8 me) := CB.cell r3_s 0
          have f3_s1 : w2.cell? ⟨w.heap.size, 1, none⟩ = some (.int .i64 ep) := CB.cell r3_s 1
          have f3_s2 : w2.cell? ⟨w.heap.size, 2, none⟩ = some (.int .i64 st) := CB.cell r3_s 2
          have f3_s3 : w2.cell? ⟨w.heap.size, 3, none⟩ = some (.int .u8 to) := CB.cell r3_s 3
          have f3_s4 : w2.cell? ⟨w.heap.size, 4, none⟩ = some (.string cg) := CB.cell r3_s 4
          have f3_s5 : w2.cell? ⟨w.heap.size, 5, none⟩ = some (.bool kp) := CB.cell r3_s 5
          have f3_m0 : w2.cell? ⟨w.heap.size + 1, 0, none⟩ = some (.int .i64 kd) := CB.cell r3_m 0
          have f3_m1 : w2.cell? ⟨w.heap.size + 1, 1, none⟩ = some (.int .u8 fr) := CB.cell r3_m 1
          have f3_m2 : w2.cell? ⟨w.heap.size + 1, 2, none⟩ = some (.int .u8 t) := CB.cell r3_m 2
          have f3_m3 : w2.cell? ⟨w.heap.size + 1, 3, none⟩ = some (.int .i64 e) := CB.cell r3_m 3
          have f3_m4 : w2.cell? ⟨w.heap.size + 1, 4, none⟩ = some (.string mg) := CB.cell r3_m 4
          go_wp2_with fail
          refine (M1 _).mono ?_
          rintro e w4 ⟨rfl, b4⟩
          clear f3_s0 f3_s1 f3_s2 f3_s3 f3_s4 f3_s5 f3_m0 f3_m1 f3_m2 f3_m3 f3_m4
          have r5_s := le_on r3_s b4
          have r5_m := le_on r3_m b4
          have r5_r := le_on r3_r b4
          have l5 := le_tr l3 b4
          clear r3_s r3_m r3_r l3
          clear b4
          have f5_s0 : w4.cell? ⟨w.heap.size, 0, none⟩ = some (.int .u8 me) := CB.cell r5_s 0
          have f5_s1 : w4.cell? ⟨w.heap.size, 1, none⟩ = some (.int .i64 ep) := CB.cell r5_s 1
          have f5_s2 : w4.cell? ⟨w.heap.size, 2, none⟩ = some (.int .i64 st) := CB.cell r5_s 2
          have f5_s3 : w4.cell? ⟨w.heap.size, 3, none⟩ = some (.int .u8 to) := CB.cell r5_s 3
          have f5_s4 : w4.cell? ⟨w.heap.size, 4, none⟩ = some (.string cg) := CB.cell r5_s 4
          have f5_s5 : w4.cell? ⟨w.heap.size, 5, none⟩ = some (.bool kp) := CB.cell r5_s 5
          have f5_m0 : w4.cell? ⟨w.heap.size + 1, 0, none⟩ = some (.int .i64 kd) := CB.cell r5_m 0
          have f5_m1 : w4.cell? ⟨w.heap.size + 1, 1, none⟩ = some (.int .u8 fr) := CB.cell r5_m 1
          have f5_m2 : w4.cell? ⟨w.heap.size + 1, 2, none⟩ = some (.int .u8 t) := CB.cell r5_m 2
          have f5_m3 : w4.cell? ⟨w.heap.size + 1, 3, none⟩ = some (.int .i64 e) := CB.cell r5_m 3
          have f5_m4 : w4.cell? ⟨w.heap.size + 1, 4, none⟩ = some (.string mg) := CB.cell r5_m 4
          go_wp2_with fail
          refine (O1 _).mono ?_
          rintro e w6 ⟨A, n, q, rfl, hr, b6⟩
          clear f5_s0 f5_s1 f5_s2 f5_s3 f5_s4 f5_s5 f5_m0 f5_m1 f5_m2 f5_m3 f5_m4
          have r7_s := le_on r5_s b6
          have r7_m := le_on r5_m b6
          have r7_r := le_on r5_r b6
          have l7 := le_tr l5 b6
          clear r5_s r5_m r5_r l5
          clear b6
          have g8_z := (RS.far (RS.far (RS.far (RS.far (RS.far (RS.far hr r7_r (by decide) 0 (.int .u8 zme)) (CB.put r7_r 0 (.int .u8 zme)) (by decide) 1 (.int .i64 zep)) (CB.put (CB.put r7_r 0 (.int .u8 zme)) 1 (.int .i64 zep)) (by decide) 2 (.int .i64 zst)) (CB.put (CB.put (CB.put r7_r 0 (.int .u8 zme)) 1 (.int .i64 zep)) 2 (.int .i64 zst)) (by decide) 3 (.int .u8 zto)) (CB.put (CB.put (CB.put (CB.put r7_r 0 (.int .u8 zme)) 1 (.int .i64 zep)) 2 (.int .i64 zst)) 3 (.int .u8 zto)) (by decide) 4 (.string zcg)) (CB.put (CB.put (CB.put (CB.put (CB.put r7_r 0 (.int .u8 zme)) 1 (.int .i64 zep)) 2 (.int .i64 zst)) 3 (.int .u8 zto)) 4 (.string zcg)) (by decide) 5 (.bool zkp))
          have f7_r0 : w6.cell? ⟨w.heap.size + 1 + 1, 0, none⟩ = some (.int .u8 0) := CB.cell r7_r 0
          have z7_r0 : w6.frozen? ⟨w.heap.size + 1 + 1, 0, none⟩ = false := CB.frozen r7_r 0
          have f7_r1 : w6.cell? ⟨w.heap.size + 1 + 1, 1, none⟩ = some (.int .i64 0) := CB.cell r7_r 1
          have z7_r1 : w6.frozen? ⟨w.heap.size + 1 + 1, 1, none⟩ = false := CB.frozen r7_r 1
          have f7_r2 : w6.cell? ⟨w.heap.size + 1 + 1, 2, none⟩ = some (.int .i64 0) := CB.cell r7_r 2
          have z7_r2 : w6.frozen? ⟨w.heap.size + 1 + 1, 2, none⟩ = false := CB.frozen r7_r 2
          have f7_r3 : w6.cell? ⟨w.heap.size + 1 + 1, 3, none⟩ = some (.int .u8 0) := CB.cell r7_r 3
          have z7_r3 : w6.frozen? ⟨w.heap.size + 1 + 1, 3, none⟩ = false := CB.frozen r7_r 3
          have f7_r4 : w6.cell? ⟨w.heap.size + 1 + 1, 4, none⟩ = some (.string ⟨#[]⟩) := CB.cell r7_r 4
          have z7_r4 : w6.frozen? ⟨w.heap.size + 1 + 1, 4, none⟩ = false := CB.frozen r7_r 4
          have f7_r5 : w6.cell? ⟨w.heap.size + 1 + 1, 5, none⟩ = some (.bool false) := CB.cell r7_r 5
          have z7_r5 : w6.frozen? ⟨w.heap.size + 1 + 1, 5, none⟩ = false := CB.frozen r7_r 5
          obtain ⟨V8, hV8⟩ : ∃ V, (((((w6.setCell ⟨w.heap.size + 1 + 1, 0, none⟩ (.int .u8 zme)).setCell ⟨w.heap.size + 1 + 1, 1, none⟩ (.int .i64 zep)).setCell ⟨w.heap.size + 1 + 1, 2, none⟩ (.int .i64 zst)).setCell ⟨w.heap.size + 1 + 1, 3, none⟩ (.int .u8 zto)).setCell ⟨w.heap.size + 1 + 1, 4, none⟩ (.string zcg)).setCell ⟨w.heap.size + 1 + 1, 5, none⟩ (.bool zkp) = V := ⟨_, rfl⟩
          have nV8 : CB V8 (w.heap.size + 1 + 1) 45 #[.int .u8 zme, .int .i64 zep, .int .i64 zst, .int .u8 zto, .string zcg, .bool zkp] := by rw [← hV8]; exact cb_cast (CB.put (CB.put (CB.put (CB.put (CB.put (CB.put r7_r 0 (.int .u8 zme)) 1 (.int .i64 zep)) 2 (.int .i64 zst)) 3 (.int .u8 zto)) 4 (.string zcg)) 5 (.bool zkp)) (by kernel_rfl)
          have mV8_s : CB V8 (w.heap.size) 45 #[.int .u8 me, .int .i64 ep, .int .i64 st, .int .u8 to, .string cg, .bool kp] := by rw [← hV8]; exact (CB.far (CB.far (CB.far (CB.far (CB.far (CB.far r7_s (p := ⟨w.heap.size + 1 + 1, 0, none⟩) neW1_02 (.int .u8 zme)) (p := ⟨w.heap.size + 1 + 1, 1, none⟩) neW1_02 (.int .i64 zep)) (p := ⟨w.heap.size + 1 + 1, 2, none⟩) neW1_02 (.int .i64 zst)) (p := ⟨w.heap.size + 1 + 1, 3, none⟩) neW1_02 (.int .u8 zto)) (p := ⟨w.heap.size + 1 + 1, 4, none⟩) neW1_02 (.string zcg)) (p := ⟨w.heap.size + 1 + 1, 5, none⟩) neW1_02 (.bool zkp))
          have mV8_m : CB V8 (w.heap.size + 1) 68 #[.int .i64 kd, .int .u8 fr, .int .u8 t, .int .i64 e, .string mg] := by rw [← hV8]; exact (CB.far (CB.far (CB.far (CB.far (CB.far (CB.far r7_m (p := ⟨w.heap.size + 1 + 1, 0, none⟩) neW1_12 (.int .u8 zme)) (p := ⟨w.heap.size + 1 + 1, 1, none⟩) neW1_12 (.int .i64 zep)) (p := ⟨w.heap.size + 1 + 1, 2, none⟩) neW1_12 (.int .i64 zst)) (p := ⟨w.heap.size + 1 + 1, 3, none⟩) neW1_12 (.int .u8 zto)) (p := ⟨w.heap.size + 1 + 1, 4, none⟩) neW1_12 (.string zcg)) (p := ⟨w.heap.size + 1 + 1, 5, none⟩) neW1_12 (.bool zkp))
          have oV8 := (Below.setCell (Below.setCell (Below.setCell (Below.setCell (Below.setCell (Below.setCell l7 (p := ⟨w.heap.size + 1 + 1, 0, none⟩) (by dsimp only; omega) (.int .u8 zme)) (p := ⟨w.heap.size + 1 + 1, 1, none⟩) (by dsimp only; omega) (.int .i64 zep)) (p := ⟨w.heap.size + 1 + 1, 2, none⟩) (by dsimp only; omega) (.int .i64 zst)) (p := ⟨w.heap.size + 1 + 1, 3, none⟩) (by dsimp only; omega) (.int .u8 zto)) (p := ⟨w.heap.size + 1 + 1, 4, none⟩) (by dsimp only; omega) (.string zcg)) (p := ⟨w.heap.size + 1 + 1, 5, none⟩) (by dsimp only; omega) (.bool zkp))
          rw [hV8] at oV8
          have HV8 := Lib.hid hV8
          have V8_eq := hV8
          clear hV8
          clear r7_r r7_s r7_m l7
          have q8_z : RS V8 68 mc 5 A n q zr := by rw [← V8_eq]; exact g8_z
          clear g8_z hr
          clear V8_eq
          go_wp2_with fail
          rw [HV8.out]
          have x_r0 : V8.cell? ⟨w.heap.size + 1 + 1, 0, none⟩ = some (.int .u8 zme) := CB.cell nV8 0
          have x_r1 : V8.cell? ⟨w.heap.size + 1 + 1, 1, none⟩ = some (.int .i64 zep) := CB.cell nV8 1
          have x_r2 : V8.cell? ⟨w.heap.size + 1 + 1, 2, none⟩ = some (.int .i64 zst) := CB.cell nV8 2
          have x_r3 : V8.cell? ⟨w.heap.size + 1 + 1, 3, none⟩ = some (.int .u8 zto) := CB.cell nV8 3
          have x_r4 : V8.cell? ⟨w.heap.size + 1 + 1, 4, none⟩ = some (.string zcg) := CB.cell nV8 4
          have x_r5 : V8.cell? ⟨w.heap.size + 1 + 1, 5, none⟩ = some (.bool zkp) := CB.cell nV8 5
          exact bodyPost_ret (v := .tuple #[.agg #[.int .u8 zme, .int .i64 zep, .int .i64 zst, .int .u8 zto, .string zcg, .bool zkp], .slice A n q, .int .i64 (ze : Int)]) (by simp [results, Try.results24, go_sem, x_r0, x_r1, x_r2, x_r3, x_r4, x_r5]) rfl (HPost.mk' zme zep zst zto zcg zkp ze _ H.out (q8_z) oV8)
        have hk1 := hk
        clear hk
        have hk : kd = 4 := by omega
        have O1 : ∀ W, Calls Try.prog 50 #[.agg #[.int .u8 me, .int .i64 ep, .int .i64 st, .int .u8 to, .string cg, .bool kp], .agg #[.int .i64 kd, .int .u8 fr, .int .u8 t, .int .i64 e, .string mg]] W (fun r w' => ∃ A n q, r = .returned (.tuple #[.agg #[.int .u8 zme, .int .i64 zep, .int .i64 zst, .int .u8 zto, .string zcg, .bool zkp], .slice A n q, .int .i64 (ze : Int)]) ∧ RS w' 68 mc 5 A n q zr ∧ Below W.heap.size W w') := fun W => by
          have := hgot_c me ep st to cg kp kd fr t e mg W hs hm
          rw [if_neg hk2, if_neg hk3, if_neg hk1, hd] at hok
          rw [← hok] at this
          exact this
        have k1 : (kd == 1) = false := by simp [hk]
        have k2 : (kd == 2) = false := by simp [hk]
        have k3 : (kd == 3) = false := by simp [hk]
        clear hR hM hs hm htm hok hd hkd hk
        obtain ⟨W1, hW1⟩ : ∃ V, ((w.alloc (.cells #[.int .u8 me, .int .i64 ep, .int .i64 st, .int .u8 to, .string cg, .bool kp] 45)).alloc (.cells #[.int .i64 kd, .int .u8 fr, .int .u8 t, .int .i64 e, .string mg] 68)).alloc (.cells #[.int .u8 0, .int .i64 0, .int .i64 0, .int .u8 0, .string ⟨#[]⟩, .bool false] 45) = V := ⟨_, rfl⟩
        have nW1_s : CB W1 (w.heap.size) 45 #[.int .u8 me, .int .i64 ep, .int .i64 st, .int .u8 to, .string cg, .bool kp] := by
          rw [← hW1]
          have := (((CB.new w 45 #[.int .u8 me, .int .i64 ep, .int .i64 st, .int .u8 to, .string cg, .bool kp]).alloc (.cells #[.int .i64 kd, .int .u8 fr, .int .u8 t, .int .i64 e, .string mg] 68)).alloc (.cells #[.int .u8 0, .int .i64 0, .int .i64 0, .int .u8 0, .string ⟨#[]⟩, .bool false] 45))
          simpa using this
        have nW1_m : CB W1 (w.heap.size + 1) 68 #[.int .i64 kd, .int .u8 fr, .int .u8 t, .int .i64 e, .string mg] := by
          rw [← hW1]
          have := ((CB.new (w.alloc (.cells #[.int .u8 me, .int .i64 ep, .int .i64 st, .int .u8 to, .string cg, .bool kp] 45)) 68 #[.int .i64 kd, .int .u8 fr, .int .u8 t, .int .i64 e, .string mg]).alloc (.cells #[.int .u8 0, .int .i64 0, .int .i64 0, .int .u8 0, .string ⟨#[]⟩, .bool false] 45))
          simpa using this
        have nW1_r : CB W1 (w.heap.size + 1 + 1) 45 #[.int .u8 0, .int .i64 0, .int .i64 0, .int .u8 0, .string ⟨#[]⟩, .bool false] := by
          rw [← hW1]
          have := (CB.new ((w.alloc (.cells #[.int .u8 me, .int .i64 ep, .int .i64 st, .int .u8 to, .string cg, .bool kp] 45)).alloc (.cells #[.int .i64 kd, .int .u8 fr, .int .u8 t, .int .i64 e, .string mg] 68)) 45 #[.int .u8 0, .int .i64 0, .int .i64 0, .int .u8 0, .string ⟨#[]⟩, .bool false])
          simpa using this
        have neW1_01 : w.heap.size ≠ w.heap.size + 1 := by omega
        have neW1_02 : w.heap.size ≠ w.heap.size + 1 + 1 := by omega
        have neW1_12 : w.heap.size + 1 ≠ w.heap.size + 1 + 1 := by omega
        have lW1 : Below w.heap.size w W1 := by rw [← hW1]; exact le_tr (le_tr (le_al _ _) (le_al _ _)) (le_al _ _)
        have HW1 := Lib.hid hW1
        clear hW1
        go_enter Try.func24, Try.ntmps24
        go_wp2_with fail
        rw [HW1.out]
        refine (R1 _).mono ?_
        rintro e w2 ⟨rfl, b2⟩
        have r3_s := le_on nW1_s b2
        have r3_m := le_on nW1_m b2
        have r3_r := le_on nW1_r b2
        have l3 := le_tr lW1 b2
        clear nW1_s nW1_m nW1_r lW1
        clear b2
        have f3_s0 : w2.cell? ⟨w.heap.size, 0, none⟩ = some (.int .u8 me) := CB.cell r3_s 0
        have f3_s1 : w2.cell? ⟨w.heap.size, 1, none⟩ = some (.int .i64 ep) := CB.cell r3_s 1
        have f3_s2 : w2.cell? ⟨w.heap.size, 2, none⟩ = some (.int .i64 st) := CB.cell r3_s 2
        have f3_s3 : w2.cell? ⟨w.heap.size, 3, none⟩ = some (.int .u8 to) := CB.cell r3_s 3
        have f3_s4 : w2.cell? ⟨w.heap.size, 4, none⟩ = some (.string cg) := CB.cell r3_s 4
        have f3_s5 : w2.cell? ⟨w.heap.size, 5, none⟩ = some (.bool kp) := CB.cell r3_s 5
        have f3_m0 : w2.cell? ⟨w.heap.size + 1, 0, none⟩ = some (.int .i64 kd) := CB.cell r3_m 0
        have f3_m1 : w2.cell? ⟨w.heap.size + 1, 1, none⟩ = some (.int .u8 fr) := CB.cell r3_m 1
        have f3_m2 : w2.cell? ⟨w.heap.size + 1, 2, none⟩ = some (.int .u8 t) := CB.cell r3_m 2
        have f3_m3 : w2.cell? ⟨w.heap.size + 1, 3, none⟩ = some (.int .i64 e) := CB.cell r3_m 3
        have f3_m4 : w2.cell? ⟨w.heap.size + 1, 4, none⟩ = some (.string mg) := CB.cell r3_m 4
        go_wp2_with fail
        refine (M1 _).mono ?_
        rintro e w4 ⟨rfl, b4⟩
        clear f3_s0 f3_s1 f3_s2 f3_s3 f3_s4 f3_s5 f3_m0 f3_m1 f3_m2 f3_m3 f3_m4
        have r5_s := le_on r3_s b4
        have r5_m := le_on r3_m b4
        have r5_r := le_on r3_r b4
        have l5 := le_tr l3 b4
        clear r3_s r3_m r3_r l3
        clear b4
        have f5_s0 : w4.cell? ⟨w.heap.size, 0, none⟩ = some (.int .u8 me) := CB.cell r5_s 0
        have f5_s1 : w4.cell? ⟨w.heap.size, 1, none⟩ = some (.int .i64 ep) := CB.cell r5_s 1
        have f5_s2 : w4.cell? ⟨w.heap.size, 2, none⟩ = some (.int .i64 st) := CB.cell r5_s 2
        have f5_s3 : w4.cell? ⟨w.heap.size, 3, none⟩ = some (.int .u8 to) := CB.cell r5_s 3
        have f5_s4 : w4.cell? ⟨w.heap.size, 4, none⟩ = some (.string cg) := CB.cell r5_s 4
        have f5_s5 : w4.cell? ⟨w.heap.size, 5, none⟩ = some (.bool kp) := CB.cell r5_s 5
        have f5_m0 : w4.cell? ⟨w.heap.size + 1, 0, none⟩ = some (.int .i64 kd) := CB.cell r5_m 0
        have f5_m1 : w4.cell? ⟨w.heap.size + 1, 1, none⟩ = some (.int .u8 fr) := CB.cell r5_m 1
        have f5_m2 : w4.cell? ⟨w.heap.size + 1, 2, none⟩ = some (.int .u8 t) := CB.cell r5_m 2
        have f5_m3 : w4.cell? ⟨w.heap.size + 1, 3, none⟩ = some (.int .i64 e) := CB.cell r5_m 3
        have f5_m4 : w4.cell? ⟨w.heap.size + 1, 4, none⟩ = some (.string mg) := CB.cell r5_m 4
        go_wp2_with fail
        refine (O1 _).mono ?_
        rintro e w6 ⟨A, n, q, rfl, hr, b6⟩
        clear f5_s0 f5_s1 f5_s2 f5_s3 f5_s4 f5_s5 f5_m0 f5_m1 f5_m2 f5_m3 f5_m4
        have r7_s := le_on r5_s b6
        have r7_m := le_on r5_m b6
        have r7_r := le_on r5_r b6
        have l7 := le_tr l5 b6
        clear r5_s r5_m r5_r l5
        clear b6
        have g8_z := (RS.far (RS.far (RS.far (RS.far (RS.far (RS.far hr r7_r (by decide) 0 (.int .u8 zme)) (CB.put r7_r 0 (.int .u8 zme)) (by decide) 1 (.int .i64 zep)) (CB.put (CB.put r7_r 0 (.int .u8 zme)) 1 (.int .i64 zep)) (by decide) 2 (.int .i64 zst)) (CB.put (CB.put (CB.put r7_r 0 (.int .u8 zme)) 1 (.int .i64 zep)) 2 (.int .i64 zst)) (by decide) 3 (.int .u8 zto)) (CB.put (CB.put (CB.put (CB.put r7_r 0 (.int .u8 zme)) 1 (.int .i64 zep)) 2 (.int .i64 zst)) 3 (.int .u8 zto)) (by decide) 4 (.string zcg)) (CB.put (CB.put (CB.put (CB.put (CB.put r7_r 0 (.int .u8 zme)) 1 (.int .i64 zep)) 2 (.int .i64 zst)) 3 (.int .u8 zto)) 4 (.string zcg)) (by decide) 5 (.bool zkp))
        have f7_r0 : w6.cell? ⟨w.heap.size + 1 + 1, 0, none⟩ = some (.int .u8 0) := CB.cell r7_r 0
        have z7_r0 : w6.frozen? ⟨w.heap.size + 1 + 1, 0, none⟩ = false := CB.frozen r7_r 0
        have f7_r1 : w6.cell? ⟨w.heap.size + 1 + 1, 1, none⟩ = some (.int .i64 0) := CB.cell r7_r 1
        have z7_r1 : w6.frozen? ⟨w.heap.size + 1 + 1, 1, none⟩ = false := CB.frozen r7_r 1
        have f7_r2 : w6.cell? ⟨w.heap.size + 1 + 1, 2, none⟩ = some (.int .i64 0) := CB.cell r7_r 2
        have z7_r2 : w6.frozen? ⟨w.heap.size + 1 + 1, 2, none⟩ = false := CB.frozen r7_r 2
        have f7_r3 : w6.cell? ⟨w.heap.size + 1 + 1, 3, none⟩ = some (.int .u8 0) := CB.cell r7_r 3
        have z7_r3 : w6.frozen? ⟨w.heap.size + 1 + 1, 3, none⟩ = false := CB.frozen r7_r 3
        have f7_r4 : w6.cell? ⟨w.heap.size + 1 + 1, 4, none⟩ = some (.string ⟨#[]⟩) := CB.cell r7_r 4
        have z7_r4 : w6.frozen? ⟨w.heap.size + 1 + 1, 4, none⟩ = false := CB.frozen r7_r 4
        have f7_r5 : w6.cell? ⟨w.heap.size + 1 + 1, 5, none⟩ = some (.bool false) := CB.cell r7_r 5
        have z7_r5 : w6.frozen? ⟨w.heap.size + 1 + 1, 5, none⟩ = false := CB.frozen r7_r 5
        obtain ⟨V8, hV8⟩ : ∃ V, (((((w6.setCell ⟨w.heap.size + 1 + 1, 0, none⟩ (.int .u8 zme)).setCell ⟨w.heap.size + 1 + 1, 1, none⟩ (.int .i64 zep)).setCell ⟨w.heap.size + 1 + 1, 2, none⟩ (.int .i64 zst)).setCell ⟨w.heap.size + 1 + 1, 3, none⟩ (.int .u8 zto)).setCell ⟨w.heap.size + 1 + 1, 4, none⟩ (.string zcg)).setCell ⟨w.heap.size + 1 + 1, 5, none⟩ (.bool zkp) = V := ⟨_, rfl⟩
        have nV8 : CB V8 (w.heap.size + 1 + 1) 45 #[.int .u8 zme, .int .i64 zep, .int .i64 zst, .int .u8 zto, .string zcg, .bool zkp] := by rw [← hV8]; exact cb_cast (CB.put (CB.put (CB.put (CB.put (CB.put (CB.put r7_r 0 (.int .u8 zme)) 1 (.int .i64 zep)) 2 (.int .i64 zst)) 3 (.int .u8 zto)) 4 (.string zcg)) 5 (.bool zkp)) (by kernel_rfl)
        have mV8_s : CB V8 (w.heap.size) 45 #[.int .u8 me, .int .i64 ep, .int .i64 st, .int .u8 to, .string cg, .bool kp] := by rw [← hV8]; exact (CB.far (CB.far (CB.far (CB.far (CB.far (CB.far r7_s (p := ⟨w.heap.size + 1 + 1, 0, none⟩) neW1_02 (.int .u8 zme)) (p := ⟨w.heap.size + 1 + 1, 1, none⟩) neW1_02 (.int .i64 zep)) (p := ⟨w.heap.size + 1 + 1, 2, none⟩) neW1_02 (.int .i64 zst)) (p := ⟨w.heap.size + 1 + 1, 3, none⟩) neW1_02 (.int .u8 zto)) (p := ⟨w.heap.size + 1 + 1, 4, none⟩) neW1_02 (.string zcg)) (p := ⟨w.heap.size + 1 + 1, 5, none⟩) neW1_02 (.bool zkp))
        have mV8_m : CB V8 (w.heap.size + 1) 68 #[.int .i64 kd, .int .u8 fr, .int .u8 t, .int .i64 e, .string mg] := by rw [← hV8]; exact (CB.far (CB.far (CB.far (CB.far (CB.far (CB.far r7_m (p := ⟨w.heap.size + 1 + 1, 0, none⟩) neW1_12 (.int .u8 zme)) (p := ⟨w.heap.size + 1 + 1, 1, none⟩) neW1_12 (.int .i64 zep)) (p := ⟨w.heap.size + 1 + 1, 2, none⟩) neW1_12 (.int .i64 zst)) (p := ⟨w.heap.size + 1 + 1, 3, none⟩) neW1_12 (.int .u8 zto)) (p := ⟨w.heap.size + 1 + 1, 4, none⟩) neW1_12 (.string zcg)) (p := ⟨w.heap.size + 1 + 1, 5, none⟩) neW1_12 (.bool zkp))
        have oV8 := (Below.setCell (Below.setCell (Below.setCell (Below.setCell (Below.setCell (Below.setCell l7 (p := ⟨w.heap.size + 1 + 1, 0, none⟩) (by dsimp only; omega) (.int .u8 zme)) (p := ⟨w.heap.size + 1 + 1, 1, none⟩) (by dsimp only; omega) (.int .i64 zep)) (p := ⟨w.heap.size + 1 + 1, 2, none⟩) (by dsimp only; omega) (.int .i64 zst)) (p := ⟨w.heap.size + 1 + 1, 3, none⟩) (by dsimp only; omega) (.int .u8 zto)) (p := ⟨w.heap.size + 1 + 1, 4, none⟩) (by dsimp only; omega) (.string zcg)) (p := ⟨w.heap.size + 1 + 1, 5, none⟩) (by dsimp only; omega) (.bool zkp))
        rw [hV8] at oV8
        have HV8 := Lib.hid hV8
        have V8_eq := hV8
        clear hV8
        clear r7_r r7_s r7_m l7
        have q8_z : RS V8 68 mc 5 A n q zr := by rw [← V8_eq]; exact g8_z
        clear g8_z hr
        clear V8_eq
        go_wp2_with fail
        rw [HV8.out]
        have x_r0 : V8.cell? ⟨w.heap.size + 1 + 1, 0, none⟩ = some (.int .u8 zme) := CB.cell nV8 0
        have x_r1 : V8.cell? ⟨w.heap.size + 1 + 1, 1, none⟩ = some (.int .i64 zep) := CB.cell nV8 1
        have x_r2 : V8.cell? ⟨w.heap.size + 1 + 1, 2, none⟩ = some (.int .i64 zst) := CB.cell nV8 2
        have x_r3 : V8.cell? ⟨w.heap.size + 1 + 1, 3, none⟩ = some (.int .u8 zto) := CB.cell nV8 3
        have x_r4 : V8.cell? ⟨w.heap.size + 1 + 1, 4, none⟩ = some (.string zcg) := CB.cell nV8 4
        have x_r5 : V8.cell? ⟨w.heap.size + 1 + 1, 5, none⟩ = some (.bool zkp) := CB.cell nV8 5
        exact bodyPost_ret (v := .tuple #[.agg #[.int .u8 zme, .int .i64 zep, .int .i64 zst, .int .u8 zto, .string zcg, .bool zkp], .slice A n q, .int .i64 (ze : Int)]) (by simp [results, Try.results24, go_sem, x_r0, x_r1, x_r2, x_r3, x_r4, x_r5]) rfl (HPost.mk' zme zep zst zto zcg zkp ze _ H.out (q8_z) oV8)
      · have htm' : (t != me) = true := by simp [htm]
        have H := Lib.hid (show hearM ⟨me, ⟨ep, st, to⟩, cg, kp⟩ ⟨kd, fr, t, e, mg⟩ = ⟨⟨me, ⟨ep, st, to⟩, cg, kp⟩, [], 2⟩ from if_neg (fun h => htm h.2.2))
        have R1 := fun W => (by have := hright_c me ep st to cg kp W; rw [hR] at this; exact this)
        have M1 := fun W => (by have := rmsg_c kd fr t e mg W; rw [hM] at this; exact this)
        clear hR hM htm
        obtain ⟨W1, hW1⟩ : ∃ V, ((w.alloc (.cells #[.int .u8 me, .int .i64 ep, .int .i64 st, .int .u8 to, .string cg, .bool kp] 45)).alloc (.cells #[.int .i64 kd, .int .u8 fr, .int .u8 t, .int .i64 e, .string mg] 68)).alloc (.cells #[.int .u8 0, .int .i64 0, .int .i64 0, .int .u8 0, .string ⟨#[]⟩, .bool false] 45) = V := ⟨_, rfl⟩
        have nW1_s : CB W1 (w.heap.size) 45 #[.int .u8 me, .int .i64 ep, .int .i64 st, .int .u8 to, .string cg, .bool kp] := by
          rw [← hW1]
          have := (((CB.new w 45 #[.int .u8 me, .int .i64 ep, .int .i64 st, .int .u8 to, .string cg, .bool kp]).alloc (.cells #[.int .i64 kd, .int .u8 fr, .int .u8 t, .int .i64 e, .string mg] 68)).alloc (.cells #[.int .u8 0, .int .i64 0, .int .i64 0, .int .u8 0, .string ⟨#[]⟩, .bool false] 45))
          simpa using this
        have nW1_m : CB W1 (w.heap.size + 1) 68 #[.int .i64 kd, .int .u8 fr, .int .u8 t, .int .i64 e, .string mg] := by
          rw [← hW1]
          have := ((CB.new (w.alloc (.cells #[.int .u8 me, .int .i64 ep, .int .i64 st, .int .u8 to, .string cg, .bool kp] 45)) 68 #[.int .i64 kd, .int .u8 fr, .int .u8 t, .int .i64 e, .string mg]).alloc (.cells #[.int .u8 0, .int .i64 0, .int .i64 0, .int .u8 0, .string ⟨#[]⟩, .bool false] 45))
          simpa using this
        have nW1_r : CB W1 (w.heap.size + 1 + 1) 45 #[.int .u8 0, .int .i64 0, .int .i64 0, .int .u8 0, .string ⟨#[]⟩, .bool false] := by
          rw [← hW1]
          have := (CB.new ((w.alloc (.cells #[.int .u8 me, .int .i64 ep, .int .i64 st, .int .u8 to, .string cg, .bool kp] 45)).alloc (.cells #[.int .i64 kd, .int .u8 fr, .int .u8 t, .int .i64 e, .string mg] 68)) 45 #[.int .u8 0, .int .i64 0, .int .i64 0, .int .u8 0, .string ⟨#[]⟩, .bool false])
          simpa using this
        have neW1_01 : w.heap.size ≠ w.heap.size + 1 := by omega
        have neW1_02 : w.heap.size ≠ w.heap.size + 1 + 1 := by omega
        have neW1_12 : w.heap.size + 1 ≠ w.heap.size + 1 + 1 := by omega
        have lW1 : Below w.heap.size w W1 := by rw [← hW1]; exact le_tr (le_tr (le_al _ _) (le_al _ _)) (le_al _ _)
        have HW1 := Lib.hid hW1
        clear hW1
        go_enter Try.func24, Try.ntmps24
        go_wp2_with fail
        rw [HW1.out]
        refine (R1 _).mono ?_
        rintro e w2 ⟨rfl, b2⟩
        have r3_s := le_on nW1_s b2
        have r3_m := le_on nW1_m b2
        have r3_r := le_on nW1_r b2
        have l3 := le_tr lW1 b2
        clear nW1_s nW1_m nW1_r lW1
        clear b2
        have f3_s0 : w2.cell? ⟨w.heap.size, 0, none⟩ = some (.int .u8 me) := CB.cell r3_s 0
        have f3_s1 : w2.cell? ⟨w.heap.size, 1, none⟩ = some (.int .i64 ep) := CB.cell r3_s 1
        have f3_s2 : w2.cell? ⟨w.heap.size, 2, none⟩ = some (.int .i64 st) := CB.cell r3_s 2
        have f3_s3 : w2.cell? ⟨w.heap.size, 3, none⟩ = some (.int .u8 to) := CB.cell r3_s 3
        have f3_s4 : w2.cell? ⟨w.heap.size, 4, none⟩ = some (.string cg) := CB.cell r3_s 4
        have f3_s5 : w2.cell? ⟨w.heap.size, 5, none⟩ = some (.bool kp) := CB.cell r3_s 5
        have f3_m0 : w2.cell? ⟨w.heap.size + 1, 0, none⟩ = some (.int .i64 kd) := CB.cell r3_m 0
        have f3_m1 : w2.cell? ⟨w.heap.size + 1, 1, none⟩ = some (.int .u8 fr) := CB.cell r3_m 1
        have f3_m2 : w2.cell? ⟨w.heap.size + 1, 2, none⟩ = some (.int .u8 t) := CB.cell r3_m 2
        have f3_m3 : w2.cell? ⟨w.heap.size + 1, 3, none⟩ = some (.int .i64 e) := CB.cell r3_m 3
        have f3_m4 : w2.cell? ⟨w.heap.size + 1, 4, none⟩ = some (.string mg) := CB.cell r3_m 4
        go_wp2_with fail
        refine (M1 _).mono ?_
        rintro e w4 ⟨rfl, b4⟩
        clear f3_s0 f3_s1 f3_s2 f3_s3 f3_s4 f3_s5 f3_m0 f3_m1 f3_m2 f3_m3 f3_m4
        have r5_s := le_on r3_s b4
        have r5_m := le_on r3_m b4
        have r5_r := le_on r3_r b4
        have l5 := le_tr l3 b4
        clear r3_s r3_m r3_r l3
        clear b4
        have f5_s0 : w4.cell? ⟨w.heap.size, 0, none⟩ = some (.int .u8 me) := CB.cell r5_s 0
        have f5_s1 : w4.cell? ⟨w.heap.size, 1, none⟩ = some (.int .i64 ep) := CB.cell r5_s 1
        have f5_s2 : w4.cell? ⟨w.heap.size, 2, none⟩ = some (.int .i64 st) := CB.cell r5_s 2
        have f5_s3 : w4.cell? ⟨w.heap.size, 3, none⟩ = some (.int .u8 to) := CB.cell r5_s 3
        have f5_s4 : w4.cell? ⟨w.heap.size, 4, none⟩ = some (.string cg) := CB.cell r5_s 4
        have f5_s5 : w4.cell? ⟨w.heap.size, 5, none⟩ = some (.bool kp) := CB.cell r5_s 5
        have f5_m0 : w4.cell? ⟨w.heap.size + 1, 0, none⟩ = some (.int .i64 kd) := CB.cell r5_m 0
        have f5_m1 : w4.cell? ⟨w.heap.size + 1, 1, none⟩ = some (.int .u8 fr) := CB.cell r5_m 1
        have f5_m2 : w4.cell? ⟨w.heap.size + 1, 2, none⟩ = some (.int .u8 t) := CB.cell r5_m 2
        have f5_m3 : w4.cell? ⟨w.heap.size + 1, 3, none⟩ = some (.int .i64 e) := CB.cell r5_m 3
        have f5_m4 : w4.cell? ⟨w.heap.size + 1, 4, none⟩ = some (.string mg) := CB.cell r5_m 4
        have f5_r0 : w4.cell? ⟨w.heap.size + 1 + 1, 0, none⟩ = some (.int .u8 0) := CB.cell r5_r 0
        have z5_r0 : w4.frozen? ⟨w.heap.size + 1 + 1, 0, none⟩ = false := CB.frozen r5_r 0
        have f5_r1 : w4.cell? ⟨w.heap.size + 1 + 1, 1, none⟩ = some (.int .i64 0) := CB.cell r5_r 1
        have z5_r1 : w4.frozen? ⟨w.heap.size + 1 + 1, 1, none⟩ = false := CB.frozen r5_r 1
        have f5_r2 : w4.cell? ⟨w.heap.size + 1 + 1, 2, none⟩ = some (.int .i64 0) := CB.cell r5_r 2
        have z5_r2 : w4.frozen? ⟨w.heap.size + 1 + 1, 2, none⟩ = false := CB.frozen r5_r 2
        have f5_r3 : w4.cell? ⟨w.heap.size + 1 + 1, 3, none⟩ = some (.int .u8 0) := CB.cell r5_r 3
        have z5_r3 : w4.frozen? ⟨w.heap.size + 1 + 1, 3, none⟩ = false := CB.frozen r5_r 3
        have f5_r4 : w4.cell? ⟨w.heap.size + 1 + 1, 4, none⟩ = some (.string ⟨#[]⟩) := CB.cell r5_r 4
        have z5_r4 : w4.frozen? ⟨w.heap.size + 1 + 1, 4, none⟩ = false := CB.frozen r5_r 4
        have f5_r5 : w4.cell? ⟨w.heap.size + 1 + 1, 5, none⟩ = some (.bool false) := CB.cell r5_r 5
        have z5_r5 : w4.frozen? ⟨w.heap.size + 1 + 1, 5, none⟩ = false := CB.frozen r5_r 5
        obtain ⟨V6, hV6⟩ : ∃ V, (((((w4.setCell ⟨w.heap.size + 1 + 1, 0, none⟩ (.int .u8 me)).setCell ⟨w.heap.size + 1 + 1, 1, none⟩ (.int .i64 ep)).setCell ⟨w.heap.size + 1 + 1, 2, none⟩ (.int .i64 st)).setCell ⟨w.heap.size + 1 + 1, 3, none⟩ (.int .u8 to)).setCell ⟨w.heap.size + 1 + 1, 4, none⟩ (.string cg)).setCell ⟨w.heap.size + 1 + 1, 5, none⟩ (.bool kp) = V := ⟨_, rfl⟩
        have nV6 : CB V6 (w.heap.size + 1 + 1) 45 #[.int .u8 me, .int .i64 ep, .int .i64 st, .int .u8 to, .string cg, .bool kp] := by rw [← hV6]; exact cb_cast (CB.put (CB.put (CB.put (CB.put (CB.put (CB.put r5_r 0 (.int .u8 me)) 1 (.int .i64 ep)) 2 (.int .i64 st)) 3 (.int .u8 to)) 4 (.string cg)) 5 (.bool kp)) (by kernel_rfl)
        have mV6_s : CB V6 (w.heap.size) 45 #[.int .u8 me, .int .i64 ep, .int .i64 st, .int .u8 to, .string cg, .bool kp] := by rw [← hV6]; exact (CB.far (CB.far (CB.far (CB.far (CB.far (CB.far r5_s (p := ⟨w.heap.size + 1 + 1, 0, none⟩) neW1_02 (.int .u8 me)) (p := ⟨w.heap.size + 1 + 1, 1, none⟩) neW1_02 (.int .i64 ep)) (p := ⟨w.heap.size + 1 + 1, 2, none⟩) neW1_02 (.int .i64 st)) (p := ⟨w.heap.size + 1 + 1, 3, none⟩) neW1_02 (.int .u8 to)) (p := ⟨w.heap.size + 1 + 1, 4, none⟩) neW1_02 (.string cg)) (p := ⟨w.heap.size + 1 + 1, 5, none⟩) neW1_02 (.bool kp))
        have mV6_m : CB V6 (w.heap.size + 1) 68 #[.int .i64 kd, .int .u8 fr, .int .u8 t, .int .i64 e, .string mg] := by rw [← hV6]; exact (CB.far (CB.far (CB.far (CB.far (CB.far (CB.far r5_m (p := ⟨w.heap.size + 1 + 1, 0, none⟩) neW1_12 (.int .u8 me)) (p := ⟨w.heap.size + 1 + 1, 1, none⟩) neW1_12 (.int .i64 ep)) (p := ⟨w.heap.size + 1 + 1, 2, none⟩) neW1_12 (.int .i64 st)) (p := ⟨w.heap.size + 1 + 1, 3, none⟩) neW1_12 (.int .u8 to)) (p := ⟨w.heap.size + 1 + 1, 4, none⟩) neW1_12 (.string cg)) (p := ⟨w.heap.size + 1 + 1, 5, none⟩) neW1_12 (.bool kp))
        have oV6 := (Below.setCell (Below.setCell (Below.setCell (Below.setCell (Below.setCell (Below.setCell l5 (p := ⟨w.heap.size + 1 + 1, 0, none⟩) (by dsimp only; omega) (.int .u8 me)) (p := ⟨w.heap.size + 1 + 1, 1, none⟩) (by dsimp only; omega) (.int .i64 ep)) (p := ⟨w.heap.size + 1 + 1, 2, none⟩) (by dsimp only; omega) (.int .i64 st)) (p := ⟨w.heap.size + 1 + 1, 3, none⟩) (by dsimp only; omega) (.int .u8 to)) (p := ⟨w.heap.size + 1 + 1, 4, none⟩) (by dsimp only; omega) (.string cg)) (p := ⟨w.heap.size + 1 + 1, 5, none⟩) (by dsimp only; omega) (.bool kp))
        rw [hV6] at oV6
        have HV6 := Lib.hid hV6
        clear hV6
        clear r5_r r5_s r5_m l5
        go_wp2_with fail
        rw [HV6.out]
        have x_r0 : V6.cell? ⟨w.heap.size + 1 + 1, 0, none⟩ = some (.int .u8 me) := CB.cell nV6 0
        have x_r1 : V6.cell? ⟨w.heap.size + 1 + 1, 1, none⟩ = some (.int .i64 ep) := CB.cell nV6 1
        have x_r2 : V6.cell? ⟨w.heap.size + 1 + 1, 2, none⟩ = some (.int .i64 st) := CB.cell nV6 2
        have x_r3 : V6.cell? ⟨w.heap.size + 1 + 1, 3, none⟩ = some (.int .u8 to) := CB.cell nV6 3
        have x_r4 : V6.cell? ⟨w.heap.size + 1 + 1, 4, none⟩ = some (.string cg) := CB.cell nV6 4
        have x_r5 : V6.cell? ⟨w.heap.size + 1 + 1, 5, none⟩ = some (.bool kp) := CB.cell nV6 5
        exact bodyPost_ret (v := .tuple #[.agg #[.int .u8 me, .int .i64 ep, .int .i64 st, .int .u8 to, .string cg, .bool kp], .slice none 0 0, .int .i64 2]) (by simp [results, Try.results24, go_sem, x_r0, x_r1, x_r2, x_r3, x_r4, x_r5]) rfl (HPost.mk' me ep st to cg kp 2 [] H.out (RS.nil _ _ _ _) oV6)
end Go.Proofs.Ytfdboahcaiolgaa
