/-
  The document's layer 12: Hear. No condition.
-/
import Derived.Test.YtmghckddofefkaaHaG
import Derived.Test.YtmghckddofefkaaHaI
set_option linter.unusedVariables false
set_option linter.unusedSimpArgs false
namespace Go.Proofs.Ytmghckddofefkaa
open Go.RowKit

set_option maxRecDepth 100000 in
set_option maxHeartbeats 8000000 in
theorem hear_r (me ep st to : Int) (cg : ByteArray) (kp : Bool) (kd fr t e : Int) (mg : ByteArray) (w : World) : Calls Try.prog 13 #[.agg #[.int .u8 me, .int .i64 ep, .int .i64 st, .int .u8 to, .string cg, .bool kp], .agg #[.int .i64 kd, .int .u8 fr, .int .u8 t, .int .i64 e, .string mg]] w (TdPost w 27 (hearM ⟨me, ⟨ep, st, to⟩, cg, kp⟩ ⟨kd, fr, t, e, mg⟩)) := by
  cases hR : decide (RightS ⟨me, ⟨ep, st, to⟩, cg, kp⟩) with
  | false =>
    have H := Lib.hid (show hearM ⟨me, ⟨ep, st, to⟩, cg, kp⟩ ⟨kd, fr, t, e, mg⟩ = ⟨⟨me, ⟨ep, st, to⟩, cg, kp⟩, [], 2⟩ from if_neg (fun h => of_decide_eq_false hR h.1))
    have R1 := fun W => (by have := hright_r me ep st to cg kp W; rw [hR] at this; exact this)
    clear hR
    obtain ⟨W1, hW1⟩ : ∃ V, ((w.alloc (.cells #[.int .u8 me, .int .i64 ep, .int .i64 st, .int .u8 to, .string cg, .bool kp] 25)).alloc (.cells #[.int .i64 kd, .int .u8 fr, .int .u8 t, .int .i64 e, .string mg] 27)).alloc (.cells #[.int .u8 0, .int .i64 0, .int .i64 0, .int .u8 0, .string ⟨#[]⟩, .bool false, .slice none 0 0, .int .i64 0] 40) = V := ⟨_, rfl⟩
    have nW1_s : CB W1 (w.heap.size) 25 #[.int .u8 me, .int .i64 ep, .int .i64 st, .int .u8 to, .string cg, .bool kp] := by
      rw [← hW1]
      have := (((CB.new w 25 #[.int .u8 me, .int .i64 ep, .int .i64 st, .int .u8 to, .string cg, .bool kp]).alloc (.cells #[.int .i64 kd, .int .u8 fr, .int .u8 t, .int .i64 e, .string mg] 27)).alloc (.cells #[.int .u8 0, .int .i64 0, .int .i64 0, .int .u8 0, .string ⟨#[]⟩, .bool false, .slice none 0 0, .int .i64 0] 40))
      simpa using this
    have nW1_m : CB W1 (w.heap.size + 1) 27 #[.int .i64 kd, .int .u8 fr, .int .u8 t, .int .i64 e, .string mg] := by
      rw [← hW1]
      have := ((CB.new (w.alloc (.cells #[.int .u8 me, .int .i64 ep, .int .i64 st, .int .u8 to, .string cg, .bool kp] 25)) 27 #[.int .i64 kd, .int .u8 fr, .int .u8 t, .int .i64 e, .string mg]).alloc (.cells #[.int .u8 0, .int .i64 0, .int .i64 0, .int .u8 0, .string ⟨#[]⟩, .bool false, .slice none 0 0, .int .i64 0] 40))
      simpa using this
    have nW1_r : CB W1 (w.heap.size + 1 + 1) 40 #[.int .u8 0, .int .i64 0, .int .i64 0, .int .u8 0, .string ⟨#[]⟩, .bool false, .slice none 0 0, .int .i64 0] := by
      rw [← hW1]
      have := (CB.new ((w.alloc (.cells #[.int .u8 me, .int .i64 ep, .int .i64 st, .int .u8 to, .string cg, .bool kp] 25)).alloc (.cells #[.int .i64 kd, .int .u8 fr, .int .u8 t, .int .i64 e, .string mg] 27)) 40 #[.int .u8 0, .int .i64 0, .int .i64 0, .int .u8 0, .string ⟨#[]⟩, .bool false, .slice none 0 0, .int .i64 0])
      simpa using this
    have neW1_01 : w.heap.size ≠ w.heap.size + 1 := by omega
    have neW1_02 : w.heap.size ≠ w.heap.size + 1 + 1 := by omega
    have neW1_12 : w.heap.size + 1 ≠ w.heap.size + 1 + 1 := by omega
    have lW1 : Below w.heap.size w W1 := by rw [← hW1]; exact le_tr (le_tr (le_al _ _) (le_al _ _)) (le_al _ _)
    have HW1 := Lib.hid hW1
    clear hW1
    go_enter Try.func13, Try.ntmps13
    go_wp2_with fail
    rw [HW1.out]
    refine (R1 _).mono ?_
    rintro e w2 ⟨rfl, b2⟩
    have r3_s := le_on nW1_s b2
    have r3_m := le_on nW1_m b2
    have r3_r := le_on nW1_r b2
    have l3 := le_tr lW1 b2
    clear nW1_s nW1_m nW1_r lW1
    clear b2
    have f3_s0 : w2.cell? ⟨w.heap.size, 0, none⟩ = some (.int .u8 me) := CB.cell r3_s 0
    have f3_s1 : w2.cell? ⟨w.heap.size, 1, none⟩ = some (.int .i64 ep) := CB.cell r3_s 1
    have f3_s2 : w2.cell? ⟨w.heap.size, 2, none⟩ = some (.int .i64 st) := CB.cell r3_s 2
    have f3_s3 : w2.cell? ⟨w.heap.size, 3, none⟩ = some (.int .u8 to) := CB.cell r3_s 3
    have f3_s4 : w2.cell? ⟨w.heap.size, 4, none⟩ = some (.string cg) := CB.cell r3_s 4
    have f3_s5 : w2.cell? ⟨w.heap.size, 5, none⟩ = some (.bool kp) := CB.cell r3_s 5
    have f3_m0 : w2.cell? ⟨w.heap.size + 1, 0, none⟩ = some (.int .i64 kd) := CB.cell r3_m 0
    have f3_m1 : w2.cell? ⟨w.heap.size + 1, 1, none⟩ = some (.int .u8 fr) := CB.cell r3_m 1
    have f3_m2 : w2.cell? ⟨w.heap.size + 1, 2, none⟩ = some (.int .u8 t) := CB.cell r3_m 2
    have f3_m3 : w2.cell? ⟨w.heap.size + 1, 3, none⟩ = some (.int .i64 e) := CB.cell r3_m 3
    have f3_m4 : w2.cell? ⟨w.heap.size + 1, 4, none⟩ = some (.string mg) := CB.cell r3_m 4
    have f3_r0 : w2.cell? ⟨w.heap.size + 1 + 1, 0, none⟩ = some (.int .u8 0) := CB.cell r3_r 0
    have z3_r0 : w2.frozen? ⟨w.heap.size + 1 + 1, 0, none⟩ = false := CB.frozen r3_r 0
    have f3_r1 : w2.cell? ⟨w.heap.size + 1 + 1, 1, none⟩ = some (.int .i64 0) := CB.cell r3_r 1
    have z3_r1 : w2.frozen? ⟨w.heap.size + 1 + 1, 1, none⟩ = false := CB.frozen r3_r 1
    have f3_r2 : w2.cell? ⟨w.heap.size + 1 + 1, 2, none⟩ = some (.int .i64 0) := CB.cell r3_r 2
    have z3_r2 : w2.frozen? ⟨w.heap.size + 1 + 1, 2, none⟩ = false := CB.frozen r3_r 2
    have f3_r3 : w2.cell? ⟨w.heap.size + 1 + 1, 3, none⟩ = some (.int .u8 0) := CB.cell r3_r 3
    have z3_r3 : w2.frozen? ⟨w.heap.size + 1 + 1, 3, none⟩ = false := CB.frozen r3_r 3
    have f3_r4 : w2.cell? ⟨w.heap.size + 1 + 1, 4, none⟩ = some (.string ⟨#[]⟩) := CB.cell r3_r 4
    have z3_r4 : w2.frozen? ⟨w.heap.size + 1 + 1, 4, none⟩ = false := CB.frozen r3_r 4
    have f3_r5 : w2.cell? ⟨w.heap.size + 1 + 1, 5, none⟩ = some (.bool false) := CB.cell r3_r 5
    have z3_r5 : w2.frozen? ⟨w.heap.size + 1 + 1, 5, none⟩ = false := CB.frozen r3_r 5
    have f3_r6 : w2.cell? ⟨w.heap.size + 1 + 1, 6, none⟩ = some (.slice none 0 0) := CB.cell r3_r 6
    have z3_r6 : w2.frozen? ⟨w.heap.size + 1 + 1, 6, none⟩ = false := CB.frozen r3_r 6
    have f3_r7 : w2.cell? ⟨w.heap.size + 1 + 1, 7, none⟩ = some (.int .i64 0) := CB.cell r3_r 7
    have z3_r7 : w2.frozen? ⟨w.heap.size + 1 + 1, 7, none⟩ = false := CB.frozen r3_r 7
    obtain ⟨V4, hV4⟩ : ∃ V, (((((((w2.setCell ⟨w.heap.size + 1 + 1, 0, none⟩ (.int .u8 me)).setCell ⟨w.heap.size + 1 + 1, 1, none⟩ (.int .i64 ep)).setCell ⟨w.heap.size + 1 + 1, 2, none⟩ (.int .i64 st)).setCell ⟨w.heap.size + 1 + 1, 3, none⟩ (.int .u8 to)).setCell ⟨w.heap.size + 1 + 1, 4, none⟩ (.string cg)).setCell ⟨w.heap.size + 1 + 1, 5, none⟩ (.bool kp)).setCell ⟨w.heap.size + 1 + 1, 6, none⟩ (.slice none 0 0)).setCell ⟨w.heap.size + 1 + 1, 7, none⟩ (.int .i64 2) = V := ⟨_, rfl⟩
    have nV4 : CB V4 (w.heap.size + 1 + 1) 40 #[.int .u8 me, .int .i64 ep, .int .i64 st, .int .u8 to, .string cg, .bool kp, .slice none 0 0, .int .i64 2] := by rw [← hV4]; exact cb_cast (CB.put (CB.put (CB.put (CB.put (CB.put (CB.put (CB.put (CB.put r3_r 0 (.int .u8 me)) 1 (.int .i64 ep)) 2 (.int .i64 st)) 3 (.int .u8 to)) 4 (.string cg)) 5 (.bool kp)) 6 (.slice none 0 0)) 7 (.int .i64 2)) (by kernel_rfl)
    have mV4_s : CB V4 (w.heap.size) 25 #[.int .u8 me, .int .i64 ep, .int .i64 st, .int .u8 to, .string cg, .bool kp] := by rw [← hV4]; exact (CB.far (CB.far (CB.far (CB.far (CB.far (CB.far (CB.far (CB.far r3_s (p := ⟨w.heap.size + 1 + 1, 0, none⟩) neW1_02 (.int .u8 me)) (p := ⟨w.heap.size + 1 + 1, 1, none⟩) neW1_02 (.int .i64 ep)) (p := ⟨w.heap.size + 1 + 1, 2, none⟩) neW1_02 (.int .i64 st)) (p := ⟨w.heap.size + 1 + 1, 3, none⟩) neW1_02 (.int .u8 to)) (p := ⟨w.heap.size + 1 + 1, 4, none⟩) neW1_02 (.string cg)) (p := ⟨w.heap.size + 1 + 1, 5, none⟩) neW1_02 (.bool kp)) (p := ⟨w.heap.size + 1 + 1, 6, none⟩) neW1_02 (.slice none 0 0)) (p := ⟨w.heap.size + 1 + 1, 7, none⟩) neW1_02 (.int .i64 2))
    have mV4_m : CB V4 (w.heap.size + 1) 27 #[.int .i64 kd, .int .u8 fr, .int .u8 t, .int .i64 e, .string mg] := by rw [← hV4]; exact (CB.far (CB.far (CB.far (CB.far (CB.far (CB.far (CB.far (CB.far r3_m (p := ⟨w.heap.size + 1 + 1, 0, none⟩) neW1_12 (.int .u8 me)) (p := ⟨w.heap.size + 1 + 1, 1, none⟩) neW1_12 (.int .i64 ep)) (p := ⟨w.heap.size + 1 + 1, 2, none⟩) neW1_12 (.int .i64 st)) (p := ⟨w.heap.size + 1 + 1, 3, none⟩) neW1_12 (.int .u8 to)) (p := ⟨w.heap.size + 1 + 1, 4, none⟩) neW1_12 (.string cg)) (p := ⟨w.heap.size + 1 + 1, 5, none⟩) neW1_12 (.bool kp)) (p := ⟨w.heap.size + 1 + 1, 6, none⟩) neW1_12 (.slice none 0 0)) (p := ⟨w.heap.size + 1 + 1, 7, none⟩) neW1_12 (.int .i64 2))
    have oV4 := (Below.setCell (Below.setCell (Below.setCell (Below.setCell (Below.setCell (Below.setCell (Below.setCell (Below.setCell l3 (p := ⟨w.heap.size + 1 + 1, 0, none⟩) (by dsimp only; omega) (.int .u8 me)) (p := ⟨w.heap.size + 1 + 1, 1, none⟩) (by dsimp only; omega) (.int .i64 ep)) (p := ⟨w.heap.size + 1 + 1, 2, none⟩) (by dsimp only; omega) (.int .i64 st)) (p := ⟨w.heap.size + 1 + 1, 3, none⟩) (by dsimp only; omega) (.int .u8 to)) (p := ⟨w.heap.size + 1 + 1, 4, none⟩) (by dsimp only; omega) (.string cg)) (p := ⟨w.heap.size + 1 + 1, 5, none⟩) (by dsimp only; omega) (.bool kp)) (p := ⟨w.heap.size + 1 + 1, 6, none⟩) (by dsimp only; omega) (.slice none 0 0)) (p := ⟨w.heap.size + 1 + 1, 7, none⟩) (by dsimp only; omega) (.int .i64 2))
    rw [hV4] at oV4
    have HV4 := Lib.hid hV4
    clear hV4
    clear r3_r r3_s r3_m l3
    go_wp2_with fail
    rw [HV4.out]
    have x_r0 : V4.cell? ⟨w.heap.size + 1 + 1, 0, none⟩ = some (.int .u8 me) := CB.cell nV4 0
    have x_r1 : V4.cell? ⟨w.heap.size + 1 + 1, 1, none⟩ = some (.int .i64 ep) := CB.cell nV4 1
    have x_r2 : V4.cell? ⟨w.heap.size + 1 + 1, 2, none⟩ = some (.int .i64 st) := CB.cell nV4 2
    have x_r3 : V4.cell? ⟨w.heap.size + 1 + 1, 3, none⟩ = some (.int .u8 to) := CB.cell nV4 3
    have x_r4 : V4.cell? ⟨w.heap.size + 1 + 1, 4, none⟩ = some (.string cg) := CB.cell nV4 4
    have x_r5 : V4.cell? ⟨w.heap.size + 1 + 1, 5, none⟩ = some (.bool kp) := CB.cell nV4 5
    have x_r6 : V4.cell? ⟨w.heap.size + 1 + 1, 6, none⟩ = some (.slice none 0 0) := CB.cell nV4 6
    have x_r7 : V4.cell? ⟨w.heap.size + 1 + 1, 7, none⟩ = some (.int .i64 2) := CB.cell nV4 7
    exact bodyPost_ret (v := .agg #[.int .u8 me, .int .i64 ep, .int .i64 st, .int .u8 to, .string cg, .bool kp, .slice none 0 0, .int .i64 2]) (by simp [results, Try.results13, go_sem, x_r0, x_r1, x_r2, x_r3, x_r4, x_r5, x_r6, x_r7]) rfl (TdPost.mk' me ep st to cg kp 2 [] H.out (RS.nil _ _ _ _) oV4)
  | true =>
    cases hM : decide (MayM ⟨kd, fr, t, e, mg⟩) with
    | false =>
      have H := Lib.hid (show hearM ⟨me, ⟨ep, st, to⟩, cg, kp⟩ ⟨kd, fr, t, e, mg⟩ = ⟨⟨me, ⟨ep, st, to⟩, cg, kp⟩, [], 2⟩ from if_neg (fun h => of_decide_eq_false hM h.2.1))
      have R1 := fun W => (by have := hright_r me ep st to cg kp W; rw [hR] at this; exact this)
      have M1 := fun W => (by have := may_r kd fr t e mg W; rw [hM] at this; exact this)
      clear hR hM
      obtain ⟨W1, hW1⟩ : ∃ V, ((w.alloc (.cells #[.int .u8 me, .int .i64 ep, .int .i64 st, .int .u8 to, .string cg, .bool kp] 25)).alloc (.cells #[.int .i64 kd, .int .u8 fr, .int .u8 t, .int .i64 e, .string mg] 27)).alloc (.cells #[.int .u8 0, .int .i64 0, .int .i64 0, .int .u8 0, .string ⟨#[]⟩, .bool false, .slice none 0 0, .int .i64 0] 40) = V := ⟨_, rfl⟩
      have nW1_s : CB W1 (w.heap.size) 25 #[.int .u8 me, .int .i64 ep, .int .i64 st, .int .u8 to, .string cg, .bool kp] := by
        rw [← hW1]
        have := (((CB.new w 25 #[.int .u8 me, .int .i64 ep, .int .i64 st, .int .u8 to, .string cg, .bool kp]).alloc (.cells #[.int .i64 kd, .int .u8 fr, .int .u8 t, .int .i64 e, .string mg] 27)).alloc (.cells #[.int .u8 0, .int .i64 0, .int .i64 0, .int .u8 0, .string ⟨#[]⟩, .bool false, .slice none 0 0, .int .i64 0] 40))
        simpa using this
      have nW1_m : CB W1 (w.heap.size + 1) 27 #[.int .i64 kd, .int .u8 fr, .int .u8 t, .int .i64 e, .string mg] := by
        rw [← hW1]
        have := ((CB.new (w.alloc (.cells #[.int .u8 me, .int .i64 ep, .int .i64 st, .int .u8 to, .string cg, .bool kp] 25)) 27 #[.int .i64 kd, .int .u8 fr, .int .u8 t, .int .i64 e, .string mg]).alloc (.cells #[.int .u8 0, .int .i64 0, .int .i64 0, .int .u8 0, .string ⟨#[]⟩, .bool false, .slice none 0 0, .int .i64 0] 40))
        simpa using this
      have nW1_r : CB W1 (w.heap.size + 1 + 1) 40 #[.int .u8 0, .int .i64 0, .int .i64 0, .int .u8 0, .string ⟨#[]⟩, .bool false, .slice none 0 0, .int .i64 0] := by
        rw [← hW1]
        have := (CB.new ((w.alloc (.cells #[.int .u8 me, .int .i64 ep, .int .i64 st, .int .u8 to, .string cg, .bool kp] 25)).alloc (.cells #[.int .i64 kd, .int .u8 fr, .int .u8 t, .int .i64 e, .string mg] 27)) 40 #[.int .u8 0, .int .i64 0, .int .i64 0, .int .u8 0, .string ⟨#[]⟩, .bool false, .slice none 0 0, .int .i64 0])
        simpa using this
      have neW1_01 : w.heap.size ≠ w.heap.size + 1 := by omega
      have neW1_02 : w.heap.size ≠ w.heap.size + 1 + 1 := by omega
      have neW1_12 : w.heap.size + 1 ≠ w.heap.size + 1 + 1 := by omega
      have lW1 : Below w.heap.size w W1 := by rw [← hW1]; exact le_tr (le_tr (le_al _ _) (le_al _ _)) (le_al _ _)
      have HW1 := Lib.hid hW1
      clear hW1
      go_enter Try.func13, Try.ntmps13
      go_wp2_with fail
      rw [HW1.out]
      refine (R1 _).mono ?_
      rintro e w2 ⟨rfl, b2⟩
      have r3_s := le_on nW1_s b2
      have r3_m := le_on nW1_m b2
      have r3_r := le_on nW1_r b2
      have l3 := le_tr lW1 b2
      clear nW1_s nW1_m nW1_r lW1
      clear b2
      have f3_s0 : w2.cell? ⟨w.heap.size, 0, none⟩ = some (.int .u8 me) := CB.cell r3_s 0
      have f3_s1 : w2.cell? ⟨w.heap.size, 1, none⟩ = some (.int .i64 ep) := CB.cell r3_s 1
      have f3_s2 : w2.cell? ⟨w.heap.size, 2, none⟩ = some (.int .i64 st) := CB.cell r3_s 2
      have f3_s3 : w2.cell? ⟨w.heap.size, 3, none⟩ = some (.int .u8 to) := CB.cell r3_s 3
      have f3_s4 : w2.cell? ⟨w.heap.size, 4, none⟩ = some (.string cg) := CB.cell r3_s 4
      have f3_s5 : w2.cell? ⟨w.heap.size, 5, none⟩ = some (.bool kp) := CB.cell r3_s 5
      have f3_m0 : w2.cell? ⟨w.heap.size + 1, 0, none⟩ = some (.int .i64 kd) := CB.cell r3_m 0
      have f3_m1 : w2.cell? ⟨w.heap.size + 1, 1, none⟩ = some (.int .u8 fr) := CB.cell r3_m 1
      have f3_m2 : w2.cell? ⟨w.heap.size + 1, 2, none⟩ = some (.int .u8 t) := CB.cell r3_m 2
      have f3_m3 : w2.cell? ⟨w.heap.size + 1, 3, none⟩ = some (.int .i64 e) := CB.cell r3_m 3
      have f3_m4 : w2.cell? ⟨w.heap.size + 1, 4, none⟩ = some (.string mg) := CB.cell r3_m 4
      go_wp2_with fail
      refine (M1 _).mono ?_
      rintro e w4 ⟨rfl, b4⟩
      clear f3_s0 f3_s1 f3_s2 f3_s3 f3_s4 f3_s5 f3_m0 f3_m1 f3_m2 f3_m3 f3_m4
      have r5_s := le_on r3_s b4
      have r5_m := le_on r3_m b4
      have r5_r := le_on r3_r b4
      have l5 := le_tr l3 b4
      clear r3_s r3_m r3_r l3
      clear b4
      have f5_s0 : w4.cell? ⟨w.heap.size, 0, none⟩ = some (.int .u8 me) := CB.cell r5_s 0
      have f5_s1 : w4.cell? ⟨w.heap.size, 1, none⟩ = some (.int .i64 ep) := CB.cell r5_s 1
      have f5_s2 : w4.cell? ⟨w.heap.size, 2, none⟩ = some (.int .i64 st) := CB.cell r5_s 2
      have f5_s3 : w4.cell? ⟨w.heap.size, 3, none⟩ = some (.int .u8 to) := CB.cell r5_s 3
      have f5_s4 : w4.cell? ⟨w.heap.size, 4, none⟩ = some (.string cg) := CB.cell r5_s 4
      have f5_s5 : w4.cell? ⟨w.heap.size, 5, none⟩ = some (.bool kp) := CB.cell r5_s 5
      have f5_m0 : w4.cell? ⟨w.heap.size + 1, 0, none⟩ = some (.int .i64 kd) := CB.cell r5_m 0
      have f5_m1 : w4.cell? ⟨w.heap.size + 1, 1, none⟩ = some (.int .u8 fr) := CB.cell r5_m 1
      have f5_m2 : w4.cell? ⟨w.heap.size + 1, 2, none⟩ = some (.int .u8 t) := CB.cell r5_m 2
      have f5_m3 : w4.cell? ⟨w.heap.size + 1, 3, none⟩ = some (.int .i64 e) := CB.cell r5_m 3
      have f5_m4 : w4.cell? ⟨w.heap.size + 1, 4, none⟩ = some (.string mg) := CB.cell r5_m 4
      have f5_r0 : w4.cell? ⟨w.heap.size + 1 + 1, 0, none⟩ = some (.int .u8 0) := CB.cell r5_r 0
      have z5_r0 : w4.frozen? ⟨w.heap.size + 1 + 1, 0, none⟩ = false := CB.frozen r5_r 0
      have f5_r1 : w4.cell? ⟨w.heap.size + 1 + 1, 1, none⟩ = some (.int .i64 0) := CB.cell r5_r 1
      have z5_r1 : w4.frozen? ⟨w.heap.size + 1 + 1, 1, none⟩ = false := CB.frozen r5_r 1
      have f5_r2 : w4.cell? ⟨w.heap.size + 1 + 1, 2, none⟩ = some (.int .i64 0) := CB.cell r5_r 2
      have z5_r2 : w4.frozen? ⟨w.heap.size + 1 + 1, 2, none⟩ = false := CB.frozen r5_r 2
      have f5_r3 : w4.cell? ⟨w.heap.size + 1 + 1, 3, none⟩ = some (.int .u8 0) := CB.cell r5_r 3
      have z5_r3 : w4.frozen? ⟨w.heap.size + 1 + 1, 3, none⟩ = false := CB.frozen r5_r 3
      have f5_r4 : w4.cell? ⟨w.heap.size + 1 + 1, 4, none⟩ = some (.string ⟨#[]⟩) := CB.cell r5_r 4
      have z5_r4 : w4.frozen? ⟨w.heap.size + 1 + 1, 4, none⟩ = false := CB.frozen r5_r 4
      have f5_r5 : w4.cell? ⟨w.heap.size + 1 + 1, 5, none⟩ = some (.bool false) := CB.cell r5_r 5
      have z5_r5 : w4.frozen? ⟨w.heap.size + 1 + 1, 5, none⟩ = false := CB.frozen r5_r 5
      have f5_r6 : w4.cell? ⟨w.heap.size + 1 + 1, 6, none⟩ = some (.slice none 0 0) := CB.cell r5_r 6
      have z5_r6 : w4.frozen? ⟨w.heap.size + 1 + 1, 6, none⟩ = false := CB.frozen r5_r 6
      have f5_r7 : w4.cell? ⟨w.heap.size + 1 + 1, 7, none⟩ = some (.int .i64 0) := CB.cell r5_r 7
      have z5_r7 : w4.frozen? ⟨w.heap.size + 1 + 1, 7, none⟩ = false := CB.frozen r5_r 7
      obtain ⟨V6, hV6⟩ : ∃ V, (((((((w4.setCell ⟨w.heap.size + 1 + 1, 0, none⟩ (.int .u8 me)).setCell ⟨w.heap.size + 1 + 1, 1, none⟩ (.int .i64 ep)).setCell ⟨w.heap.size + 1 + 1, 2, none⟩ (.int .i64 st)).setCell ⟨w.heap.size + 1 + 1, 3, none⟩ (.int .u8 to)).setCell ⟨w.heap.size + 1 + 1, 4, none⟩ (.string cg)).setCell ⟨w.heap.size + 1 + 1, 5, none⟩ (.bool kp)).setCell ⟨w.heap.size + 1 + 1, 6, none⟩ (.slice none 0 0)).setCell ⟨w.heap.size + 1 + 1, 7, none⟩ (.int .i64 2) = V := ⟨_, rfl⟩
      have nV6 : CB V6 (w.heap.size + 1 + 1) 40 #[.int .u8 me, .int .i64 ep, .int .i64 st, .int .u8 to, .string cg, .bool kp, .slice none 0 0, .int .i64 2] := by rw [← hV6]; exact cb_cast (CB.put (CB.put (CB.put (CB.put (CB.put (CB.put (CB.put (CB.put r5_r 0 (.int .u8 me)) 1 (.int .i64 ep)) 2 (.int .i64 st)) 3 (.int .u8 to)) 4 (.string cg)) 5 (.bool kp)) 6 (.slice none 0 0)) 7 (.int .i64 2)) (by kernel_rfl)
      have mV6_s : CB V6 (w.heap.size) 25 #[.int .u8 me, .int .i64 ep, .int .i64 st, .int .u8 to, .string cg, .bool kp] := by rw [← hV6]; exact (CB.far (CB.far (CB.far (CB.far (CB.far (CB.far (CB.far (CB.far r5_s (p := ⟨w.heap.size + 1 + 1, 0, none⟩) neW1_02 (.int .u8 me)) (p := ⟨w.heap.size + 1 + 1, 1, none⟩) neW1_02 (.int .i64 ep)) (p := ⟨w.heap.size + 1 + 1, 2, none⟩) neW1_02 (.int .i64 st)) (p := ⟨w.heap.size + 1 + 1, 3, none⟩) neW1_02 (.int .u8 to)) (p := ⟨w.heap.size + 1 + 1, 4, none⟩) neW1_02 (.string cg)) (p := ⟨w.heap.size + 1 + 1, 5, none⟩) neW1_02 (.bool kp)) (p := ⟨w.heap.size + 1 + 1, 6, none⟩) neW1_02 (.slice none 0 0)) (p := ⟨w.heap.size + 1 + 1, 7, none⟩) neW1_02 (.int .i64 2))
      have mV6_m : CB V6 (w.heap.size + 1) 27 #[.int .i64 kd, .int .u8 fr, .int .u8 t, .int .i64 e, .string mg] := by rw [← hV6]; exact (CB.far (CB.far (CB.far (CB.far (CB.far (CB.far (CB.far (CB.far r5_m (p := ⟨w.heap.size + 1 + 1, 0, none⟩) neW1_12 (.int .u8 me)) (p := ⟨w.heap.size + 1 + 1, 1, none⟩) neW1_12 (.int .i64 ep)) (p := ⟨w.heap.size + 1 + 1, 2, none⟩) neW1_12 (.int .i64 st)) (p := ⟨w.heap.size + 1 + 1, 3, none⟩) neW1_12 (.int .u8 to)) (p := ⟨w.heap.size + 1 + 1, 4, none⟩) neW1_12 (.string cg)) (p := ⟨w.heap.size + 1 + 1, 5, none⟩) neW1_12 (.bool kp)) (p := ⟨w.heap.size + 1 + 1, 6, none⟩) neW1_12 (.slice none 0 0)) (p := ⟨w.heap.size + 1 + 1, 7, none⟩) neW1_12 (.int .i64 2))
      have oV6 := (Below.setCell (Below.setCell (Below.setCell (Below.setCell (Below.setCell (Below.setCell (Below.setCell (Below.setCell l5 (p := ⟨w.heap.size + 1 + 1, 0, none⟩) (by dsimp only; omega) (.int .u8 me)) (p := ⟨w.heap.size + 1 + 1, 1, none⟩) (by dsimp only; omega) (.int .i64 ep)) (p := ⟨w.heap.size + 1 + 1, 2, none⟩) (by dsimp only; omega) (.int .i64 st)) (p := ⟨w.heap.size + 1 + 1, 3, none⟩) (by dsimp only; omega) (.int .u8 to)) (p := ⟨w.heap.size + 1 + 1, 4, none⟩) (by dsimp only; omega) (.string cg)) (p := ⟨w.heap.size + 1 + 1, 5, none⟩) (by dsimp only; omega) (.bool kp)) (p := ⟨w.heap.size + 1 + 1, 6, none⟩) (by dsimp only; omega) (.slice none 0 0)) (p := ⟨w.heap.size + 1 + 1, 7, none⟩) (by dsimp only; omega) (.int .i64 2))
      rw [hV6] at oV6
      have HV6 := Lib.hid hV6
      clear hV6
      clear r5_r r5_s r5_m l5
      go_wp2_with fail
      rw [HV6.out]
      have x_r0 : V6.cell? ⟨w.heap.size + 1 + 1, 0, none⟩ = some (.int .u8 me) := CB.cell nV6 0
      have x_r1 : V6.cell? ⟨w.heap.size + 1 + 1, 1, none⟩ = some (.int .i64 ep) := CB.cell nV6 1
      have x_r2 : V6.cell? ⟨w.heap.size + 1 + 1, 2, none⟩ = some (.int .i64 st) := CB.cell nV6 2
      have x_r3 : V6.cell? ⟨w.heap.size + 1 + 1, 3, none⟩ = some (.int .u8 to) := CB.cell nV6 3
      have x_r4 : V6.cell? ⟨w.heap.size + 1 + 1, 4, none⟩ = some (.string cg) := CB.cell nV6 4
      have x_r5 : V6.cell? ⟨w.heap.size + 1 + 1, 5, none⟩ = some (.bool kp) := CB.cell nV6 5
      have x_r6 : V6.cell? ⟨w.heap.size + 1 + 1, 6, none⟩ = some (.slice none 0 0) := CB.cell nV6 6
      have x_r7 : V6.cell? ⟨w.heap.size + 1 + 1, 7, none⟩ = some (.int .i64 2) := CB.cell nV6 7
      exact bodyPost_ret (v := .agg #[.int .u8 me, .int .i64 ep, .int .i64 st, .int .u8 to, .string cg, .bool kp, .slice none 0 0, .int .i64 2]) (by simp [results, Try.results13, go_sem, x_r0, x_r1, x_r2, x_r3, x_r4, x_r5, x_r6, x_r7]) rfl (TdPost.mk' me ep st to cg kp 2 [] H.out (RS.nil _ _ _ _) oV6)
    | true =>
      by_cases htm : t = me
      · have hs := of_decide_eq_true hR
        have hm := of_decide_eq_true hM
        have htm' : (t != me) = false := by simp [htm]
        have hok : hearM ⟨me, ⟨ep, st, to⟩, cg, kp⟩ ⟨kd, fr, t, e, mg⟩ = (if kd = 2 then wantM ⟨me, ⟨ep, st, to⟩, cg, kp⟩ ⟨kd, fr, t, e, mg⟩ else if kd = 3 then giveM ⟨me, ⟨ep, st, to⟩, cg, kp⟩ ⟨kd, fr, t, e, mg⟩ else if kd = 1 then offerM ⟨me, ⟨ep, st, to⟩, cg, kp⟩ ⟨kd, fr, t, e, mg⟩ else gotM ⟨me, ⟨ep, st, to⟩, cg, kp⟩ ⟨kd, fr, t, e, mg⟩) := hear_ok ⟨hs, hm, htm⟩
        have hkd : 1 ≤ kd ∧ kd ≤ 4 := hm.1
        have hed : 1 ≤ e ∧ e ≤ 1048576 := hm.2.2.2.2.1
        have R1 := fun W => (by have := hright_r me ep st to cg kp W; rw [hR] at this; exact this)
        have M1 := fun W => (by have := may_r kd fr t e mg W; rw [hM] at this; exact this)
        by_cases hk : kd = 2
        · skip
          obtain ⟨⟨⟨zme, ⟨zep, zst, zto⟩, zcg, zkp⟩, zr, ze⟩, hd⟩ : ∃ d, hearM ⟨me, ⟨ep, st, to⟩, cg, kp⟩ ⟨kd, fr, t, e, mg⟩ = d := ⟨_, rfl⟩
          have H := Lib.hid hd
          have O1 : ∀ W, Calls Try.prog 43 #[.agg #[.int .u8 me, .int .i64 ep, .int .i64 st, .int .u8 to, .string cg, .bool kp], .agg #[.int .i64 kd, .int .u8 fr, .int .u8 t, .int .i64 e, .string mg]] W (fun r w' => ∃ A n q, r = .returned (.agg #[.int .u8 zme, .int .i64 zep, .int .i64 zst, .int .u8 zto, .string zcg, .bool zkp, .slice A n q, .int .i64 (ze : Int)]) ∧ RS w' 27 mc 5 A n q zr ∧ Below W.heap.size W w') := fun W => by
            have := want_r me ep st to cg kp kd fr t e mg W hs hm
            rw [if_pos hk, hd] at hok
            rw [← hok] at this
            exact this
          have k1 : (kd == 1) = false := by simp [hk]
          have k2 : (kd == 2) = true := by simp [hk]
          have k3 : (kd == 3) = false := by simp [hk]
          clear hR hM hs hm htm hok hd hkd hk hed
          obtain ⟨W1, hW1⟩ : ∃ V, ((w.alloc (.cells #[.int .u8 me, .int .i64 ep, .int .i64 st, .int .u8 to, .string cg, .bool kp] 25)).alloc (.cells #[.int .i64 kd, .int .u8 fr, .int .u8 t, .int .i64 e, .string mg] 27)).alloc (.cells #[.int .u8 0, .int .i64 0, .int .i64 0, .int .u8 0, .string ⟨#[]⟩, .bool false, .slice none 0 0, .int .i64 0] 40) = V := ⟨_, rfl⟩
          have nW1_s : CB W1 (w.heap.size) 25 #[.int .u8 me, .int .i64 ep, .int .i64 st, .int .u8 to, .string cg, .bool kp] := by
            rw [← hW1]
            have := (((CB.new w 25 #[.int .u8 me, .int .i64 ep, .int .i64 st, .int .u8 to, .string cg, .bool kp]).alloc (.cells #[.int .i64 kd, .int .u8 fr, .int .u8 t, .int .i64 e, .string mg] 27)).alloc (.cells #[.int .u8 0, .int .i64 0, .int .i64 0, .int .u8 0, .string ⟨#[]⟩, .bool false, .slice none 0 0, .int .i64 0] 40))
            simpa using this
          have nW1_m : CB W1 (w.heap.size + 1) 27 #[.int .i64 kd, .int .u8 fr, .int .u8 t, .int .i64 e, .string mg] := by
            rw [← hW1]
            have := ((CB.new (w.alloc (.cells #[.int .u8 me, .int .i64 ep, .int .i64 st, .int .u8 to, .string cg, .bool kp] 25)) 27 #[.int .i64 kd, .int .u8 fr, .int .u8 t, .int .i64 e, .string mg]).alloc (.cells #[.int .u8 0, .int .i64 0, .int .i64 0, .int .u8 0, .string ⟨#[]⟩, .bool false, .slice none 0 0, .int .i64 0] 40))
            simpa using this
          have nW1_r : CB W1 (w.heap.size + 1 + 1) 40 #[.int .u8 0, .int .i64 0, .int .i64 0, .int .u8 0, .string ⟨#[]⟩, .bool false, .slice none 0 0, .int .i64 0] := by
            rw [← hW1]
            have := (CB.new ((w.alloc (.cells #[.int .u8 me, .int .i64 ep, .int .i64 st, .int .u8 to, .string cg, .bool kp] 25)).alloc (.cells #[.int .i64 kd, .int .u8 fr, .int .u8 t, .int .i64 e, .string mg] 27)) 40 #[.int .u8 0, .int .i64 0, .int .i64 0, .int .u8 0, .string ⟨#[]⟩, .bool false, .slice none 0 0, .int .i64 0])
            simpa using this
          have neW1_01 : w.heap.size ≠ w.heap.size + 1 := by omega
          have neW1_02 : w.heap.size ≠ w.heap.size + 1 + 1 := by omega
          have neW1_12 : w.heap.size + 1 ≠ w.heap.size + 1 + 1 := by omega
          have lW1 : Below w.heap.size w W1 := by rw [← hW1]; exact le_tr (le_tr (le_al _ _) (le_al _ _)) (le_al _ _)
          have HW1 := Lib.hid hW1
          clear hW1
          go_enter Try.func13, Try.ntmps13
          go_wp2_with fail
          rw [HW1.out]
          refine (R1 _).mono ?_
          rintro e w2 ⟨rfl, b2⟩
          have r3_s := le_on nW1_s b2
          have r3_m := le_on nW1_m b2
          have r3_r := le_on nW1_r b2
          have l3 := le_tr lW1 b2
          clear nW1_s nW1_m nW1_r lW1
          clear b2
          have f3_s0 : w2.cell? ⟨w.heap.size, 0, none⟩ = some (.int .u8 me) := CB.cell r3_s 0
          have f3_s1 : w2.cell? ⟨w.heap.size, 1, none⟩ = some (.int .i64 ep) := CB.cell r3_s 1
          have f3_s2 : w2.cell? ⟨w.heap.size, 2, none⟩ = some (.int .i64 st) := CB.cell r3_s 2
          have f3_s3 : w2.cell? ⟨w.heap.size, 3, none⟩ = some (.int .u8 to) := CB.cell r3_s 3
          have f3_s4 : w2.cell? ⟨w.heap.size, 4, none⟩ = some (.string cg) := CB.cell r3_s 4
          have f3_s5 : w2.cell? ⟨w.heap.size, 5, none⟩ = some (.bool kp) := CB.cell r3_s 5
          have f3_m0 : w2.cell? ⟨w.heap.size + 1, 0, none⟩ = some (.int .i64 kd) := CB.cell r3_m 0
          have f3_m1 : w2.cell? ⟨w.heap.size + 1, 1, none⟩ = some (.int .u8 fr) := CB.cell r3_m 1
          have f3_m2 : w2.cell? ⟨w.heap.size + 1, 2, none⟩ = some (.int .u8 t) := CB.cell r3_m 2
          have f3_m3 : w2.cell? ⟨w.heap.size + 1, 3, none⟩ = some (.int .i64 e) := CB.cell r3_m 3
          have f3_m4 : w2.cell? ⟨w.heap.size + 1, 4, none⟩ = some (.string mg) := CB.cell r3_m 4
          go_wp2_with fail
          refine (M1 _).mono ?_
          rintro e w4 ⟨rfl, b4⟩
          clear f3_s0 f3_s1 f3_s2 f3_s3 f3_s4 f3_s5 f3_m0 f3_m1 f3_m2 f3_m3 f3_m4
          have r5_s := le_on r3_s b4
          have r5_m := le_on r3_m b4
          have r5_r := le_on r3_r b4
          have l5 := le_tr l3 b4
          clear r3_s r3_m r3_r l3
          clear b4
          have f5_s0 : w4.cell? ⟨w.heap.size, 0, none⟩ = some (.int .u8 me) := CB.cell r5_s 0
          have f5_s1 : w4.cell? ⟨w.heap.size, 1, none⟩ = some (.int .i64 ep) := CB.cell r5_s 1
          have f5_s2 : w4.cell? ⟨w.heap.size, 2, none⟩ = some (.int .i64 st) := CB.cell r5_s 2
          have f5_s3 : w4.cell? ⟨w.heap.size, 3, none⟩ = some (.int .u8 to) := CB.cell r5_s 3
          have f5_s4 : w4.cell? ⟨w.heap.size, 4, none⟩ = some (.string cg) := CB.cell r5_s 4
          have f5_s5 : w4.cell? ⟨w.heap.size, 5, none⟩ = some (.bool kp) := CB.cell r5_s 5
          have f5_m0 : w4.cell? ⟨w.heap.size + 1, 0, none⟩ = some (.int .i64 kd) := CB.cell r5_m 0
          have f5_m1 : w4.cell? ⟨w.heap.size + 1, 1, none⟩ = some (.int .u8 fr) := CB.cell r5_m 1
          have f5_m2 : w4.cell? ⟨w.heap.size + 1, 2, none⟩ = some (.int .u8 t) := CB.cell r5_m 2
          have f5_m3 : w4.cell? ⟨w.heap.size + 1, 3, none⟩ = some (.int .i64 e) := CB.cell r5_m 3
          have f5_m4 : w4.cell? ⟨w.heap.size + 1, 4, none⟩ = some (.string mg) := CB.cell r5_m 4
          go_wp2_with fail
          refine (O1 _).mono ?_
          rintro e w6 ⟨A, n, q, rfl, hr, b6⟩
          clear f5_s0 f5_s1 f5_s2 f5_s3 f5_s4 f5_s5 f5_m0 f5_m1 f5_m2 f5_m3 f5_m4
          have r7_s := le_on r5_s b6
          have r7_m := le_on r5_m b6
          have r7_r := le_on r5_r b6
          have l7 := le_tr l5 b6
          clear r5_s r5_m r5_r l5
          clear b6
          have g8_z := (RS.far (RS.far (RS.far (RS.far (RS.far (RS.far (RS.far (RS.far hr r7_r (by decide) 0 (.int .u8 zme)) (CB.put r7_r 0 (.int .u8 zme)) (by decide) 1 (.int .i64 zep)) (CB.put (CB.put r7_r 0 (.int .u8 zme)) 1 (.int .i64 zep)) (by decide) 2 (.int .i64 zst)) (CB.put (CB.put (CB.put r7_r 0 (.int .u8 zme)) 1 (.int .i64 zep)) 2 (.int .i64 zst)) (by decide) 3 (.int .u8 zto)) (CB.put (CB.put (CB.put (CB.put r7_r 0 (.int .u8 zme)) 1 (.int .i64 zep)) 2 (.int .i64 zst)) 3 (.int .u8 zto)) (by decide) 4 (.string zcg)) (CB.put (CB.put (CB.put (CB.put (CB.put r7_r 0 (.int .u8 zme)) 1 (.int .i64 zep)) 2 (.int .i64 zst)) 3 (.int .u8 zto)) 4 (.string zcg)) (by decide) 5 (.bool zkp)) (CB.put (CB.put (CB.put (CB.put (CB.put (CB.put r7_r 0 (.int .u8 zme)) 1 (.int .i64 zep)) 2 (.int .i64 zst)) 3 (.int .u8 zto)) 4 (.string zcg)) 5 (.bool zkp)) (by decide) 6 (.slice A n q)) (CB.put (CB.put (CB.put (CB.put (CB.put (CB.put (CB.put r7_r 0 (.int .u8 zme)) 1 (.int .i64 zep)) 2 (.int .i64 zst)) 3 (.int .u8 zto)) 4 (.string zcg)) 5 (.bool zkp)) 6 (.slice A n q)) (by decide) 7 (.int .i64 (ze : Int)))
          have f7_r0 : w6.cell? ⟨w.heap.size + 1 + 1, 0, none⟩ = some (.int .u8 0) := CB.cell r7_r 0
          have z7_r0 : w6.frozen? ⟨w.heap.size + 1 + 1, 0, none⟩ = false := CB.frozen r7_r 0
          have f7_r1 : w6.cell? ⟨w.heap.size + 1 + 1, 1, none⟩ = some (.int .i64 0) := CB.cell r7_r 1
          have z7_r1 : w6.frozen? ⟨w.heap.size + 1 + 1, 1, none⟩ = false := CB.frozen r7_r 1
          have f7_r2 : w6.cell? ⟨w.heap.size + 1 + 1, 2, none⟩ = some (.int .i64 0) := CB.cell r7_r 2
          have z7_r2 : w6.frozen? ⟨w.heap.size + 1 + 1, 2, none⟩ = false := CB.frozen r7_r 2
          have f7_r3 : w6.cell? ⟨w.heap.size + 1 + 1, 3, none⟩ = some (.int .u8 0) := CB.cell r7_r 3
          have z7_r3 : w6.frozen? ⟨w.heap.size + 1 + 1, 3, none⟩ = false := CB.frozen r7_r 3
          have f7_r4 : w6.cell? ⟨w.heap.size + 1 + 1, 4, none⟩ = some (.string ⟨#[]⟩) := CB.cell r7_r 4
          have z7_r4 : w6.frozen? ⟨w.heap.size + 1 + 1, 4, none⟩ = false := CB.frozen r7_r 4
          have f7_r5 : w6.cell? ⟨w.heap.size + 1 + 1, 5, none⟩ = some (.bool false) := CB.cell r7_r 5
          have z7_r5 : w6.frozen? ⟨w.heap.size + 1 + 1, 5, none⟩ = false := CB.frozen r7_r 5
          have f7_r6 : w6.cell? ⟨w.heap.size + 1 + 1, 6, none⟩ = some (.slice none 0 0) := CB.cell r7_r 6
          have z7_r6 : w6.frozen? ⟨w.heap.size + 1 + 1, 6, none⟩ = false := CB.frozen r7_r 6
          have f7_r7 : w6.cell? ⟨w.heap.size + 1 + 1, 7, none⟩ = some (.int .i64 0) := CB.cell r7_r 7
          have z7_r7 : w6.frozen? ⟨w.heap.size + 1 + 1, 7, none⟩ = false := CB.frozen r7_r 7
          obtain ⟨V8, hV8⟩ : ∃ V, (((((((w6.setCell ⟨w.heap.size + 1 + 1, 0, none⟩ (.int .u8 zme)).setCell ⟨w.heap.size + 1 + 1, 1, none⟩ (.int .i64 zep)).setCell ⟨w.heap.size + 1 + 1, 2, none⟩ (.int .i64 zst)).setCell ⟨w.heap.size + 1 + 1, 3, none⟩ (.int .u8 zto)).setCell ⟨w.heap.size + 1 + 1, 4, none⟩ (.string zcg)).setCell ⟨w.heap.size + 1 + 1, 5, none⟩ (.bool zkp)).setCell ⟨w.heap.size + 1 + 1, 6, none⟩ (.slice A n q)).setCell ⟨w.heap.size + 1 + 1, 7, none⟩ (.int .i64 (ze : Int)) = V := ⟨_, rfl⟩
          have nV8 : CB V8 (w.heap.size + 1 + 1) 40 #[.int .u8 zme, .int .i64 zep, .int .i64 zst, .int .u8 zto, .string zcg, .bool zkp, .slice A n q, .int .i64 (ze : Int)] := by rw [← hV8]; exact cb_cast (CB.put (CB.put (CB.put (CB.put (CB.put (CB.put (CB.put (CB.put r7_r 0 (.int .u8 zme)) 1 (.int .i64 zep)) 2 (.int .i64 zst)) 3 (.int .u8 zto)) 4 (.string zcg)) 5 (.bool zkp)) 6 (.slice A n q)) 7 (.int .i64 (ze : Int))) (by kernel_rfl)
          have mV8_s : CB V8 (w.heap.size) 25 #[.int .u8 me, .int .i64 ep, .int .i64 st, .int .u8 to, .string cg, .bool kp] := by rw [← hV8]; exact (CB.far (CB.far (CB.far (CB.far (CB.far (CB.far (CB.far (CB.far r7_s (p := ⟨w.heap.size + 1 + 1, 0, none⟩) neW1_02 (.int .u8 zme)) (p := ⟨w.heap.size + 1 + 1, 1, none⟩) neW1_02 (.int .i64 zep)) (p := ⟨w.heap.size + 1 + 1, 2, none⟩) neW1_02 (.int .i64 zst)) (p := ⟨w.heap.size + 1 + 1, 3, none⟩) neW1_02 (.int .u8 zto)) (p := ⟨w.heap.size + 1 + 1, 4, none⟩) neW1_02 (.string zcg)) (p := ⟨w.heap.size + 1 + 1, 5, none⟩) neW1_02 (.bool zkp)) (p := ⟨w.heap.size + 1 + 1, 6, none⟩) neW1_02 (.slice A n q)) (p := ⟨w.heap.size + 1 + 1, 7, none⟩) neW1_02 (.int .i64 (ze : Int)))
          have mV8_m : CB V8 (w.heap.size + 1) 27 #[.int .i64 kd, .int .u8 fr, .int .u8 t, .int .i64 e, .string mg] := by rw [← hV8]; exact (CB.far (CB.far (CB.far (CB.far (CB.far (CB.far (CB.far (CB.far r7_m (p := ⟨w.heap.size + 1 + 1, 0, none⟩) neW1_12 (.int .u8 zme)) (p := ⟨w.heap.size + 1 + 1, 1, none⟩) neW1_12 (.int .i64 zep)) (p := ⟨w.heap.size + 1 + 1, 2, none⟩) neW1_12 (.int .i64 zst)) (p := ⟨w.heap.size + 1 + 1, 3, none⟩) neW1_12 (.int .u8 zto)) (p := ⟨w.heap.size + 1 + 1, 4, none⟩) neW1_12 (.string zcg)) (p := ⟨w.heap.size + 1 + 1, 5, none⟩) neW1_12 (.bool zkp)) (p := ⟨w.heap.size + 1 + 1, 6, none⟩) neW1_12 (.slice A n q)) (p := ⟨w.heap.size + 1 + 1, 7, none⟩) neW1_12 (.int .i64 (ze : Int)))
          have oV8 := (Below.setCell (Below.setCell (Below.setCell (Below.setCell (Below.setCell (Below.setCell (Below.setCell (Below.setCell l7 (p := ⟨w.heap.size + 1 + 1, 0, none⟩) (by dsimp only; omega) (.int .u8 zme)) (p := ⟨w.heap.size + 1 + 1, 1, none⟩) (by dsimp only; omega) (.int .i64 zep)) (p := ⟨w.heap.size + 1 + 1, 2, none⟩) (by dsimp only; omega) (.int .i64 zst)) (p := ⟨w.heap.size + 1 + 1, 3, none⟩) (by dsimp only; omega) (.int .u8 zto)) (p := ⟨w.heap.size + 1 + 1, 4, none⟩) (by dsimp only; omega) (.string zcg)) (p := ⟨w.heap.size + 1 + 1, 5, none⟩) (by dsimp only; omega) (.bool zkp)) (p := ⟨w.heap.size + 1 + 1, 6, none⟩) (by dsimp only; omega) (.slice A n q)) (p := ⟨w.heap.size + 1 + 1, 7, none⟩) (by dsimp only; omega) (.int .i64 (ze : Int)))
          rw [hV8] at oV8
          have HV8 := Lib.hid hV8
          have V8_eq := hV8
          clear hV8
          clear r7_r r7_s r7_m l7
          have q8_z : RS V8 27 mc 5 A n q zr := by rw [← V8_eq]; exact g8_z
          clear g8_z hr
          clear V8_eq
          go_wp2_with fail
          rw [HV8.out]
          have x_r0 : V8.cell? ⟨w.heap.size + 1 + 1, 0, none⟩ = some (.int .u8 zme) := CB.cell nV8 0
          have x_r1 : V8.cell? ⟨w.heap.size + 1 + 1, 1, none⟩ = some (.int .i64 zep) := CB.cell nV8 1
          have x_r2 : V8.cell? ⟨w.heap.size + 1 + 1, 2, none⟩ = some (.int .i64 zst) := CB.cell nV8 2
          have x_r3 : V8.cell? ⟨w.heap.size + 1 + 1, 3, none⟩ = some (.int .u8 zto) := CB.cell nV8 3
          have x_r4 : V8.cell? ⟨w.heap.size + 1 + 1, 4, none⟩ = some (.string zcg) := CB.cell nV8 4
          have x_r5 : V8.cell? ⟨w.heap.size + 1 + 1, 5, none⟩ = some (.bool zkp) := CB.cell nV8 5
          have x_r6 : V8.cell? ⟨w.heap.size + 1 + 1, 6, none⟩ = some (.slice A n q) := CB.cell nV8 6
          have x_r7 : V8.cell? ⟨w.heap.size + 1 + 1, 7, none⟩ = some (.int .i64 (ze : Int)) := CB.cell nV8 7
          exact bodyPost_ret (v := .agg #[.int .u8 zme, .int .i64 zep, .int .i64 zst, .int .u8 zto, .string zcg, .bool zkp, .slice A n q, .int .i64 (ze : Int)]) (by simp [results, Try.results13, go_sem, x_r0, x_r1, x_r2, x_r3, x_r4, x_r5, x_r6, x_r7]) rfl (TdPost.mk' zme zep zst zto zcg zkp ze _ H.out (q8_z) oV8)
        have hk2 := hk
        clear hk
        by_cases hk : kd = 3
        · skip
          obtain ⟨⟨⟨zme, ⟨zep, zst, zto⟩, zcg, zkp⟩, zr, ze⟩, hd⟩ : ∃ d, hearM ⟨me, ⟨ep, st, to⟩, cg, kp⟩ ⟨kd, fr, t, e, mg⟩ = d := ⟨_, rfl⟩
          have H := Lib.hid hd
          have O1 : ∀ W, Calls Try.prog 44 #[.agg #[.int .u8 me, .int .i64 ep, .int .i64 st, .int .u8 to, .string cg, .bool kp], .agg #[.int .i64 kd, .int .u8 fr, .int .u8 t, .int .i64 e, .string mg]] W (fun r w' => ∃ A n q, r = .returned (.agg #[.int .u8 zme, .int .i64 zep, .int .i64 zst, .int .u8 zto, .string zcg, .bool zkp, .slice A n q, .int .i64 (ze : Int)]) ∧ RS w' 27 mc 5 A n q zr ∧ Below W.heap.size W w') := fun W => by
            have := give_hr me ep st to cg kp kd fr t e mg W hs hm
            rw [if_neg hk2, if_pos hk, hd] at hok
            rw [← hok] at this
            exact this
          have k1 : (kd == 1) = false := by simp [hk]
          have k2 : (kd == 2) = false := by simp [hk]
          have k3 : (kd == 3) = true := by simp [hk]
          clear hR hM hs hm htm hok hd hkd hk hed
          obtain ⟨W1, hW1⟩ : ∃ V, ((w.alloc (.cells #[.int .u8 me, .int .i64 ep, .int .i64 st, .int .u8 to, .string cg, .bool kp] 25)).alloc (.cells #[.int .i64 kd, .int .u8 fr, .int .u8 t, .int .i64 e, .string mg] 27)).alloc (.cells #[.int .u8 0, .int .i64 0, .int .i64 0, .int .u8 0, .string ⟨#[]⟩, .bool false, .slice none 0 0, .int .i64 0] 40) = V := ⟨_, rfl⟩
          have nW1_s : CB W1 (w.heap.size) 25 #[.int .u8 me, .int .i64 ep, .int .i64 st, .int .u8 to, .string cg, .bool kp] := by
            rw [← hW1]
            have := (((CB.new w 25 #[.int .u8 me, .int .i64 ep, .int .i64 st, .int .u8 to, .string cg, .bool kp]).alloc (.cells #[.int .i64 kd, .int .u8 fr, .int .u8 t, .int .i64 e, .string mg] 27)).alloc (.cells #[.int .u8 0, .int .i64 0, .int .i64 0, .int .u8 0, .string ⟨#[]⟩, .bool false, .slice none 0 0, .int .i64 0] 40))
            simpa using this
          have nW1_m : CB W1 (w.heap.size + 1) 27 #[.int .i64 kd, .int .u8 fr, .int .u8 t, .int .i64 e, .string mg] := by
            rw [← hW1]
            have := ((CB.new (w.alloc (.cells #[.int .u8 me, .int .i64 ep, .int .i64 st, .int .u8 to, .string cg, .bool kp] 25)) 27 #[.int .i64 kd, .int .u8 fr, .int .u8 t, .int .i64 e, .string mg]).alloc (.cells #[.int .u8 0, .int .i64 0, .int .i64 0, .int .u8 0, .string ⟨#[]⟩, .bool false, .slice none 0 0, .int .i64 0] 40))
            simpa using this
          have nW1_r : CB W1 (w.heap.size + 1 + 1) 40 #[.int .u8 0, .int .i64 0, .int .i64 0, .int .u8 0, .string ⟨#[]⟩, .bool false, .slice none 0 0, .int .i64 0] := by
            rw [← hW1]
            have := (CB.new ((w.alloc (.cells #[.int .u8 me, .int .i64 ep, .int .i64 st, .int .u8 to, .string cg, .bool kp] 25)).alloc (.cells #[.int .i64 kd, .int .u8 fr, .int .u8 t, .int .i64 e, .string mg] 27)) 40 #[.int .u8 0, .int .i64 0, .int .i64 0, .int .u8 0, .string ⟨#[]⟩, .bool false, .slice none 0 0, .int .i64 0])
            simpa using this
          have neW1_01 : w.heap.size ≠ w.heap.size + 1 := by omega
          have neW1_02 : w.heap.size ≠ w.heap.size + 1 + 1 := by omega
          have neW1_12 : w.heap.size + 1 ≠ w.heap.size + 1 + 1 := by omega
          have lW1 : Below w.heap.size w W1 := by rw [← hW1]; exact le_tr (le_tr (le_al _ _) (le_al _ _)) (le_al _ _)
          have HW1 := Lib.hid hW1
          clear hW1
          go_enter Try.func13, Try.ntmps13
          go_wp2_with fail
          rw [HW1.out]
          refine (R1 _).mono ?_
          rintro e w2 ⟨rfl, b2⟩
          have r3_s := le_on nW1_s b2
          have r3_m := le_on nW1_m b2
          have r3_r := le_on nW1_r b2
          have l3 := le_tr lW1 b2
          clear nW1_s nW1_m nW1_r lW1
          clear b2
          have f3_s0 : w2.cell? ⟨w.heap.size, 0, none⟩ = some (.int .u8 me) := CB.cell r3_s 0
          have f3_s1 : w2.cell? ⟨w.heap.size, 1, none⟩ = some (.int .i64 ep) := CB.cell r3_s 1
          have f3_s2 : w2.cell? ⟨w.heap.size, 2, none⟩ = some (.int .i64 st) := CB.cell r3_s 2
          have f3_s3 : w2.cell? ⟨w.heap.size, 3, none⟩ = some (.int .u8 to) := CB.cell r3_s 3
          have f3_s4 : w2.cell? ⟨w.heap.size, 4, none⟩ = some (.string cg) := CB.cell r3_s 4
          have f3_s5 : w2.cell? ⟨w.heap.size, 5, none⟩ = some (.bool kp) := CB.cell r3_s 5
          have f3_m0 : w2.cell? ⟨w.heap.size + 1, 0, none⟩ = some (.int .i64 kd) := CB.cell r3_m 0
          have f3_m1 : w2.cell? ⟨w.heap.size + 1, 1, none⟩ = some (.int .u8 fr) := CB.cell r3_m 1
          have f3_m2 : w2.cell? ⟨w.heap.size + 1, 2, none⟩ = some (.int .u8 t) := CB.cell r3_m 2
          have f3_m3 : w2.cell? ⟨w.heap.size + 1, 3, none⟩ = some (.int .i64 e) := CB.cell r3_m 3
          have f3_m4 : w2.cell? ⟨w.heap.size + 1, 4, none⟩ = some (.string mg) := CB.cell r3_m 4
          go_wp2_with fail
          refine (M1 _).mono ?_
          rintro e w4 ⟨rfl, b4⟩
          clear f3_s0 f3_s1 f3_s2 f3_s3 f3_s4 f3_s5 f3_m0 f3_m1 f3_m2 f3_m3 f3_m4
          have r5_s := le_on r3_s b4
          have r5_m := le_on r3_m b4
          have r5_r := le_on r3_r b4
          have l5 := le_tr l3 b4
          clear r3_s r3_m r3_r l3
          clear b4
          have f5_s0 : w4.cell? ⟨w.heap.size, 0, none⟩ = some (.int .u8 me) := CB.cell r5_s 0
          have f5_s1 : w4.cell? ⟨w.heap.size, 1, none⟩ = some (.int .i64 ep) := CB.cell r5_s 1
          have f5_s2 : w4.cell? ⟨w.heap.size, 2, none⟩ = some (.int .i64 st) := CB.cell r5_s 2
          have f5_s3 : w4.cell? ⟨w.heap.size, 3, none⟩ = some (.int .u8 to) := CB.cell r5_s 3
          have f5_s4 : w4.cell? ⟨w.heap.size, 4, none⟩ = some (.string cg) := CB.cell r5_s 4
          have f5_s5 : w4.cell? ⟨w.heap.size, 5, none⟩ = some (.bool kp) := CB.cell r5_s 5
          have f5_m0 : w4.cell? ⟨w.heap.size + 1, 0, none⟩ = some (.int .i64 kd) := CB.cell r5_m 0
          have f5_m1 : w4.cell? ⟨w.heap.size + 1, 1, none⟩ = some (.int .u8 fr) := CB.cell r5_m 1
          have f5_m2 : w4.cell? ⟨w.heap.size + 1, 2, none⟩ = some (.int .u8 t) := CB.cell r5_m 2
          have f5_m3 : w4.cell? ⟨w.heap.size + 1, 3, none⟩ = some (.int .i64 e) := CB.cell r5_m 3
          have f5_m4 : w4.cell? ⟨w.heap.size + 1, 4, none⟩ = some (.string mg) := CB.cell r5_m 4
          go_wp2_with fail
          refine (O1 _).mono ?_
          rintro e w6 ⟨A, n, q, rfl, hr, b6⟩
          clear f5_s0 f5_s1 f5_s2 f5_s3 f5_s4 f5_s5 f5_m0 f5_m1 f5_m2 f5_m3 f5_m4
          have r7_s := le_on r5_s b6
          have r7_m := le_on r5_m b6
          have r7_r := le_on r5_r b6
          have l7 := le_tr l5 b6
          clear r5_s r5_m r5_r l5
          clear b6
          have g8_z := (RS.far (RS.far (RS.far (RS.far (RS.far (RS.far (RS.far (RS.far hr r7_r (by decide) 0 (.int .u8 zme)) (CB.put r7_r 0 (.int .u8 zme)) (by decide) 1 (.int .i64 zep)) (CB.put (CB.put r7_r 0 (.int .u8 zme)) 1 (.int .i64 zep)) (by decide) 2 (.int .i64 zst)) (CB.put (CB.put (CB.put r7_r 0 (.int .u8 zme)) 1 (.int .i64 zep)) 2 (.int .i64 zst)) (by decide) 3 (.int .u8 zto)) (CB.put (CB.put (CB.put (CB.put r7_r 0 (.int .u8 zme)) 1 (.int .i64 zep)) 2 (.int .i64 zst)) 3 (.int .u8 zto)) (by decide) 4 (.string zcg)) (CB.put (CB.put (CB.put (CB.put (CB.put r7_r 0 (.int .u8 zme)) 1 (.int .i64 zep)) 2 (.int .i64 zst)) 3 (.int .u8 zto)) 4 (.string zcg)) (by decide) 5 (.bool zkp)) (CB.put (CB.put (CB.put (CB.put (CB.put (CB.put r7_r 0 (.int .u8 zme)) 1 (.int .i64 zep)) 2 (.int .i64 zst)) 3 (.int .u8 zto)) 4 (.string zcg)) 5 (.bool zkp)) (by decide) 6 (.slice A n q)) (CB.put (CB.put (CB.put (CB.put (CB.put (CB.put (CB.put r7_r 0 (.int .u8 zme)) 1 (.int .i64 zep)) 2 (.int .i64 zst)) 3 (.int .u8 zto)) 4 (.string zcg)) 5 (.bool zkp)) 6 (.slice A n q)) (by decide) 7 (.int .i64 (ze : Int)))
          have f7_r0 : w6.cell? ⟨w.heap.size + 1 + 1, 0, none⟩ = some (.int .u8 0) := CB.cell r7_r 0
          have z7_r0 : w6.frozen? ⟨w.heap.size + 1 + 1, 0, none⟩ = false := CB.frozen r7_r 0
          have f7_r1 : w6.cell? ⟨w.heap.size + 1 + 1, 1, none⟩ = some (.int .i64 0) := CB.cell r7_r 1
          have z7_r1 : w6.frozen? ⟨w.heap.size + 1 + 1, 1, none⟩ = false := CB.frozen r7_r 1
          have f7_r2 : w6.cell? ⟨w.heap.size + 1 + 1, 2, none⟩ = some (.int .i64 0) := CB.cell r7_r 2
          have z7_r2 : w6.frozen? ⟨w.heap.size + 1 + 1, 2, none⟩ = false := CB.frozen r7_r 2
          have f7_r3 : w6.cell? ⟨w.heap.size + 1 + 1, 3, none⟩ = some (.int .u8 0) := CB.cell r7_r 3
          have z7_r3 : w6.frozen? ⟨w.heap.size + 1 + 1, 3, none⟩ = false := CB.frozen r7_r 3
          have f7_r4 : w6.cell? ⟨w.heap.size + 1 + 1, 4, none⟩ = some (.string ⟨#[]⟩) := CB.cell r7_r 4
          have z7_r4 : w6.frozen? ⟨w.heap.size + 1 + 1, 4, none⟩ = false := CB.frozen r7_r 4
          have f7_r5 : w6.cell? ⟨w.heap.size + 1 + 1, 5, none⟩ = some (.bool false) := CB.cell r7_r 5
          have z7_r5 : w6.frozen? ⟨w.heap.size + 1 + 1, 5, none⟩ = false := CB.frozen r7_r 5
          have f7_r6 : w6.cell? ⟨w.heap.size + 1 + 1, 6, none⟩ = some (.slice none 0 0) := CB.cell r7_r 6
          have z7_r6 : w6.frozen? ⟨w.heap.size + 1 + 1, 6, none⟩ = false := CB.frozen r7_r 6
          have f7_r7 : w6.cell? ⟨w.heap.size + 1 + 1, 7, none⟩ = some (.int .i64 0) := CB.cell r7_r 7
          have z7_r7 : w6.frozen? ⟨w.heap.size + 1 + 1, 7, none⟩ = false := CB.frozen r7_r 7
          obtain ⟨V8, hV8⟩ : ∃ V, (((((((w6.setCell ⟨w.heap.size + 1 + 1, 0, none⟩ (.int .u8 zme)).setCell ⟨w.heap.size + 1 + 1, 1, none⟩ (.int .i64 zep)).setCell ⟨w.heap.size + 1 + 1, 2, none⟩ (.int .i64 zst)).setCell ⟨w.heap.size + 1 + 1, 3, none⟩ (.int .u8 zto)).setCell ⟨w.heap.size + 1 + 1, 4, none⟩ (.string zcg)).setCell ⟨w.heap.size + 1 + 1, 5, none⟩ (.bool zkp)).setCell ⟨w.heap.size + 1 + 1, 6, none⟩ (.slice A n q)).setCell ⟨w.heap.size + 1 + 1, 7, none⟩ (.int .i64 (ze : Int)) = V := ⟨_, rfl⟩
          have nV8 : CB V8 (w.heap.size + 1 + 1) 40 #[.int .u8 zme, .int .i64 zep, .int .i64 zst, .int .u8 zto, .string zcg, .bool zkp, .slice A n q, .int .i64 (ze : Int)] := by rw [← hV8]; exact cb_cast (CB.put (CB.put (CB.put (CB.put (CB.put (CB.put (CB.put (CB.put r7_r 0 (.int .u8 zme)) 1 (.int .i64 zep)) 2 (.int .i64 zst)) 3 (.int .u8 zto)) 4 (.string zcg)) 5 (.bool zkp)) 6 (.slice A n q)) 7 (.int .i64 (ze : Int))) (by kernel_rfl)
          have mV8_s : CB V8 (w.heap.size) 25 #[.int .u8 me, .int .i64 ep, .int .i64 st, .int .u8 to, .string cg, .bool kp] := by rw [← hV8]; exact (CB.far (CB.far (CB.far (CB.far (CB.far (CB.far (CB.far (CB.far r7_s (p := ⟨w.heap.size + 1 + 1, 0, none⟩) neW1_02 (.int .u8 zme)) (p := ⟨w.heap.size + 1 + 1, 1, none⟩) neW1_02 (.int .i64 zep)) (p := ⟨w.heap.size + 1 + 1, 2, none⟩) neW1_02 (.int .i64 zst)) (p := ⟨w.heap.size + 1 + 1, 3, none⟩) neW1_02 (.int .u8 zto)) (p := ⟨w.heap.size + 1 + 1, 4, none⟩) neW1_02 (.string zcg)) (p := ⟨w.heap.size + 1 + 1, 5, none⟩) neW1_02 (.bool zkp)) (p := ⟨w.heap.size + 1 + 1, 6, none⟩) neW1_02 (.slice A n q)) (p := ⟨w.heap.size + 1 + 1, 7, none⟩) neW1_02 (.int .i64 (ze : Int)))
          have mV8_m : CB V8 (w.heap.size + 1) 27 #[.int .i64 kd, .int .u8 fr, .int .u8 t, .int .i64 e, .string mg] := by rw [← hV8]; exact (CB.far (CB.far (CB.far (CB.far (CB.far (CB.far (CB.far (CB.far r7_m (p := ⟨w.heap.size + 1 + 1, 0, none⟩) neW1_12 (.int .u8 zme)) (p := ⟨w.heap.size + 1 + 1, 1, none⟩) neW1_12 (.int .i64 zep)) (p := ⟨w.heap.size + 1 + 1, 2, none⟩) neW1_12 (.int .i64 zst)) (p := ⟨w.heap.size + 1 + 1, 3, none⟩) neW1_12 (.int .u8 zto)) (p := ⟨w.heap.size + 1 + 1, 4, none⟩) neW1_12 (.string zcg)) (p := ⟨w.heap.size + 1 + 1, 5, none⟩) neW1_12 (.bool zkp)) (p := ⟨w.heap.size + 1 + 1, 6, none⟩) neW1_12 (.slice A n q)) (p := ⟨w.heap.size + 1 + 1, 7, none⟩) neW1_12 (.int .i64 (ze : Int)))
          have oV8 := (Below.setCell (Below.setCell (Below.setCell (Below.setCell (Below.setCell (Below.setCell (Below.setCell (Below.setCell l7 (p := ⟨w.heap.size + 1 + 1, 0, none⟩) (by dsimp only; omega) (.int .u8 zme)) (p := ⟨w.heap.size + 1 + 1, 1, none⟩) (by dsimp only; omega) (.int .i64 zep)) (p := ⟨w.heap.size + 1 + 1, 2, none⟩) (by dsimp only; omega) (.int .i64 zst)) (p := ⟨w.heap.size + 1 + 1, 3, none⟩) (by dsimp only; omega) (.int .u8 zto)) (p := ⟨w.heap.size + 1 + 1, 4, none⟩) (by dsimp only; omega) (.string zcg)) (p := ⟨w.heap.size + 1 + 1, 5, none⟩) (by dsimp only; omega) (.bool zkp)) (p := ⟨w.heap.size + 1 + 1, 6, none⟩) (by dsimp only; omega) (.slice A n q)) (p := ⟨w.heap.size + 1 + 1, 7, none⟩) (by dsimp only; omega) (.int .i64 (ze : Int)))
          rw [hV8] at oV8
          have HV8 := Lib.hid hV8
          have V8_eq := hV8
          clear hV8
          clear r7_r r7_s r7_m l7
          have q8_z : RS V8 27 mc 5 A n q zr := by rw [← V8_eq]; exact g8_z
          clear g8_z hr
          clear V8_eq
          go_wp2_with fail
          rw [HV8.out]
          have x_r0 : V8.cell? ⟨w.heap.size + 1 + 1, 0, none⟩ = some (.int .u8 zme) := CB.cell nV8 0
          have x_r1 : V8.cell? ⟨w.heap.size + 1 + 1, 1, none⟩ = some (.int .i64 zep) := CB.cell nV8 1
          have x_r2 : V8.cell? ⟨w.heap.size + 1 + 1, 2, none⟩ = some (.int .i64 zst) := CB.cell nV8 2
          have x_r3 : V8.cell? ⟨w.heap.size + 1 + 1, 3, none⟩ = some (.int .u8 zto) := CB.cell nV8 3
          have x_r4 : V8.cell? ⟨w.heap.size + 1 + 1, 4, none⟩ = some (.string zcg) := CB.cell nV8 4
          have x_r5 : V8.cell? ⟨w.heap.size + 1 + 1, 5, none⟩ = some (.bool zkp) := CB.cell nV8 5
          have x_r6 : V8.cell? ⟨w.heap.size + 1 + 1, 6, none⟩ = some (.slice A n q) := CB.cell nV8 6
          have x_r7 : V8.cell? ⟨w.heap.size + 1 + 1, 7, none⟩ = some (.int .i64 (ze : Int)) := CB.cell nV8 7
          exact bodyPost_ret (v := .agg #[.int .u8 zme, .int .i64 zep, .int .i64 zst, .int .u8 zto, .string zcg, .bool zkp, .slice A n q, .int .i64 (ze : Int)]) (by simp [results, Try.results13, go_sem, x_r0, x_r1, x_r2, x_r3, x_r4, x_r5, x_r6, x_r7]) rfl (TdPost.mk' zme zep zst zto zcg zkp ze _ H.out (q8_z) oV8)
        have hk3 := hk
        clear hk
        by_cases hk : kd = 1
        · skip
          rw [if_neg hk2, if_neg hk3, if_pos hk] at hok
          have k1 : (kd == 1) = true := by simp [hk]
          have k2 : (kd == 2) = false := by simp [hk]
          have k3 : (kd == 3) = false := by simp [hk]
          by_cases h : e ≤ ep
          · have h' : decide (e ≤ ep) = true := by simp [h]
            have H := Lib.hid (show hearM ⟨me, ⟨ep, st, to⟩, cg, kp⟩ ⟨kd, fr, t, e, mg⟩ = ⟨⟨me, ⟨ep, st, to⟩, cg, kp⟩, [], 10⟩ by rw [hok]; unfold offerM; simp [h])
            clear hR hM hs hm htm hok hkd hk hed h
            obtain ⟨W1, hW1⟩ : ∃ V, ((w.alloc (.cells #[.int .u8 me, .int .i64 ep, .int .i64 st, .int .u8 to, .string cg, .bool kp] 25)).alloc (.cells #[.int .i64 kd, .int .u8 fr, .int .u8 t, .int .i64 e, .string mg] 27)).alloc (.cells #[.int .u8 0, .int .i64 0, .int .i64 0, .int .u8 0, .string ⟨#[]⟩, .bool false, .slice none 0 0, .int .i64 0] 40) = V := ⟨_, rfl⟩
            have nW1_s : CB W1 (w.heap.size) 25 #[.int .u8 me, .int .i64 ep, .int .i64 st, .int .u8 to, .string cg, .bool kp] := by
              rw [← hW1]
              have := (((CB.new w 25 #[.int .u8 me, .int .i64 ep, .int .i64 st, .int .u8 to, .string cg, .bool kp]).alloc (.cells #[.int .i64 kd, .int .u8 fr, .int .u8 t, .int .i64 e, .string mg] 27)).alloc (.cells #[.int .u8 0, .int .i64 0, .int .i64 0, .int .u8 0, .string ⟨#[]⟩, .bool false, .slice none 0 0, .int .i64 0] 40))
              simpa using this
            have nW1_m : CB W1 (w.heap.size + 1) 27 #[.int .i64 kd, .int .u8 fr, .int .u8 t, .int .i64 e, .string mg] := by
              rw [← hW1]
              have := ((CB.new (w.alloc (.cells #[.int .u8 me, .int .i64 ep, .int .i64 st, .int .u8 to, .string cg, .bool kp] 25)) 27 #[.int .i64 kd, .int .u8 fr, .int .u8 t, .int .i64 e, .string mg]).alloc (.cells #[.int .u8 0, .int .i64 0, .int .i64 0, .int .u8 0, .string ⟨#[]⟩, .bool false, .slice none 0 0, .int .i64 0] 40))
              simpa using this
            have nW1_r : CB W1 (w.heap.size + 1 + 1) 40 #[.int .u8 0, .int .i64 0, .int .i64 0, .int .u8 0, .string ⟨#[]⟩, .bool false, .slice none 0 0, .int .i64 0] := by
              rw [← hW1]
              have := (CB.new ((w.alloc (.cells #[.int .u8 me, .int .i64 ep, .int .i64 st, .int .u8 to, .string cg, .bool kp] 25)).alloc (.cells #[.int .i64 kd, .int .u8 fr, .int .u8 t, .int .i64 e, .string mg] 27)) 40 #[.int .u8 0, .int .i64 0, .int .i64 0, .int .u8 0, .string ⟨#[]⟩, .bool false, .slice none 0 0, .int .i64 0])
              simpa using this
            have neW1_01 : w.heap.size ≠ w.heap.size + 1 := by omega
            have neW1_02 : w.heap.size ≠ w.heap.size + 1 + 1 := by omega
            have neW1_12 : w.heap.size + 1 ≠ w.heap.size + 1 + 1 := by omega
            have lW1 : Below w.heap.size w W1 := by rw [← hW1]; exact le_tr (le_tr (le_al _ _) (le_al _ _)) (le_al _ _)
            have HW1 := Lib.hid hW1
            clear hW1
            go_enter Try.func13, Try.ntmps13
            go_wp2_with fail
            rw [HW1.out]
            refine (R1 _).mono ?_
            rintro e w2 ⟨rfl, b2⟩
            have r3_s := le_on nW1_s b2
            have r3_m := le_on nW1_m b2
            have r3_r := le_on nW1_r b2
            have l3 := le_tr lW1 b2
            clear nW1_s nW1_m nW1_r lW1
            clear b2
            have f3_s0 : w2.cell? ⟨w.heap.size, 0, none⟩ = some (.int .u8 me) := CB.cell r3_s 0
            have f3_s1 : w2.cell? ⟨w.heap.size, 1, none⟩ = some (.int .i64 ep) := CB.cell r3_s 1
            have f3_s2 : w2.cell? ⟨w.heap.size, 2, none⟩ = some (.int .i64 st) := CB.cell r3_s 2
            have f3_s3 : w2.cell? ⟨w.heap.size, 3, none⟩ = some (.int .u8 to) := CB.cell r3_s 3
            have f3_s4 : w2.cell? ⟨w.heap.size, 4, none⟩ = some (.string cg) := CB.cell r3_s 4
            have f3_s5 : w2.cell? ⟨w.heap.size, 5, none⟩ = some (.bool kp) := CB.cell r3_s 5
            have f3_m0 : w2.cell? ⟨w.heap.size + 1, 0, none⟩ = some (.int .i64 kd) := CB.cell r3_m 0
            have f3_m1 : w2.cell? ⟨w.heap.size + 1, 1, none⟩ = some (.int .u8 fr) := CB.cell r3_m 1
            have f3_m2 : w2.cell? ⟨w.heap.size + 1, 2, none⟩ = some (.int .u8 t) := CB.cell r3_m 2
            have f3_m3 : w2.cell? ⟨w.heap.size + 1, 3, none⟩ = some (.int .i64 e) := CB.cell r3_m 3
            have f3_m4 : w2.cell? ⟨w.heap.size + 1, 4, none⟩ = some (.string mg) := CB.cell r3_m 4
            go_wp2_with fail
            refine (M1 _).mono ?_
            rintro e w4 ⟨rfl, b4⟩
            clear f3_s0 f3_s1 f3_s2 f3_s3 f3_s4 f3_s5 f3_m0 f3_m1 f3_m2 f3_m3 f3_m4
            have r5_s := le_on r3_s b4
            have r5_m := le_on r3_m b4
            have r5_r := le_on r3_r b4
            have l5 := le_tr l3 b4
            clear r3_s r3_m r3_r l3
            clear b4
            have f5_s0 : w4.cell? ⟨w.heap.size, 0, none⟩ = some (.int .u8 me) := CB.cell r5_s 0
            have f5_s1 : w4.cell? ⟨w.heap.size, 1, none⟩ = some (.int .i64 ep) := CB.cell r5_s 1
            have f5_s2 : w4.cell? ⟨w.heap.size, 2, none⟩ = some (.int .i64 st) := CB.cell r5_s 2
            have f5_s3 : w4.cell? ⟨w.heap.size, 3, none⟩ = some (.int .u8 to) := CB.cell r5_s 3
            have f5_s4 : w4.cell? ⟨w.heap.size, 4, none⟩ = some (.string cg) := CB.cell r5_s 4
            have f5_s5 : w4.cell? ⟨w.heap.size, 5, none⟩ = some (.bool kp) := CB.cell r5_s 5
            have f5_m0 : w4.cell? ⟨w.heap.size + 1, 0, none⟩ = some (.int .i64 kd) := CB.cell r5_m 0
            have f5_m1 : w4.cell? ⟨w.heap.size + 1, 1, none⟩ = some (.int .u8 fr) := CB.cell r5_m 1
            have f5_m2 : w4.cell? ⟨w.heap.size + 1, 2, none⟩ = some (.int .u8 t) := CB.cell r5_m 2
            have f5_m3 : w4.cell? ⟨w.heap.size + 1, 3, none⟩ = some (.int .i64 e) := CB.cell r5_m 3
            have f5_m4 : w4.cell? ⟨w.heap.size + 1, 4, none⟩ = some (.string mg) := CB.cell r5_m 4
            have f5_r0 : w4.cell? ⟨w.heap.size + 1 + 1, 0, none⟩ = some (.int .u8 0) := CB.cell r5_r 0
            have z5_r0 : w4.frozen? ⟨w.heap.size + 1 + 1, 0, none⟩ = false := CB.frozen r5_r 0
            have f5_r1 : w4.cell? ⟨w.heap.size + 1 + 1, 1, none⟩ = some (.int .i64 0) := CB.cell r5_r 1
            have z5_r1 : w4.frozen? ⟨w.heap.size + 1 + 1, 1, none⟩ = false := CB.frozen r5_r 1
            have f5_r2 : w4.cell? ⟨w.heap.size + 1 + 1, 2, none⟩ = some (.int .i64 0) := CB.cell r5_r 2
            have z5_r2 : w4.frozen? ⟨w.heap.size + 1 + 1, 2, none⟩ = false := CB.frozen r5_r 2
            have f5_r3 : w4.cell? ⟨w.heap.size + 1 + 1, 3, none⟩ = some (.int .u8 0) := CB.cell r5_r 3
            have z5_r3 : w4.frozen? ⟨w.heap.size + 1 + 1, 3, none⟩ = false := CB.frozen r5_r 3
            have f5_r4 : w4.cell? ⟨w.heap.size + 1 + 1, 4, none⟩ = some (.string ⟨#[]⟩) := CB.cell r5_r 4
            have z5_r4 : w4.frozen? ⟨w.heap.size + 1 + 1, 4, none⟩ = false := CB.frozen r5_r 4
            have f5_r5 : w4.cell? ⟨w.heap.size + 1 + 1, 5, none⟩ = some (.bool false) := CB.cell r5_r 5
            have z5_r5 : w4.frozen? ⟨w.heap.size + 1 + 1, 5, none⟩ = false := CB.frozen r5_r 5
            have f5_r6 : w4.cell? ⟨w.heap.size + 1 + 1, 6, none⟩ = some (.slice none 0 0) := CB.cell r5_r 6
            have z5_r6 : w4.frozen? ⟨w.heap.size + 1 + 1, 6, none⟩ = false := CB.frozen r5_r 6
            have f5_r7 : w4.cell? ⟨w.heap.size + 1 + 1, 7, none⟩ = some (.int .i64 0) := CB.cell r5_r 7
            have z5_r7 : w4.frozen? ⟨w.heap.size + 1 + 1, 7, none⟩ = false := CB.frozen r5_r 7
            obtain ⟨V6, hV6⟩ : ∃ V, (((((((w4.setCell ⟨w.heap.size + 1 + 1, 0, none⟩ (.int .u8 me)).setCell ⟨w.heap.size + 1 + 1, 1, none⟩ (.int .i64 ep)).setCell ⟨w.heap.size + 1 + 1, 2, none⟩ (.int .i64 st)).setCell ⟨w.heap.size + 1 + 1, 3, none⟩ (.int .u8 to)).setCell ⟨w.heap.size + 1 + 1, 4, none⟩ (.string cg)).setCell ⟨w.heap.size + 1 + 1, 5, none⟩ (.bool kp)).setCell ⟨w.heap.size + 1 + 1, 6, none⟩ (.slice none 0 0)).setCell ⟨w.heap.size + 1 + 1, 7, none⟩ (.int .i64 10) = V := ⟨_, rfl⟩
            have nV6 : CB V6 (w.heap.size + 1 + 1) 40 #[.int .u8 me, .int .i64 ep, .int .i64 st, .int .u8 to, .string cg, .bool kp, .slice none 0 0, .int .i64 10] := by rw [← hV6]; exact cb_cast (CB.put (CB.put (CB.put (CB.put (CB.put (CB.put (CB.put (CB.put r5_r 0 (.int .u8 me)) 1 (.int .i64 ep)) 2 (.int .i64 st)) 3 (.int .u8 to)) 4 (.string cg)) 5 (.bool kp)) 6 (.slice none 0 0)) 7 (.int .i64 10)) (by kernel_rfl)
            have mV6_s : CB V6 (w.heap.size) 25 #[.int .u8 me, .int .i64 ep, .int .i64 st, .int .u8 to, .string cg, .bool kp] := by rw [← hV6]; exact (CB.far (CB.far (CB.far (CB.far (CB.far (CB.far (CB.far (CB.far r5_s (p := ⟨w.heap.size + 1 + 1, 0, none⟩) neW1_02 (.int .u8 me)) (p := ⟨w.heap.size + 1 + 1, 1, none⟩) neW1_02 (.int .i64 ep)) (p := ⟨w.heap.size + 1 + 1, 2, none⟩) neW1_02 (.int .i64 st)) (p := ⟨w.heap.size + 1 + 1, 3, none⟩) neW1_02 (.int .u8 to)) (p := ⟨w.heap.size + 1 + 1, 4, none⟩) neW1_02 (.string cg)) (p := ⟨w.heap.size + 1 + 1, 5, none⟩) neW1_02 (.bool kp)) (p := ⟨w.heap.size + 1 + 1, 6, none⟩) neW1_02 (.slice none 0 0)) (p := ⟨w.heap.size + 1 + 1, 7, none⟩) neW1_02 (.int .i64 10))
            have mV6_m : CB V6 (w.heap.size + 1) 27 #[.int .i64 kd, .int .u8 fr, .int .u8 t, .int .i64 e, .string mg] := by rw [← hV6]; exact (CB.far (CB.far (CB.far (CB.far (CB.far (CB.far (CB.far (CB.far r5_m (p := ⟨w.heap.size + 1 + 1, 0, none⟩) neW1_12 (.int .u8 me)) (p := ⟨w.heap.size + 1 + 1, 1, none⟩) neW1_12 (.int .i64 ep)) (p := ⟨w.heap.size + 1 + 1, 2, none⟩) neW1_12 (.int .i64 st)) (p := ⟨w.heap.size + 1 + 1, 3, none⟩) neW1_12 (.int .u8 to)) (p := ⟨w.heap.size + 1 + 1, 4, none⟩) neW1_12 (.string cg)) (p := ⟨w.heap.size + 1 + 1, 5, none⟩) neW1_12 (.bool kp)) (p := ⟨w.heap.size + 1 + 1, 6, none⟩) neW1_12 (.slice none 0 0)) (p := ⟨w.heap.size + 1 + 1, 7, none⟩) neW1_12 (.int .i64 10))
            have oV6 := (Below.setCell (Below.setCell (Below.setCell (Below.setCell (Below.setCell (Below.setCell (Below.setCell (Below.setCell l5 (p := ⟨w.heap.size + 1 + 1, 0, none⟩) (by dsimp only; omega) (.int .u8 me)) (p := ⟨w.heap.size + 1 + 1, 1, none⟩) (by dsimp only; omega) (.int .i64 ep)) (p := ⟨w.heap.size + 1 + 1, 2, none⟩) (by dsimp only; omega) (.int .i64 st)) (p := ⟨w.heap.size + 1 + 1, 3, none⟩) (by dsimp only; omega) (.int .u8 to)) (p := ⟨w.heap.size + 1 + 1, 4, none⟩) (by dsimp only; omega) (.string cg)) (p := ⟨w.heap.size + 1 + 1, 5, none⟩) (by dsimp only; omega) (.bool kp)) (p := ⟨w.heap.size + 1 + 1, 6, none⟩) (by dsimp only; omega) (.slice none 0 0)) (p := ⟨w.heap.size + 1 + 1, 7, none⟩) (by dsimp only; omega) (.int .i64 10))
            rw [hV6] at oV6
            have HV6 := Lib.hid hV6
            clear hV6
            clear r5_r r5_s r5_m l5
            go_wp2_with fail
            rw [HV6.out]
            have x_r0 : V6.cell? ⟨w.heap.size + 1 + 1, 0, none⟩ = some (.int .u8 me) := CB.cell nV6 0
            have x_r1 : V6.cell? ⟨w.heap.size + 1 + 1, 1, none⟩ = some (.int .i64 ep) := CB.cell nV6 1
            have x_r2 : V6.cell? ⟨w.heap.size + 1 + 1, 2, none⟩ = some (.int .i64 st) := CB.cell nV6 2
            have x_r3 : V6.cell? ⟨w.heap.size + 1 + 1, 3, none⟩ = some (.int .u8 to) := CB.cell nV6 3
            have x_r4 : V6.cell? ⟨w.heap.size + 1 + 1, 4, none⟩ = some (.string cg) := CB.cell nV6 4
            have x_r5 : V6.cell? ⟨w.heap.size + 1 + 1, 5, none⟩ = some (.bool kp) := CB.cell nV6 5
            have x_r6 : V6.cell? ⟨w.heap.size + 1 + 1, 6, none⟩ = some (.slice none 0 0) := CB.cell nV6 6
            have x_r7 : V6.cell? ⟨w.heap.size + 1 + 1, 7, none⟩ = some (.int .i64 10) := CB.cell nV6 7
            exact bodyPost_ret (v := .agg #[.int .u8 me, .int .i64 ep, .int .i64 st, .int .u8 to, .string cg, .bool kp, .slice none 0 0, .int .i64 10]) (by simp [results, Try.results13, go_sem, x_r0, x_r1, x_r2, x_r3, x_r4, x_r5, x_r6, x_r7]) rfl (TdPost.mk' me ep st to cg kp 10 [] H.out (RS.nil _ _ _ _) oV6)
          · have h' : decide (e ≤ ep) = false := by simp; omega
            have H := Lib.hid (show hearM ⟨me, ⟨ep, st, to⟩, cg, kp⟩ ⟨kd, fr, t, e, mg⟩ = ⟨⟨me, ⟨ep, st, to⟩, cg, kp⟩, [⟨2, me, fr, e, ⟨#[]⟩⟩], 0⟩ by rw [hok]; unfold offerM; simp [h])
            clear hR hM hs hm htm hok hkd hk hed h
            obtain ⟨W1, hW1⟩ : ∃ V, ((w.alloc (.cells #[.int .u8 me, .int .i64 ep, .int .i64 st, .int .u8 to, .string cg, .bool kp] 25)).alloc (.cells #[.int .i64 kd, .int .u8 fr, .int .u8 t, .int .i64 e, .string mg] 27)).alloc (.cells #[.int .u8 0, .int .i64 0, .int .i64 0, .int .u8 0, .string ⟨#[]⟩, .bool false, .slice none 0 0, .int .i64 0] 40) = V := ⟨_, rfl⟩
            have nW1_s : CB W1 (w.heap.size) 25 #[.int .u8 me, .int .i64 ep, .int .i64 st, .int .u8 to, .string cg, .bool kp] := by
              rw [← hW1]
              have := (((CB.new w 25 #[.int .u8 me, .int .i64 ep, .int .i64 st, .int .u8 to, .string cg, .bool kp]).alloc (.cells #[.int .i64 kd, .int .u8 fr, .int .u8 t, .int .i64 e, .string mg] 27)).alloc (.cells #[.int .u8 0, .int .i64 0, .int .i64 0, .int .u8 0, .string ⟨#[]⟩, .bool false, .slice none 0 0, .int .i64 0] 40))
              simpa using this
            have nW1_m : CB W1 (w.heap.size + 1) 27 #[.int .i64 kd, .int .u8 fr, .int .u8 t, .int .i64 e, .string mg] := by
              rw [← hW1]
              have := ((CB.new (w.alloc (.cells #[.int .u8 me, .int .i64 ep, .int .i64 st, .int .u8 to, .string cg, .bool kp] 25)) 27 #[.int .i64 kd, .int .u8 fr, .int .u8 t, .int .i64 e, .string mg]).alloc (.cells #[.int .u8 0, .int .i64 0, .int .i64 0, .int .u8 0, .string ⟨#[]⟩, .bool false, .slice none 0 0, .int .i64 0] 40))
              simpa using this
            have nW1_r : CB W1 (w.heap.size + 1 + 1) 40 #[.int .u8 0, .int .i64 0, .int .i64 0, .int .u8 0, .string ⟨#[]⟩, .bool false, .slice none 0 0, .int .i64 0] := by
              rw [← hW1]
              have := (CB.new ((w.alloc (.cells #[.int .u8 me, .int .i64 ep, .int .i64 st, .int .u8 to, .string cg, .bool kp] 25)).alloc (.cells #[.int .i64 kd, .int .u8 fr, .int .u8 t, .int .i64 e, .string mg] 27)) 40 #[.int .u8 0, .int .i64 0, .int .i64 0, .int .u8 0, .string ⟨#[]⟩, .bool false, .slice none 0 0, .int .i64 0])
              simpa using this
            have neW1_01 : w.heap.size ≠ w.heap.size + 1 := by omega
            have neW1_02 : w.heap.size ≠ w.heap.size + 1 + 1 := by omega
            have neW1_12 : w.heap.size + 1 ≠ w.heap.size + 1 + 1 := by omega
            have lW1 : Below w.heap.size w W1 := by rw [← hW1]; exact le_tr (le_tr (le_al _ _) (le_al _ _)) (le_al _ _)
            have HW1 := Lib.hid hW1
            clear hW1
            go_enter Try.func13, Try.ntmps13
            go_wp2_with fail
            rw [HW1.out]
            refine (R1 _).mono ?_
            rintro e w2 ⟨rfl, b2⟩
            have r3_s := le_on nW1_s b2
            have r3_m := le_on nW1_m b2
            have r3_r := le_on nW1_r b2
            have l3 := le_tr lW1 b2
            clear nW1_s nW1_m nW1_r lW1
            clear b2
            have f3_s0 : w2.cell? ⟨w.heap.size, 0, none⟩ = some (.int .u8 me) := CB.cell r3_s 0
            have f3_s1 : w2.cell? ⟨w.heap.size, 1, none⟩ = some (.int .i64 ep) := CB.cell r3_s 1
            have f3_s2 : w2.cell? ⟨w.heap.size, 2, none⟩ = some (.int .i64 st) := CB.cell r3_s 2
            have f3_s3 : w2.cell? ⟨w.heap.size, 3, none⟩ = some (.int .u8 to) := CB.cell r3_s 3
            have f3_s4 : w2.cell? ⟨w.heap.size, 4, none⟩ = some (.string cg) := CB.cell r3_s 4
            have f3_s5 : w2.cell? ⟨w.heap.size, 5, none⟩ = some (.bool kp) := CB.cell r3_s 5
            have f3_m0 : w2.cell? ⟨w.heap.size + 1, 0, none⟩ = some (.int .i64 kd) := CB.cell r3_m 0
            have f3_m1 : w2.cell? ⟨w.heap.size + 1, 1, none⟩ = some (.int .u8 fr) := CB.cell r3_m 1
            have f3_m2 : w2.cell? ⟨w.heap.size + 1, 2, none⟩ = some (.int .u8 t) := CB.cell r3_m 2
            have f3_m3 : w2.cell? ⟨w.heap.size + 1, 3, none⟩ = some (.int .i64 e) := CB.cell r3_m 3
            have f3_m4 : w2.cell? ⟨w.heap.size + 1, 4, none⟩ = some (.string mg) := CB.cell r3_m 4
            go_wp2_with fail
            refine (M1 _).mono ?_
            rintro e w4 ⟨rfl, b4⟩
            clear f3_s0 f3_s1 f3_s2 f3_s3 f3_s4 f3_s5 f3_m0 f3_m1 f3_m2 f3_m3 f3_m4
            have r5_s := le_on r3_s b4
            have r5_m := le_on r3_m b4
            have r5_r := le_on r3_r b4
            have l5 := le_tr l3 b4
            clear r3_s r3_m r3_r l3
            clear b4
            have f5_s0 : w4.cell? ⟨w.heap.size, 0, none⟩ = some (.int .u8 me) := CB.cell r5_s 0
            have f5_s1 : w4.cell? ⟨w.heap.size, 1, none⟩ = some (.int .i64 ep) := CB.cell r5_s 1
            have f5_s2 : w4.cell? ⟨w.heap.size, 2, none⟩ = some (.int .i64 st) := CB.cell r5_s 2
            have f5_s3 : w4.cell? ⟨w.heap.size, 3, none⟩ = some (.int .u8 to) := CB.cell r5_s 3
            have f5_s4 : w4.cell? ⟨w.heap.size, 4, none⟩ = some (.string cg) := CB.cell r5_s 4
            have f5_s5 : w4.cell? ⟨w.heap.size, 5, none⟩ = some (.bool kp) := CB.cell r5_s 5
            have f5_m0 : w4.cell? ⟨w.heap.size + 1, 0, none⟩ = some (.int .i64 kd) := CB.cell r5_m 0
            have f5_m1 : w4.cell? ⟨w.heap.size + 1, 1, none⟩ = some (.int .u8 fr) := CB.cell r5_m 1
            have f5_m2 : w4.cell? ⟨w.heap.size + 1, 2, none⟩ = some (.int .u8 t) := CB.cell r5_m 2
            have f5_m3 : w4.cell? ⟨w.heap.size + 1, 3, none⟩ = some (.int .i64 e) := CB.cell r5_m 3
            have f5_m4 : w4.cell? ⟨w.heap.size + 1, 4, none⟩ = some (.string mg) := CB.cell r5_m 4
            have av_z : w.heap.size ≤ w4.heap.size := by have := l5.size; omega
            obtain ⟨W6, hW6⟩ : ∃ V, w4.alloc (.cells #[.int .i64 2, .int .u8 me, .int .u8 fr, .int .i64 e, .string ⟨#[]⟩] 27) = V := ⟨_, rfl⟩
            have zW6 : w4.heap.size = w4.heap.size := by rfl
            have nW6 : CB W6 (w4.heap.size) 27 #[.int .i64 2, .int .u8 me, .int .u8 fr, .int .i64 e, .string ⟨#[]⟩] := by rw [← zW6, ← hW6]; exact CB.new _ _ _
            have bW6 : Below w4.heap.size w4 W6 := by rw [← hW6]; exact le_al _ _
            have neW6_s : w.heap.size ≠ w4.heap.size := by have := CB.lt r5_s; omega
            have neW6_m : w.heap.size + 1 ≠ w4.heap.size := by have := CB.lt r5_m; omega
            have neW6_r : w.heap.size + 1 + 1 ≠ w4.heap.size := by have := CB.lt r5_r; omega
            have HW6 := Lib.hid hW6
            clear hW6 zW6
            have r7_s := le_on r5_s bW6
            have r7_m := le_on r5_m bW6
            have r7_r := le_on r5_r bW6
            have l7 := le_tr l5 bW6
            clear r5_s r5_m r5_r l5
            clear bW6
            have f7_r0 : (w4.alloc (.cells #[.int .i64 2, .int .u8 me, .int .u8 fr, .int .i64 e, .string ⟨#[]⟩] 27)).cell? ⟨w.heap.size + 1 + 1, 0, none⟩ = some (.int .u8 0) := by rw [HW6.out]; exact CB.cell r7_r 0
            have z7_r0 : (w4.alloc (.cells #[.int .i64 2, .int .u8 me, .int .u8 fr, .int .i64 e, .string ⟨#[]⟩] 27)).frozen? ⟨w.heap.size + 1 + 1, 0, none⟩ = false := by rw [HW6.out]; exact CB.frozen r7_r 0
            have f7_r1 : (w4.alloc (.cells #[.int .i64 2, .int .u8 me, .int .u8 fr, .int .i64 e, .string ⟨#[]⟩] 27)).cell? ⟨w.heap.size + 1 + 1, 1, none⟩ = some (.int .i64 0) := by rw [HW6.out]; exact CB.cell r7_r 1
            have z7_r1 : (w4.alloc (.cells #[.int .i64 2, .int .u8 me, .int .u8 fr, .int .i64 e, .string ⟨#[]⟩] 27)).frozen? ⟨w.heap.size + 1 + 1, 1, none⟩ = false := by rw [HW6.out]; exact CB.frozen r7_r 1
            have f7_r2 : (w4.alloc (.cells #[.int .i64 2, .int .u8 me, .int .u8 fr, .int .i64 e, .string ⟨#[]⟩] 27)).cell? ⟨w.heap.size + 1 + 1, 2, none⟩ = some (.int .i64 0) := by rw [HW6.out]; exact CB.cell r7_r 2
            have z7_r2 : (w4.alloc (.cells #[.int .i64 2, .int .u8 me, .int .u8 fr, .int .i64 e, .string ⟨#[]⟩] 27)).frozen? ⟨w.heap.size + 1 + 1, 2, none⟩ = false := by rw [HW6.out]; exact CB.frozen r7_r 2
            have f7_r3 : (w4.alloc (.cells #[.int .i64 2, .int .u8 me, .int .u8 fr, .int .i64 e, .string ⟨#[]⟩] 27)).cell? ⟨w.heap.size + 1 + 1, 3, none⟩ = some (.int .u8 0) := by rw [HW6.out]; exact CB.cell r7_r 3
            have z7_r3 : (w4.alloc (.cells #[.int .i64 2, .int .u8 me, .int .u8 fr, .int .i64 e, .string ⟨#[]⟩] 27)).frozen? ⟨w.heap.size + 1 + 1, 3, none⟩ = false := by rw [HW6.out]; exact CB.frozen r7_r 3
            have f7_r4 : (w4.alloc (.cells #[.int .i64 2, .int .u8 me, .int .u8 fr, .int .i64 e, .string ⟨#[]⟩] 27)).cell? ⟨w.heap.size + 1 + 1, 4, none⟩ = some (.string ⟨#[]⟩) := by rw [HW6.out]; exact CB.cell r7_r 4
            have z7_r4 : (w4.alloc (.cells #[.int .i64 2, .int .u8 me, .int .u8 fr, .int .i64 e, .string ⟨#[]⟩] 27)).frozen? ⟨w.heap.size + 1 + 1, 4, none⟩ = false := by rw [HW6.out]; exact CB.frozen r7_r 4
            have f7_r5 : (w4.alloc (.cells #[.int .i64 2, .int .u8 me, .int .u8 fr, .int .i64 e, .string ⟨#[]⟩] 27)).cell? ⟨w.heap.size + 1 + 1, 5, none⟩ = some (.bool false) := by rw [HW6.out]; exact CB.cell r7_r 5
            have z7_r5 : (w4.alloc (.cells #[.int .i64 2, .int .u8 me, .int .u8 fr, .int .i64 e, .string ⟨#[]⟩] 27)).frozen? ⟨w.heap.size + 1 + 1, 5, none⟩ = false := by rw [HW6.out]; exact CB.frozen r7_r 5
            have f7_r6 : (w4.alloc (.cells #[.int .i64 2, .int .u8 me, .int .u8 fr, .int .i64 e, .string ⟨#[]⟩] 27)).cell? ⟨w.heap.size + 1 + 1, 6, none⟩ = some (.slice none 0 0) := by rw [HW6.out]; exact CB.cell r7_r 6
            have z7_r6 : (w4.alloc (.cells #[.int .i64 2, .int .u8 me, .int .u8 fr, .int .i64 e, .string ⟨#[]⟩] 27)).frozen? ⟨w.heap.size + 1 + 1, 6, none⟩ = false := by rw [HW6.out]; exact CB.frozen r7_r 6
            have f7_r7 : (w4.alloc (.cells #[.int .i64 2, .int .u8 me, .int .u8 fr, .int .i64 e, .string ⟨#[]⟩] 27)).cell? ⟨w.heap.size + 1 + 1, 7, none⟩ = some (.int .i64 0) := by rw [HW6.out]; exact CB.cell r7_r 7
            have z7_r7 : (w4.alloc (.cells #[.int .i64 2, .int .u8 me, .int .u8 fr, .int .i64 e, .string ⟨#[]⟩] 27)).frozen? ⟨w.heap.size + 1 + 1, 7, none⟩ = false := by rw [HW6.out]; exact CB.frozen r7_r 7
            obtain ⟨V8, hV8⟩ : ∃ V, (((((((W6.setCell ⟨w.heap.size + 1 + 1, 0, none⟩ (.int .u8 me)).setCell ⟨w.heap.size + 1 + 1, 1, none⟩ (.int .i64 ep)).setCell ⟨w.heap.size + 1 + 1, 2, none⟩ (.int .i64 st)).setCell ⟨w.heap.size + 1 + 1, 3, none⟩ (.int .u8 to)).setCell ⟨w.heap.size + 1 + 1, 4, none⟩ (.string cg)).setCell ⟨w.heap.size + 1 + 1, 5, none⟩ (.bool kp)).setCell ⟨w.heap.size + 1 + 1, 6, none⟩ (.slice (some ⟨w4.heap.size, 0, none⟩) 1 1)).setCell ⟨w.heap.size + 1 + 1, 7, none⟩ (.int .i64 0) = V := ⟨_, rfl⟩
            have nV8 : CB V8 (w.heap.size + 1 + 1) 40 #[.int .u8 me, .int .i64 ep, .int .i64 st, .int .u8 to, .string cg, .bool kp, .slice (some ⟨w4.heap.size, 0, none⟩) 1 1, .int .i64 0] := by rw [← hV8]; exact cb_cast (CB.put (CB.put (CB.put (CB.put (CB.put (CB.put (CB.put (CB.put r7_r 0 (.int .u8 me)) 1 (.int .i64 ep)) 2 (.int .i64 st)) 3 (.int .u8 to)) 4 (.string cg)) 5 (.bool kp)) 6 (.slice (some ⟨w4.heap.size, 0, none⟩) 1 1)) 7 (.int .i64 0)) (by kernel_rfl)
            have mV8_s : CB V8 (w.heap.size) 25 #[.int .u8 me, .int .i64 ep, .int .i64 st, .int .u8 to, .string cg, .bool kp] := by rw [← hV8]; exact (CB.far (CB.far (CB.far (CB.far (CB.far (CB.far (CB.far (CB.far r7_s (p := ⟨w.heap.size + 1 + 1, 0, none⟩) neW1_02 (.int .u8 me)) (p := ⟨w.heap.size + 1 + 1, 1, none⟩) neW1_02 (.int .i64 ep)) (p := ⟨w.heap.size + 1 + 1, 2, none⟩) neW1_02 (.int .i64 st)) (p := ⟨w.heap.size + 1 + 1, 3, none⟩) neW1_02 (.int .u8 to)) (p := ⟨w.heap.size + 1 + 1, 4, none⟩) neW1_02 (.string cg)) (p := ⟨w.heap.size + 1 + 1, 5, none⟩) neW1_02 (.bool kp)) (p := ⟨w.heap.size + 1 + 1, 6, none⟩) neW1_02 (.slice (some ⟨w4.heap.size, 0, none⟩) 1 1)) (p := ⟨w.heap.size + 1 + 1, 7, none⟩) neW1_02 (.int .i64 0))
            have mV8_m : CB V8 (w.heap.size + 1) 27 #[.int .i64 kd, .int .u8 fr, .int .u8 t, .int .i64 e, .string mg] := by rw [← hV8]; exact (CB.far (CB.far (CB.far (CB.far (CB.far (CB.far (CB.far (CB.far r7_m (p := ⟨w.heap.size + 1 + 1, 0, none⟩) neW1_12 (.int .u8 me)) (p := ⟨w.heap.size + 1 + 1, 1, none⟩) neW1_12 (.int .i64 ep)) (p := ⟨w.heap.size + 1 + 1, 2, none⟩) neW1_12 (.int .i64 st)) (p := ⟨w.heap.size + 1 + 1, 3, none⟩) neW1_12 (.int .u8 to)) (p := ⟨w.heap.size + 1 + 1, 4, none⟩) neW1_12 (.string cg)) (p := ⟨w.heap.size + 1 + 1, 5, none⟩) neW1_12 (.bool kp)) (p := ⟨w.heap.size + 1 + 1, 6, none⟩) neW1_12 (.slice (some ⟨w4.heap.size, 0, none⟩) 1 1)) (p := ⟨w.heap.size + 1 + 1, 7, none⟩) neW1_12 (.int .i64 0))
            have mV8_z : CB V8 (w4.heap.size) 27 #[.int .i64 2, .int .u8 me, .int .u8 fr, .int .i64 e, .string ⟨#[]⟩] := by rw [← hV8]; exact (CB.far (CB.far (CB.far (CB.far (CB.far (CB.far (CB.far (CB.far nW6 (p := ⟨w.heap.size + 1 + 1, 0, none⟩) (Ne.symm neW6_r) (.int .u8 me)) (p := ⟨w.heap.size + 1 + 1, 1, none⟩) (Ne.symm neW6_r) (.int .i64 ep)) (p := ⟨w.heap.size + 1 + 1, 2, none⟩) (Ne.symm neW6_r) (.int .i64 st)) (p := ⟨w.heap.size + 1 + 1, 3, none⟩) (Ne.symm neW6_r) (.int .u8 to)) (p := ⟨w.heap.size + 1 + 1, 4, none⟩) (Ne.symm neW6_r) (.string cg)) (p := ⟨w.heap.size + 1 + 1, 5, none⟩) (Ne.symm neW6_r) (.bool kp)) (p := ⟨w.heap.size + 1 + 1, 6, none⟩) (Ne.symm neW6_r) (.slice (some ⟨w4.heap.size, 0, none⟩) 1 1)) (p := ⟨w.heap.size + 1 + 1, 7, none⟩) (Ne.symm neW6_r) (.int .i64 0))
            have oV8 := (Below.setCell (Below.setCell (Below.setCell (Below.setCell (Below.setCell (Below.setCell (Below.setCell (Below.setCell l7 (p := ⟨w.heap.size + 1 + 1, 0, none⟩) (by dsimp only; omega) (.int .u8 me)) (p := ⟨w.heap.size + 1 + 1, 1, none⟩) (by dsimp only; omega) (.int .i64 ep)) (p := ⟨w.heap.size + 1 + 1, 2, none⟩) (by dsimp only; omega) (.int .i64 st)) (p := ⟨w.heap.size + 1 + 1, 3, none⟩) (by dsimp only; omega) (.int .u8 to)) (p := ⟨w.heap.size + 1 + 1, 4, none⟩) (by dsimp only; omega) (.string cg)) (p := ⟨w.heap.size + 1 + 1, 5, none⟩) (by dsimp only; omega) (.bool kp)) (p := ⟨w.heap.size + 1 + 1, 6, none⟩) (by dsimp only; omega) (.slice (some ⟨w4.heap.size, 0, none⟩) 1 1)) (p := ⟨w.heap.size + 1 + 1, 7, none⟩) (by dsimp only; omega) (.int .i64 0))
            rw [hV8] at oV8
            have HV8 := Lib.hid (show ((((((((w4.alloc (.cells #[.int .i64 2, .int .u8 me, .int .u8 fr, .int .i64 e, .string ⟨#[]⟩] 27)).setCell ⟨w.heap.size + 1 + 1, 0, none⟩ (.int .u8 me)).setCell ⟨w.heap.size + 1 + 1, 1, none⟩ (.int .i64 ep)).setCell ⟨w.heap.size + 1 + 1, 2, none⟩ (.int .i64 st)).setCell ⟨w.heap.size + 1 + 1, 3, none⟩ (.int .u8 to)).setCell ⟨w.heap.size + 1 + 1, 4, none⟩ (.string cg)).setCell ⟨w.heap.size + 1 + 1, 5, none⟩ (.bool kp)).setCell ⟨w.heap.size + 1 + 1, 6, none⟩ (.slice (some ⟨w4.heap.size, 0, none⟩) 1 1)).setCell ⟨w.heap.size + 1 + 1, 7, none⟩ (.int .i64 0) = V8 by rw [HW6.out]; exact hV8)
            clear hV8
            clear r7_r r7_s r7_m nW6 l7
            go_wp2_with fail
            rw [HV8.out]
            have x_r0 : V8.cell? ⟨w.heap.size + 1 + 1, 0, none⟩ = some (.int .u8 me) := CB.cell nV8 0
            have x_r1 : V8.cell? ⟨w.heap.size + 1 + 1, 1, none⟩ = some (.int .i64 ep) := CB.cell nV8 1
            have x_r2 : V8.cell? ⟨w.heap.size + 1 + 1, 2, none⟩ = some (.int .i64 st) := CB.cell nV8 2
            have x_r3 : V8.cell? ⟨w.heap.size + 1 + 1, 3, none⟩ = some (.int .u8 to) := CB.cell nV8 3
            have x_r4 : V8.cell? ⟨w.heap.size + 1 + 1, 4, none⟩ = some (.string cg) := CB.cell nV8 4
            have x_r5 : V8.cell? ⟨w.heap.size + 1 + 1, 5, none⟩ = some (.bool kp) := CB.cell nV8 5
            have x_r6 : V8.cell? ⟨w.heap.size + 1 + 1, 6, none⟩ = some (.slice (some ⟨w4.heap.size, 0, none⟩) 1 1) := CB.cell nV8 6
            have x_r7 : V8.cell? ⟨w.heap.size + 1 + 1, 7, none⟩ = some (.int .i64 0) := CB.cell nV8 7
            exact bodyPost_ret (v := .agg #[.int .u8 me, .int .i64 ep, .int .i64 st, .int .u8 to, .string cg, .bool kp, .slice (some ⟨w4.heap.size, 0, none⟩) 1 1, .int .i64 0]) (by simp [results, Try.results13, go_sem, x_r0, x_r1, x_r2, x_r3, x_r4, x_r5, x_r6, x_r7]) rfl (TdPost.mk' me ep st to cg kp 0 _ H.out (RS.of_cb mV8_z) oV8)
        have hk1 := hk
        clear hk
        have hk : kd = 4 := by omega
        rw [if_neg hk2, if_neg hk3, if_neg hk1] at hok
        have k1 : (kd == 1) = false := by simp [hk]
        have k2 : (kd == 2) = false := by simp [hk]
        have k3 : (kd == 3) = false := by simp [hk]
        clear hk1 hk2 hk3
        by_cases hg : st = 2 ∧ ep = e - 1 ∧ to = fr ∧ kp = true
        · have t1 : (st != 2) = false := by simp [hg.1]
          have t2 : (ep != e - 1) = false := by simp [hg.2.1]
          have t3 : (to != fr) = false := by simp [hg.2.2.1]
          have t4 := hg.2.2.2
          have H := Lib.hid (show hearM ⟨me, ⟨ep, st, to⟩, cg, kp⟩ ⟨kd, fr, t, e, mg⟩ = ⟨⟨me, ⟨ep, st, to⟩, ⟨#[]⟩, false⟩, [], 0⟩ by rw [hok]; unfold gotM; simp only; rw [if_pos hg])
          clear hR hM hs hm htm hok hkd hk hg
          subst t4
          obtain ⟨W1, hW1⟩ : ∃ V, ((w.alloc (.cells #[.int .u8 me, .int .i64 ep, .int .i64 st, .int .u8 to, .string cg, .bool true] 25)).alloc (.cells #[.int .i64 kd, .int .u8 fr, .int .u8 t, .int .i64 e, .string mg] 27)).alloc (.cells #[.int .u8 0, .int .i64 0, .int .i64 0, .int .u8 0, .string ⟨#[]⟩, .bool false, .slice none 0 0, .int .i64 0] 40) = V := ⟨_, rfl⟩
          have nW1_s : CB W1 (w.heap.size) 25 #[.int .u8 me, .int .i64 ep, .int .i64 st, .int .u8 to, .string cg, .bool true] := by
            rw [← hW1]
            have := (((CB.new w 25 #[.int .u8 me, .int .i64 ep, .int .i64 st, .int .u8 to, .string cg, .bool true]).alloc (.cells #[.int .i64 kd, .int .u8 fr, .int .u8 t, .int .i64 e, .string mg] 27)).alloc (.cells #[.int .u8 0, .int .i64 0, .int .i64 0, .int .u8 0, .string ⟨#[]⟩, .bool false, .slice none 0 0, .int .i64 0] 40))
            simpa using this
          have nW1_m : CB W1 (w.heap.size + 1) 27 #[.int .i64 kd, .int .u8 fr, .int .u8 t, .int .i64 e, .string mg] := by
            rw [← hW1]
            have := ((CB.new (w.alloc (.cells #[.int .u8 me, .int .i64 ep, .int .i64 st, .int .u8 to, .string cg, .bool true] 25)) 27 #[.int .i64 kd, .int .u8 fr, .int .u8 t, .int .i64 e, .string mg]).alloc (.cells #[.int .u8 0, .int .i64 0, .int .i64 0, .int .u8 0, .string ⟨#[]⟩, .bool false, .slice none 0 0, .int .i64 0] 40))
            simpa using this
          have nW1_r : CB W1 (w.heap.size + 1 + 1) 40 #[.int .u8 0, .int .i64 0, .int .i64 0, .int .u8 0, .string ⟨#[]⟩, .bool false, .slice none 0 0, .int .i64 0] := by
            rw [← hW1]
            have := (CB.new ((w.alloc (.cells #[.int .u8 me, .int .i64 ep, .int .i64 st, .int .u8 to, .string cg, .bool true] 25)).alloc (.cells #[.int .i64 kd, .int .u8 fr, .int .u8 t, .int .i64 e, .string mg] 27)) 40 #[.int .u8 0, .int .i64 0, .int .i64 0, .int .u8 0, .string ⟨#[]⟩, .bool false, .slice none 0 0, .int .i64 0])
            simpa using this
          have neW1_01 : w.heap.size ≠ w.heap.size + 1 := by omega
          have neW1_02 : w.heap.size ≠ w.heap.size + 1 + 1 := by omega
          have neW1_12 : w.heap.size + 1 ≠ w.heap.size + 1 + 1 := by omega
          have lW1 : Below w.heap.size w W1 := by rw [← hW1]; exact le_tr (le_tr (le_al _ _) (le_al _ _)) (le_al _ _)
          have HW1 := Lib.hid hW1
          clear hW1
          go_enter Try.func13, Try.ntmps13
          go_wp2_with fail
          rw [HW1.out]
          refine (R1 _).mono ?_
          rintro e w2 ⟨rfl, b2⟩
          have r3_s := le_on nW1_s b2
          have r3_m := le_on nW1_m b2
          have r3_r := le_on nW1_r b2
          have l3 := le_tr lW1 b2
          clear nW1_s nW1_m nW1_r lW1
          clear b2
          have f3_s0 : w2.cell? ⟨w.heap.size, 0, none⟩ = some (.int .u8 me) := CB.cell r3_s 0
          have f3_s1 : w2.cell? ⟨w.heap.size, 1, none⟩ = some (.int .i64 ep) := CB.cell r3_s 1
          have f3_s2 : w2.cell? ⟨w.heap.size, 2, none⟩ = some (.int .i64 st) := CB.cell r3_s 2
          have f3_s3 : w2.cell? ⟨w.heap.size, 3, none⟩ = some (.int .u8 to) := CB.cell r3_s 3
          have f3_s4 : w2.cell? ⟨w.heap.size, 4, none⟩ = some (.string cg) := CB.cell r3_s 4
          have f3_s5 : w2.cell? ⟨w.heap.size, 5, none⟩ = some (.bool true) := CB.cell r3_s 5
          have f3_m0 : w2.cell? ⟨w.heap.size + 1, 0, none⟩ = some (.int .i64 kd) := CB.cell r3_m 0
          have f3_m1 : w2.cell? ⟨w.heap.size + 1, 1, none⟩ = some (.int .u8 fr) := CB.cell r3_m 1
          have f3_m2 : w2.cell? ⟨w.heap.size + 1, 2, none⟩ = some (.int .u8 t) := CB.cell r3_m 2
          have f3_m3 : w2.cell? ⟨w.heap.size + 1, 3, none⟩ = some (.int .i64 e) := CB.cell r3_m 3
          have f3_m4 : w2.cell? ⟨w.heap.size + 1, 4, none⟩ = some (.string mg) := CB.cell r3_m 4
          go_wp2_with fail
          refine (M1 _).mono ?_
          rintro e w4 ⟨rfl, b4⟩
          clear f3_s0 f3_s1 f3_s2 f3_s3 f3_s4 f3_s5 f3_m0 f3_m1 f3_m2 f3_m3 f3_m4
          have r5_s := le_on r3_s b4
          have r5_m := le_on r3_m b4
          have r5_r := le_on r3_r b4
          have l5 := le_tr l3 b4
          clear r3_s r3_m r3_r l3
          clear b4
          have f5_s0 : w4.cell? ⟨w.heap.size, 0, none⟩ = some (.int .u8 me) := CB.cell r5_s 0
          have f5_s1 : w4.cell? ⟨w.heap.size, 1, none⟩ = some (.int .i64 ep) := CB.cell r5_s 1
          have f5_s2 : w4.cell? ⟨w.heap.size, 2, none⟩ = some (.int .i64 st) := CB.cell r5_s 2
          have f5_s3 : w4.cell? ⟨w.heap.size, 3, none⟩ = some (.int .u8 to) := CB.cell r5_s 3
          have f5_s4 : w4.cell? ⟨w.heap.size, 4, none⟩ = some (.string cg) := CB.cell r5_s 4
          have f5_s5 : w4.cell? ⟨w.heap.size, 5, none⟩ = some (.bool true) := CB.cell r5_s 5
          have f5_m0 : w4.cell? ⟨w.heap.size + 1, 0, none⟩ = some (.int .i64 kd) := CB.cell r5_m 0
          have f5_m1 : w4.cell? ⟨w.heap.size + 1, 1, none⟩ = some (.int .u8 fr) := CB.cell r5_m 1
          have f5_m2 : w4.cell? ⟨w.heap.size + 1, 2, none⟩ = some (.int .u8 t) := CB.cell r5_m 2
          have f5_m3 : w4.cell? ⟨w.heap.size + 1, 3, none⟩ = some (.int .i64 e) := CB.cell r5_m 3
          have f5_m4 : w4.cell? ⟨w.heap.size + 1, 4, none⟩ = some (.string mg) := CB.cell r5_m 4
          have av_l : w.heap.size ≤ w4.heap.size := by have := l5.size; omega
          obtain ⟨W6, hW6⟩ : ∃ V, w4.alloc (.cells #[.int .i64 ep, .int .i64 st, .int .u8 to] 23) = V := ⟨_, rfl⟩
          have zW6 : w4.heap.size = w4.heap.size := by rfl
          have nW6 : CB W6 (w4.heap.size) 23 #[.int .i64 ep, .int .i64 st, .int .u8 to] := by rw [← zW6, ← hW6]; exact CB.new _ _ _
          have bW6 : Below w4.heap.size w4 W6 := by rw [← hW6]; exact le_al _ _
          have neW6_s : w.heap.size ≠ w4.heap.size := by have := CB.lt r5_s; omega
          have neW6_m : w.heap.size + 1 ≠ w4.heap.size := by have := CB.lt r5_m; omega
          have neW6_r : w.heap.size + 1 + 1 ≠ w4.heap.size := by have := CB.lt r5_r; omega
          have HW6 := Lib.hid hW6
          clear hW6 zW6
          have r7_s := le_on r5_s bW6
          have r7_m := le_on r5_m bW6
          have r7_r := le_on r5_r bW6
          have l7 := le_tr l5 bW6
          clear r5_s r5_m r5_r l5
          clear bW6
          have f7_s0 : (w4.alloc (.cells #[.int .i64 ep, .int .i64 st, .int .u8 to] 23)).cell? ⟨w.heap.size, 0, none⟩ = some (.int .u8 me) := by rw [HW6.out]; exact CB.cell r7_s 0
          have f7_s1 : (w4.alloc (.cells #[.int .i64 ep, .int .i64 st, .int .u8 to] 23)).cell? ⟨w.heap.size, 1, none⟩ = some (.int .i64 ep) := by rw [HW6.out]; exact CB.cell r7_s 1
          have f7_s2 : (w4.alloc (.cells #[.int .i64 ep, .int .i64 st, .int .u8 to] 23)).cell? ⟨w.heap.size, 2, none⟩ = some (.int .i64 st) := by rw [HW6.out]; exact CB.cell r7_s 2
          have f7_s3 : (w4.alloc (.cells #[.int .i64 ep, .int .i64 st, .int .u8 to] 23)).cell? ⟨w.heap.size, 3, none⟩ = some (.int .u8 to) := by rw [HW6.out]; exact CB.cell r7_s 3
          have f7_s4 : (w4.alloc (.cells #[.int .i64 ep, .int .i64 st, .int .u8 to] 23)).cell? ⟨w.heap.size, 4, none⟩ = some (.string cg) := by rw [HW6.out]; exact CB.cell r7_s 4
          have f7_s5 : (w4.alloc (.cells #[.int .i64 ep, .int .i64 st, .int .u8 to] 23)).cell? ⟨w.heap.size, 5, none⟩ = some (.bool true) := by rw [HW6.out]; exact CB.cell r7_s 5
          have f7_m0 : (w4.alloc (.cells #[.int .i64 ep, .int .i64 st, .int .u8 to] 23)).cell? ⟨w.heap.size + 1, 0, none⟩ = some (.int .i64 kd) := by rw [HW6.out]; exact CB.cell r7_m 0
          have f7_m1 : (w4.alloc (.cells #[.int .i64 ep, .int .i64 st, .int .u8 to] 23)).cell? ⟨w.heap.size + 1, 1, none⟩ = some (.int .u8 fr) := by rw [HW6.out]; exact CB.cell r7_m 1
          have f7_m2 : (w4.alloc (.cells #[.int .i64 ep, .int .i64 st, .int .u8 to] 23)).cell? ⟨w.heap.size + 1, 2, none⟩ = some (.int .u8 t) := by rw [HW6.out]; exact CB.cell r7_m 2
          have f7_m3 : (w4.alloc (.cells #[.int .i64 ep, .int .i64 st, .int .u8 to] 23)).cell? ⟨w.heap.size + 1, 3, none⟩ = some (.int .i64 e) := by rw [HW6.out]; exact CB.cell r7_m 3
          have f7_m4 : (w4.alloc (.cells #[.int .i64 ep, .int .i64 st, .int .u8 to] 23)).cell? ⟨w.heap.size + 1, 4, none⟩ = some (.string mg) := by rw [HW6.out]; exact CB.cell r7_m 4
          have f7_l0 : (w4.alloc (.cells #[.int .i64 ep, .int .i64 st, .int .u8 to] 23)).cell? ⟨w4.heap.size, 0, none⟩ = some (.int .i64 ep) := by rw [HW6.out]; exact CB.cell nW6 0
          have f7_l1 : (w4.alloc (.cells #[.int .i64 ep, .int .i64 st, .int .u8 to] 23)).cell? ⟨w4.heap.size, 1, none⟩ = some (.int .i64 st) := by rw [HW6.out]; exact CB.cell nW6 1
          have f7_l2 : (w4.alloc (.cells #[.int .i64 ep, .int .i64 st, .int .u8 to] 23)).cell? ⟨w4.heap.size, 2, none⟩ = some (.int .u8 to) := by rw [HW6.out]; exact CB.cell nW6 2
          have f7_s0 : (w4.alloc (.cells #[.int .i64 ep, .int .i64 st, .int .u8 to] 23)).cell? ⟨w.heap.size, 0, none⟩ = some (.int .u8 me) := by rw [HW6.out]; exact CB.cell r7_s 0
          have z7_s0 : (w4.alloc (.cells #[.int .i64 ep, .int .i64 st, .int .u8 to] 23)).frozen? ⟨w.heap.size, 0, none⟩ = false := by rw [HW6.out]; exact CB.frozen r7_s 0
          have f7_s1 : (w4.alloc (.cells #[.int .i64 ep, .int .i64 st, .int .u8 to] 23)).cell? ⟨w.heap.size, 1, none⟩ = some (.int .i64 ep) := by rw [HW6.out]; exact CB.cell r7_s 1
          have z7_s1 : (w4.alloc (.cells #[.int .i64 ep, .int .i64 st, .int .u8 to] 23)).frozen? ⟨w.heap.size, 1, none⟩ = false := by rw [HW6.out]; exact CB.frozen r7_s 1
          have f7_s2 : (w4.alloc (.cells #[.int .i64 ep, .int .i64 st, .int .u8 to] 23)).cell? ⟨w.heap.size, 2, none⟩ = some (.int .i64 st) := by rw [HW6.out]; exact CB.cell r7_s 2
          have z7_s2 : (w4.alloc (.cells #[.int .i64 ep, .int .i64 st, .int .u8 to] 23)).frozen? ⟨w.heap.size, 2, none⟩ = false := by rw [HW6.out]; exact CB.frozen r7_s 2
          have f7_s3 : (w4.alloc (.cells #[.int .i64 ep, .int .i64 st, .int .u8 to] 23)).cell? ⟨w.heap.size, 3, none⟩ = some (.int .u8 to) := by rw [HW6.out]; exact CB.cell r7_s 3
          have z7_s3 : (w4.alloc (.cells #[.int .i64 ep, .int .i64 st, .int .u8 to] 23)).frozen? ⟨w.heap.size, 3, none⟩ = false := by rw [HW6.out]; exact CB.frozen r7_s 3
          have f7_s4 : (w4.alloc (.cells #[.int .i64 ep, .int .i64 st, .int .u8 to] 23)).cell? ⟨w.heap.size, 4, none⟩ = some (.string cg) := by rw [HW6.out]; exact CB.cell r7_s 4
          have z7_s4 : (w4.alloc (.cells #[.int .i64 ep, .int .i64 st, .int .u8 to] 23)).frozen? ⟨w.heap.size, 4, none⟩ = false := by rw [HW6.out]; exact CB.frozen r7_s 4
          have f7_s5 : (w4.alloc (.cells #[.int .i64 ep, .int .i64 st, .int .u8 to] 23)).cell? ⟨w.heap.size, 5, none⟩ = some (.bool true) := by rw [HW6.out]; exact CB.cell r7_s 5
          have z7_s5 : (w4.alloc (.cells #[.int .i64 ep, .int .i64 st, .int .u8 to] 23)).frozen? ⟨w.heap.size, 5, none⟩ = false := by rw [HW6.out]; exact CB.frozen r7_s 5
          obtain ⟨V8, hV8⟩ : ∃ V, (W6.setCell ⟨w.heap.size, 4, none⟩ (.string ⟨#[]⟩)).setCell ⟨w.heap.size, 5, none⟩ (.bool false) = V := ⟨_, rfl⟩
          have nV8 : CB V8 (w.heap.size) 25 #[.int .u8 me, .int .i64 ep, .int .i64 st, .int .u8 to, .string ⟨#[]⟩, .bool false] := by rw [← hV8]; exact cb_cast (CB.put (CB.put r7_s 4 (.string ⟨#[]⟩)) 5 (.bool false)) (by kernel_rfl)
          have mV8_m : CB V8 (w.heap.size + 1) 27 #[.int .i64 kd, .int .u8 fr, .int .u8 t, .int .i64 e, .string mg] := by rw [← hV8]; exact (CB.far (CB.far r7_m (p := ⟨w.heap.size, 4, none⟩) (Ne.symm neW1_01) (.string ⟨#[]⟩)) (p := ⟨w.heap.size, 5, none⟩) (Ne.symm neW1_01) (.bool false))
          have mV8_r : CB V8 (w.heap.size + 1 + 1) 40 #[.int .u8 0, .int .i64 0, .int .i64 0, .int .u8 0, .string ⟨#[]⟩, .bool false, .slice none 0 0, .int .i64 0] := by rw [← hV8]; exact (CB.far (CB.far r7_r (p := ⟨w.heap.size, 4, none⟩) (Ne.symm neW1_02) (.string ⟨#[]⟩)) (p := ⟨w.heap.size, 5, none⟩) (Ne.symm neW1_02) (.bool false))
          have mV8_l : CB V8 (w4.heap.size) 23 #[.int .i64 ep, .int .i64 st, .int .u8 to] := by rw [← hV8]; exact (CB.far (CB.far nW6 (p := ⟨w.heap.size, 4, none⟩) (Ne.symm neW6_s) (.string ⟨#[]⟩)) (p := ⟨w.heap.size, 5, none⟩) (Ne.symm neW6_s) (.bool false))
          have oV8 := (Below.setCell (Below.setCell l7 (p := ⟨w.heap.size, 4, none⟩) (by dsimp only; omega) (.string ⟨#[]⟩)) (p := ⟨w.heap.size, 5, none⟩) (by dsimp only; omega) (.bool false))
          rw [hV8] at oV8
          have HV8 := Lib.hid (show ((w4.alloc (.cells #[.int .i64 ep, .int .i64 st, .int .u8 to] 23)).setCell ⟨w.heap.size, 4, none⟩ (.string ⟨#[]⟩)).setCell ⟨w.heap.size, 5, none⟩ (.bool false) = V8 by rw [HW6.out]; exact hV8)
          clear hV8
          clear r7_s r7_m r7_r nW6 l7
          have f8_s0 : (((w4.alloc (.cells #[.int .i64 ep, .int .i64 st, .int .u8 to] 23)).setCell ⟨w.heap.size, 4, none⟩ (.string ⟨#[]⟩)).setCell ⟨w.heap.size, 5, none⟩ (.bool false)).cell? ⟨w.heap.size, 0, none⟩ = some (.int .u8 me) := by rw [HV8.out]; exact CB.cell nV8 0
          have f8_s1 : (((w4.alloc (.cells #[.int .i64 ep, .int .i64 st, .int .u8 to] 23)).setCell ⟨w.heap.size, 4, none⟩ (.string ⟨#[]⟩)).setCell ⟨w.heap.size, 5, none⟩ (.bool false)).cell? ⟨w.heap.size, 1, none⟩ = some (.int .i64 ep) := by rw [HV8.out]; exact CB.cell nV8 1
          have f8_s2 : (((w4.alloc (.cells #[.int .i64 ep, .int .i64 st, .int .u8 to] 23)).setCell ⟨w.heap.size, 4, none⟩ (.string ⟨#[]⟩)).setCell ⟨w.heap.size, 5, none⟩ (.bool false)).cell? ⟨w.heap.size, 2, none⟩ = some (.int .i64 st) := by rw [HV8.out]; exact CB.cell nV8 2
          have f8_s3 : (((w4.alloc (.cells #[.int .i64 ep, .int .i64 st, .int .u8 to] 23)).setCell ⟨w.heap.size, 4, none⟩ (.string ⟨#[]⟩)).setCell ⟨w.heap.size, 5, none⟩ (.bool false)).cell? ⟨w.heap.size, 3, none⟩ = some (.int .u8 to) := by rw [HV8.out]; exact CB.cell nV8 3
          have f8_s4 : (((w4.alloc (.cells #[.int .i64 ep, .int .i64 st, .int .u8 to] 23)).setCell ⟨w.heap.size, 4, none⟩ (.string ⟨#[]⟩)).setCell ⟨w.heap.size, 5, none⟩ (.bool false)).cell? ⟨w.heap.size, 4, none⟩ = some (.string ⟨#[]⟩) := by rw [HV8.out]; exact CB.cell nV8 4
          have f8_s5 : (((w4.alloc (.cells #[.int .i64 ep, .int .i64 st, .int .u8 to] 23)).setCell ⟨w.heap.size, 4, none⟩ (.string ⟨#[]⟩)).setCell ⟨w.heap.size, 5, none⟩ (.bool false)).cell? ⟨w.heap.size, 5, none⟩ = some (.bool false) := by rw [HV8.out]; exact CB.cell nV8 5
          have f8_r0 : (((w4.alloc (.cells #[.int .i64 ep, .int .i64 st, .int .u8 to] 23)).setCell ⟨w.heap.size, 4, none⟩ (.string ⟨#[]⟩)).setCell ⟨w.heap.size, 5, none⟩ (.bool false)).cell? ⟨w.heap.size + 1 + 1, 0, none⟩ = some (.int .u8 0) := by rw [HV8.out]; exact CB.cell mV8_r 0
          have z8_r0 : (((w4.alloc (.cells #[.int .i64 ep, .int .i64 st, .int .u8 to] 23)).setCell ⟨w.heap.size, 4, none⟩ (.string ⟨#[]⟩)).setCell ⟨w.heap.size, 5, none⟩ (.bool false)).frozen? ⟨w.heap.size + 1 + 1, 0, none⟩ = false := by rw [HV8.out]; exact CB.frozen mV8_r 0
          have f8_r1 : (((w4.alloc (.cells #[.int .i64 ep, .int .i64 st, .int .u8 to] 23)).setCell ⟨w.heap.size, 4, none⟩ (.string ⟨#[]⟩)).setCell ⟨w.heap.size, 5, none⟩ (.bool false)).cell? ⟨w.heap.size + 1 + 1, 1, none⟩ = some (.int .i64 0) := by rw [HV8.out]; exact CB.cell mV8_r 1
          have z8_r1 : (((w4.alloc (.cells #[.int .i64 ep, .int .i64 st, .int .u8 to] 23)).setCell ⟨w.heap.size, 4, none⟩ (.string ⟨#[]⟩)).setCell ⟨w.heap.size, 5, none⟩ (.bool false)).frozen? ⟨w.heap.size + 1 + 1, 1, none⟩ = false := by rw [HV8.out]; exact CB.frozen mV8_r 1
          have f8_r2 : (((w4.alloc (.cells #[.int .i64 ep, .int .i64 st, .int .u8 to] 23)).setCell ⟨w.heap.size, 4, none⟩ (.string ⟨#[]⟩)).setCell ⟨w.heap.size, 5, none⟩ (.bool false)).cell? ⟨w.heap.size + 1 + 1, 2, none⟩ = some (.int .i64 0) := by rw [HV8.out]; exact CB.cell mV8_r 2
          have z8_r2 : (((w4.alloc (.cells #[.int .i64 ep, .int .i64 st, .int .u8 to] 23)).setCell ⟨w.heap.size, 4, none⟩ (.string ⟨#[]⟩)).setCell ⟨w.heap.size, 5, none⟩ (.bool false)).frozen? ⟨w.heap.size + 1 + 1, 2, none⟩ = false := by rw [HV8.out]; exact CB.frozen mV8_r 2
          have f8_r3 : (((w4.alloc (.cells #[.int .i64 ep, .int .i64 st, .int .u8 to] 23)).setCell ⟨w.heap.size, 4, none⟩ (.string ⟨#[]⟩)).setCell ⟨w.heap.size, 5, none⟩ (.bool false)).cell? ⟨w.heap.size + 1 + 1, 3, none⟩ = some (.int .u8 0) := by rw [HV8.out]; exact CB.cell mV8_r 3
          have z8_r3 : (((w4.alloc (.cells #[.int .i64 ep, .int .i64 st, .int .u8 to] 23)).setCell ⟨w.heap.size, 4, none⟩ (.string ⟨#[]⟩)).setCell ⟨w.heap.size, 5, none⟩ (.bool false)).frozen? ⟨w.heap.size + 1 + 1, 3, none⟩ = false := by rw [HV8.out]; exact CB.frozen mV8_r 3
          have f8_r4 : (((w4.alloc (.cells #[.int .i64 ep, .int .i64 st, .int .u8 to] 23)).setCell ⟨w.heap.size, 4, none⟩ (.string ⟨#[]⟩)).setCell ⟨w.heap.size, 5, none⟩ (.bool false)).cell? ⟨w.heap.size + 1 + 1, 4, none⟩ = some (.string ⟨#[]⟩) := by rw [HV8.out]; exact CB.cell mV8_r 4
          have z8_r4 : (((w4.alloc (.cells #[.int .i64 ep, .int .i64 st, .int .u8 to] 23)).setCell ⟨w.heap.size, 4, none⟩ (.string ⟨#[]⟩)).setCell ⟨w.heap.size, 5, none⟩ (.bool false)).frozen? ⟨w.heap.size + 1 + 1, 4, none⟩ = false := by rw [HV8.out]; exact CB.frozen mV8_r 4
          have f8_r5 : (((w4.alloc (.cells #[.int .i64 ep, .int .i64 st, .int .u8 to] 23)).setCell ⟨w.heap.size, 4, none⟩ (.string ⟨#[]⟩)).setCell ⟨w.heap.size, 5, none⟩ (.bool false)).cell? ⟨w.heap.size + 1 + 1, 5, none⟩ = some (.bool false) := by rw [HV8.out]; exact CB.cell mV8_r 5
          have z8_r5 : (((w4.alloc (.cells #[.int .i64 ep, .int .i64 st, .int .u8 to] 23)).setCell ⟨w.heap.size, 4, none⟩ (.string ⟨#[]⟩)).setCell ⟨w.heap.size, 5, none⟩ (.bool false)).frozen? ⟨w.heap.size + 1 + 1, 5, none⟩ = false := by rw [HV8.out]; exact CB.frozen mV8_r 5
          have f8_r6 : (((w4.alloc (.cells #[.int .i64 ep, .int .i64 st, .int .u8 to] 23)).setCell ⟨w.heap.size, 4, none⟩ (.string ⟨#[]⟩)).setCell ⟨w.heap.size, 5, none⟩ (.bool false)).cell? ⟨w.heap.size + 1 + 1, 6, none⟩ = some (.slice none 0 0) := by rw [HV8.out]; exact CB.cell mV8_r 6
          have z8_r6 : (((w4.alloc (.cells #[.int .i64 ep, .int .i64 st, .int .u8 to] 23)).setCell ⟨w.heap.size, 4, none⟩ (.string ⟨#[]⟩)).setCell ⟨w.heap.size, 5, none⟩ (.bool false)).frozen? ⟨w.heap.size + 1 + 1, 6, none⟩ = false := by rw [HV8.out]; exact CB.frozen mV8_r 6
          have f8_r7 : (((w4.alloc (.cells #[.int .i64 ep, .int .i64 st, .int .u8 to] 23)).setCell ⟨w.heap.size, 4, none⟩ (.string ⟨#[]⟩)).setCell ⟨w.heap.size, 5, none⟩ (.bool false)).cell? ⟨w.heap.size + 1 + 1, 7, none⟩ = some (.int .i64 0) := by rw [HV8.out]; exact CB.cell mV8_r 7
          have z8_r7 : (((w4.alloc (.cells #[.int .i64 ep, .int .i64 st, .int .u8 to] 23)).setCell ⟨w.heap.size, 4, none⟩ (.string ⟨#[]⟩)).setCell ⟨w.heap.size, 5, none⟩ (.bool false)).frozen? ⟨w.heap.size + 1 + 1, 7, none⟩ = false := by rw [HV8.out]; exact CB.frozen mV8_r 7
          obtain ⟨V9, hV9⟩ : ∃ V, (((((((V8.setCell ⟨w.heap.size + 1 + 1, 0, none⟩ (.int .u8 me)).setCell ⟨w.heap.size + 1 + 1, 1, none⟩ (.int .i64 ep)).setCell ⟨w.heap.size + 1 + 1, 2, none⟩ (.int .i64 st)).setCell ⟨w.heap.size + 1 + 1, 3, none⟩ (.int .u8 to)).setCell ⟨w.heap.size + 1 + 1, 4, none⟩ (.string ⟨#[]⟩)).setCell ⟨w.heap.size + 1 + 1, 5, none⟩ (.bool false)).setCell ⟨w.heap.size + 1 + 1, 6, none⟩ (.slice none 0 0)).setCell ⟨w.heap.size + 1 + 1, 7, none⟩ (.int .i64 0) = V := ⟨_, rfl⟩
          have nV9 : CB V9 (w.heap.size + 1 + 1) 40 #[.int .u8 me, .int .i64 ep, .int .i64 st, .int .u8 to, .string ⟨#[]⟩, .bool false, .slice none 0 0, .int .i64 0] := by rw [← hV9]; exact cb_cast (CB.put (CB.put (CB.put (CB.put (CB.put (CB.put (CB.put (CB.put mV8_r 0 (.int .u8 me)) 1 (.int .i64 ep)) 2 (.int .i64 st)) 3 (.int .u8 to)) 4 (.string ⟨#[]⟩)) 5 (.bool false)) 6 (.slice none 0 0)) 7 (.int .i64 0)) (by kernel_rfl)
          have mV9_s : CB V9 (w.heap.size) 25 #[.int .u8 me, .int .i64 ep, .int .i64 st, .int .u8 to, .string ⟨#[]⟩, .bool false] := by rw [← hV9]; exact (CB.far (CB.far (CB.far (CB.far (CB.far (CB.far (CB.far (CB.far nV8 (p := ⟨w.heap.size + 1 + 1, 0, none⟩) neW1_02 (.int .u8 me)) (p := ⟨w.heap.size + 1 + 1, 1, none⟩) neW1_02 (.int .i64 ep)) (p := ⟨w.heap.size + 1 + 1, 2, none⟩) neW1_02 (.int .i64 st)) (p := ⟨w.heap.size + 1 + 1, 3, none⟩) neW1_02 (.int .u8 to)) (p := ⟨w.heap.size + 1 + 1, 4, none⟩) neW1_02 (.string ⟨#[]⟩)) (p := ⟨w.heap.size + 1 + 1, 5, none⟩) neW1_02 (.bool false)) (p := ⟨w.heap.size + 1 + 1, 6, none⟩) neW1_02 (.slice none 0 0)) (p := ⟨w.heap.size + 1 + 1, 7, none⟩) neW1_02 (.int .i64 0))
          have mV9_m : CB V9 (w.heap.size + 1) 27 #[.int .i64 kd, .int .u8 fr, .int .u8 t, .int .i64 e, .string mg] := by rw [← hV9]; exact (CB.far (CB.far (CB.far (CB.far (CB.far (CB.far (CB.far (CB.far mV8_m (p := ⟨w.heap.size + 1 + 1, 0, none⟩) neW1_12 (.int .u8 me)) (p := ⟨w.heap.size + 1 + 1, 1, none⟩) neW1_12 (.int .i64 ep)) (p := ⟨w.heap.size + 1 + 1, 2, none⟩) neW1_12 (.int .i64 st)) (p := ⟨w.heap.size + 1 + 1, 3, none⟩) neW1_12 (.int .u8 to)) (p := ⟨w.heap.size + 1 + 1, 4, none⟩) neW1_12 (.string ⟨#[]⟩)) (p := ⟨w.heap.size + 1 + 1, 5, none⟩) neW1_12 (.bool false)) (p := ⟨w.heap.size + 1 + 1, 6, none⟩) neW1_12 (.slice none 0 0)) (p := ⟨w.heap.size + 1 + 1, 7, none⟩) neW1_12 (.int .i64 0))
          have mV9_l : CB V9 (w4.heap.size) 23 #[.int .i64 ep, .int .i64 st, .int .u8 to] := by rw [← hV9]; exact (CB.far (CB.far (CB.far (CB.far (CB.far (CB.far (CB.far (CB.far mV8_l (p := ⟨w.heap.size + 1 + 1, 0, none⟩) (Ne.symm neW6_r) (.int .u8 me)) (p := ⟨w.heap.size + 1 + 1, 1, none⟩) (Ne.symm neW6_r) (.int .i64 ep)) (p := ⟨w.heap.size + 1 + 1, 2, none⟩) (Ne.symm neW6_r) (.int .i64 st)) (p := ⟨w.heap.size + 1 + 1, 3, none⟩) (Ne.symm neW6_r) (.int .u8 to)) (p := ⟨w.heap.size + 1 + 1, 4, none⟩) (Ne.symm neW6_r) (.string ⟨#[]⟩)) (p := ⟨w.heap.size + 1 + 1, 5, none⟩) (Ne.symm neW6_r) (.bool false)) (p := ⟨w.heap.size + 1 + 1, 6, none⟩) (Ne.symm neW6_r) (.slice none 0 0)) (p := ⟨w.heap.size + 1 + 1, 7, none⟩) (Ne.symm neW6_r) (.int .i64 0))
          have oV9 := (Below.setCell (Below.setCell (Below.setCell (Below.setCell (Below.setCell (Below.setCell (Below.setCell (Below.setCell oV8 (p := ⟨w.heap.size + 1 + 1, 0, none⟩) (by dsimp only; omega) (.int .u8 me)) (p := ⟨w.heap.size + 1 + 1, 1, none⟩) (by dsimp only; omega) (.int .i64 ep)) (p := ⟨w.heap.size + 1 + 1, 2, none⟩) (by dsimp only; omega) (.int .i64 st)) (p := ⟨w.heap.size + 1 + 1, 3, none⟩) (by dsimp only; omega) (.int .u8 to)) (p := ⟨w.heap.size + 1 + 1, 4, none⟩) (by dsimp only; omega) (.string ⟨#[]⟩)) (p := ⟨w.heap.size + 1 + 1, 5, none⟩) (by dsimp only; omega) (.bool false)) (p := ⟨w.heap.size + 1 + 1, 6, none⟩) (by dsimp only; omega) (.slice none 0 0)) (p := ⟨w.heap.size + 1 + 1, 7, none⟩) (by dsimp only; omega) (.int .i64 0))
          rw [hV9] at oV9
          have HV9 := Lib.hid (show ((((((((((w4.alloc (.cells #[.int .i64 ep, .int .i64 st, .int .u8 to] 23)).setCell ⟨w.heap.size, 4, none⟩ (.string ⟨#[]⟩)).setCell ⟨w.heap.size, 5, none⟩ (.bool false)).setCell ⟨w.heap.size + 1 + 1, 0, none⟩ (.int .u8 me)).setCell ⟨w.heap.size + 1 + 1, 1, none⟩ (.int .i64 ep)).setCell ⟨w.heap.size + 1 + 1, 2, none⟩ (.int .i64 st)).setCell ⟨w.heap.size + 1 + 1, 3, none⟩ (.int .u8 to)).setCell ⟨w.heap.size + 1 + 1, 4, none⟩ (.string ⟨#[]⟩)).setCell ⟨w.heap.size + 1 + 1, 5, none⟩ (.bool false)).setCell ⟨w.heap.size + 1 + 1, 6, none⟩ (.slice none 0 0)).setCell ⟨w.heap.size + 1 + 1, 7, none⟩ (.int .i64 0) = V9 by rw [HV8.out]; exact hV9)
          clear hV9
          clear mV8_r nV8 mV8_m mV8_l oV8
          go_wp2_with fail
          rw [HV9.out]
          have x_r0 : V9.cell? ⟨w.heap.size + 1 + 1, 0, none⟩ = some (.int .u8 me) := CB.cell nV9 0
          have x_r1 : V9.cell? ⟨w.heap.size + 1 + 1, 1, none⟩ = some (.int .i64 ep) := CB.cell nV9 1
          have x_r2 : V9.cell? ⟨w.heap.size + 1 + 1, 2, none⟩ = some (.int .i64 st) := CB.cell nV9 2
          have x_r3 : V9.cell? ⟨w.heap.size + 1 + 1, 3, none⟩ = some (.int .u8 to) := CB.cell nV9 3
          have x_r4 : V9.cell? ⟨w.heap.size + 1 + 1, 4, none⟩ = some (.string ⟨#[]⟩) := CB.cell nV9 4
          have x_r5 : V9.cell? ⟨w.heap.size + 1 + 1, 5, none⟩ = some (.bool false) := CB.cell nV9 5
          have x_r6 : V9.cell? ⟨w.heap.size + 1 + 1, 6, none⟩ = some (.slice none 0 0) := CB.cell nV9 6
          have x_r7 : V9.cell? ⟨w.heap.size + 1 + 1, 7, none⟩ = some (.int .i64 0) := CB.cell nV9 7
          exact bodyPost_ret (v := .agg #[.int .u8 me, .int .i64 ep, .int .i64 st, .int .u8 to, .string ⟨#[]⟩, .bool false, .slice none 0 0, .int .i64 0]) (by simp [results, Try.results13, go_sem, x_r0, x_r1, x_r2, x_r3, x_r4, x_r5, x_r6, x_r7]) rfl (TdPost.mk' me ep st to ⟨#[]⟩ false 0 [] H.out (RS.nil _ _ _ _) oV9)
        · have H := Lib.hid (show hearM ⟨me, ⟨ep, st, to⟩, cg, kp⟩ ⟨kd, fr, t, e, mg⟩ = ⟨⟨me, ⟨ep, st, to⟩, cg, kp⟩, [], 10⟩ by rw [hok]; unfold gotM; simp only; rw [if_neg hg])
          clear hR hM hs hm htm hok hkd hk
          by_cases q1 : st = 2
          · have t1 : (st != 2) = false := by simp [q1]
            by_cases q2 : ep = e - 1
            · have t2 : (ep != e - 1) = false := by simp [q2]
              by_cases q3 : to = fr
              · have t3 : (to != fr) = false := by simp [q3]
                have q4 : kp = false := by cases kp <;> simp_all
                clear hg q1 q2 q3
                subst q4
                obtain ⟨W1, hW1⟩ : ∃ V, ((w.alloc (.cells #[.int .u8 me, .int .i64 ep, .int .i64 st, .int .u8 to, .string cg, .bool false] 25)).alloc (.cells #[.int .i64 kd, .int .u8 fr, .int .u8 t, .int .i64 e, .string mg] 27)).alloc (.cells #[.int .u8 0, .int .i64 0, .int .i64 0, .int .u8 0, .string ⟨#[]⟩, .bool false, .slice none 0 0, .int .i64 0] 40) = V := ⟨_, rfl⟩
                have nW1_s : CB W1 (w.heap.size) 25 #[.int .u8 me, .int .i64 ep, .int .i64 st, .int .u8 to, .string cg, .bool false] := by
                  rw [← hW1]
                  have := (((CB.new w 25 #[.int .u8 me, .int .i64 ep, .int .i64 st, .int .u8 to, .string cg, .bool false]).alloc (.cells #[.int .i64 kd, .int .u8 fr, .int .u8 t, .int .i64 e, .string mg] 27)).alloc (.cells #[.int .u8 0, .int .i64 0, .int .i64 0, .int .u8 0, .string ⟨#[]⟩, .bool false, .slice none 0 0, .int .i64 0] 40))
                  simpa using this
                have nW1_m : CB W1 (w.heap.size + 1) 27 #[.int .i64 kd, .int .u8 fr, .int .u8 t, .int .i64 e, .string mg] := by
                  rw [← hW1]
                  have := ((CB.new (w.alloc (.cells #[.int .u8 me, .int .i64 ep, .int .i64 st, .int .u8 to, .string cg, .bool false] 25)) 27 #[.int .i64 kd, .int .u8 fr, .int .u8 t, .int .i64 e, .string mg]).alloc (.cells #[.int .u8 0, .int .i64 0, .int .i64 0, .int .u8 0, .string ⟨#[]⟩, .bool false, .slice none 0 0, .int .i64 0] 40))
                  simpa using this
                have nW1_r : CB W1 (w.heap.size + 1 + 1) 40 #[.int .u8 0, .int .i64 0, .int .i64 0, .int .u8 0, .string ⟨#[]⟩, .bool false, .slice none 0 0, .int .i64 0] := by
                  rw [← hW1]
                  have := (CB.new ((w.alloc (.cells #[.int .u8 me, .int .i64 ep, .int .i64 st, .int .u8 to, .string cg, .bool false] 25)).alloc (.cells #[.int .i64 kd, .int .u8 fr, .int .u8 t, .int .i64 e, .string mg] 27)) 40 #[.int .u8 0, .int .i64 0, .int .i64 0, .int .u8 0, .string ⟨#[]⟩, .bool false, .slice none 0 0, .int .i64 0])
                  simpa using this
                have neW1_01 : w.heap.size ≠ w.heap.size + 1 := by omega
                have neW1_02 : w.heap.size ≠ w.heap.size + 1 + 1 := by omega
                have neW1_12 : w.heap.size + 1 ≠ w.heap.size + 1 + 1 := by omega
                have lW1 : Below w.heap.size w W1 := by rw [← hW1]; exact le_tr (le_tr (le_al _ _) (le_al _ _)) (le_al _ _)
                have HW1 := Lib.hid hW1
                clear hW1
                go_enter Try.func13, Try.ntmps13
                go_wp2_with fail
                rw [HW1.out]
                refine (R1 _).mono ?_
                rintro e w2 ⟨rfl, b2⟩
                have r3_s := le_on nW1_s b2
                have r3_m := le_on nW1_m b2
                have r3_r := le_on nW1_r b2
                have l3 := le_tr lW1 b2
                clear nW1_s nW1_m nW1_r lW1
                clear b2
                have f3_s0 : w2.cell? ⟨w.heap.size, 0, none⟩ = some (.int .u8 me) := CB.cell r3_s 0
                have f3_s1 : w2.cell? ⟨w.heap.size, 1, none⟩ = some (.int .i64 ep) := CB.cell r3_s 1
                have f3_s2 : w2.cell? ⟨w.heap.size, 2, none⟩ = some (.int .i64 st) := CB.cell r3_s 2
                have f3_s3 : w2.cell? ⟨w.heap.size, 3, none⟩ = some (.int .u8 to) := CB.cell r3_s 3
                have f3_s4 : w2.cell? ⟨w.heap.size, 4, none⟩ = some (.string cg) := CB.cell r3_s 4
                have f3_s5 : w2.cell? ⟨w.heap.size, 5, none⟩ = some (.bool false) := CB.cell r3_s 5
                have f3_m0 : w2.cell? ⟨w.heap.size + 1, 0, none⟩ = some (.int .i64 kd) := CB.cell r3_m 0
                have f3_m1 : w2.cell? ⟨w.heap.size + 1, 1, none⟩ = some (.int .u8 fr) := CB.cell r3_m 1
                have f3_m2 : w2.cell? ⟨w.heap.size + 1, 2, none⟩ = some (.int .u8 t) := CB.cell r3_m 2
                have f3_m3 : w2.cell? ⟨w.heap.size + 1, 3, none⟩ = some (.int .i64 e) := CB.cell r3_m 3
                have f3_m4 : w2.cell? ⟨w.heap.size + 1, 4, none⟩ = some (.string mg) := CB.cell r3_m 4
                go_wp2_with fail
                refine (M1 _).mono ?_
                rintro e w4 ⟨rfl, b4⟩
                clear f3_s0 f3_s1 f3_s2 f3_s3 f3_s4 f3_s5 f3_m0 f3_m1 f3_m2 f3_m3 f3_m4
                have r5_s := le_on r3_s b4
                have r5_m := le_on r3_m b4
                have r5_r := le_on r3_r b4
                have l5 := le_tr l3 b4
                clear r3_s r3_m r3_r l3
                clear b4
                have f5_s0 : w4.cell? ⟨w.heap.size, 0, none⟩ = some (.int .u8 me) := CB.cell r5_s 0
                have f5_s1 : w4.cell? ⟨w.heap.size, 1, none⟩ = some (.int .i64 ep) := CB.cell r5_s 1
                have f5_s2 : w4.cell? ⟨w.heap.size, 2, none⟩ = some (.int .i64 st) := CB.cell r5_s 2
                have f5_s3 : w4.cell? ⟨w.heap.size, 3, none⟩ = some (.int .u8 to) := CB.cell r5_s 3
                have f5_s4 : w4.cell? ⟨w.heap.size, 4, none⟩ = some (.string cg) := CB.cell r5_s 4
                have f5_s5 : w4.cell? ⟨w.heap.size, 5, none⟩ = some (.bool false) := CB.cell r5_s 5
                have f5_m0 : w4.cell? ⟨w.heap.size + 1, 0, none⟩ = some (.int .i64 kd) := CB.cell r5_m 0
                have f5_m1 : w4.cell? ⟨w.heap.size + 1, 1, none⟩ = some (.int .u8 fr) := CB.cell r5_m 1
                have f5_m2 : w4.cell? ⟨w.heap.size + 1, 2, none⟩ = some (.int .u8 t) := CB.cell r5_m 2
                have f5_m3 : w4.cell? ⟨w.heap.size + 1, 3, none⟩ = some (.int .i64 e) := CB.cell r5_m 3
                have f5_m4 : w4.cell? ⟨w.heap.size + 1, 4, none⟩ = some (.string mg) := CB.cell r5_m 4
                have av_l : w.heap.size ≤ w4.heap.size := by have := l5.size; omega
                obtain ⟨W6, hW6⟩ : ∃ V, w4.alloc (.cells #[.int .i64 ep, .int .i64 st, .int .u8 to] 23) = V := ⟨_, rfl⟩
                have zW6 : w4.heap.size = w4.heap.size := by rfl
                have nW6 : CB W6 (w4.heap.size) 23 #[.int .i64 ep, .int .i64 st, .int .u8 to] := by rw [← zW6, ← hW6]; exact CB.new _ _ _
                have bW6 : Below w4.heap.size w4 W6 := by rw [← hW6]; exact le_al _ _
                have neW6_s : w.heap.size ≠ w4.heap.size := by have := CB.lt r5_s; omega
                have neW6_m : w.heap.size + 1 ≠ w4.heap.size := by have := CB.lt r5_m; omega
                have neW6_r : w.heap.size + 1 + 1 ≠ w4.heap.size := by have := CB.lt r5_r; omega
                have HW6 := Lib.hid hW6
                clear hW6 zW6
                have r7_s := le_on r5_s bW6
                have r7_m := le_on r5_m bW6
                have r7_r := le_on r5_r bW6
                have l7 := le_tr l5 bW6
                clear r5_s r5_m r5_r l5
                clear bW6
                have f7_s0 : (w4.alloc (.cells #[.int .i64 ep, .int .i64 st, .int .u8 to] 23)).cell? ⟨w.heap.size, 0, none⟩ = some (.int .u8 me) := by rw [HW6.out]; exact CB.cell r7_s 0
                have f7_s1 : (w4.alloc (.cells #[.int .i64 ep, .int .i64 st, .int .u8 to] 23)).cell? ⟨w.heap.size, 1, none⟩ = some (.int .i64 ep) := by rw [HW6.out]; exact CB.cell r7_s 1
                have f7_s2 : (w4.alloc (.cells #[.int .i64 ep, .int .i64 st, .int .u8 to] 23)).cell? ⟨w.heap.size, 2, none⟩ = some (.int .i64 st) := by rw [HW6.out]; exact CB.cell r7_s 2
                have f7_s3 : (w4.alloc (.cells #[.int .i64 ep, .int .i64 st, .int .u8 to] 23)).cell? ⟨w.heap.size, 3, none⟩ = some (.int .u8 to) := by rw [HW6.out]; exact CB.cell r7_s 3
                have f7_s4 : (w4.alloc (.cells #[.int .i64 ep, .int .i64 st, .int .u8 to] 23)).cell? ⟨w.heap.size, 4, none⟩ = some (.string cg) := by rw [HW6.out]; exact CB.cell r7_s 4
                have f7_s5 : (w4.alloc (.cells #[.int .i64 ep, .int .i64 st, .int .u8 to] 23)).cell? ⟨w.heap.size, 5, none⟩ = some (.bool false) := by rw [HW6.out]; exact CB.cell r7_s 5
                have f7_m0 : (w4.alloc (.cells #[.int .i64 ep, .int .i64 st, .int .u8 to] 23)).cell? ⟨w.heap.size + 1, 0, none⟩ = some (.int .i64 kd) := by rw [HW6.out]; exact CB.cell r7_m 0
                have f7_m1 : (w4.alloc (.cells #[.int .i64 ep, .int .i64 st, .int .u8 to] 23)).cell? ⟨w.heap.size + 1, 1, none⟩ = some (.int .u8 fr) := by rw [HW6.out]; exact CB.cell r7_m 1
                have f7_m2 : (w4.alloc (.cells #[.int .i64 ep, .int .i64 st, .int .u8 to] 23)).cell? ⟨w.heap.size + 1, 2, none⟩ = some (.int .u8 t) := by rw [HW6.out]; exact CB.cell r7_m 2
                have f7_m3 : (w4.alloc (.cells #[.int .i64 ep, .int .i64 st, .int .u8 to] 23)).cell? ⟨w.heap.size + 1, 3, none⟩ = some (.int .i64 e) := by rw [HW6.out]; exact CB.cell r7_m 3
                have f7_m4 : (w4.alloc (.cells #[.int .i64 ep, .int .i64 st, .int .u8 to] 23)).cell? ⟨w.heap.size + 1, 4, none⟩ = some (.string mg) := by rw [HW6.out]; exact CB.cell r7_m 4
                have f7_l0 : (w4.alloc (.cells #[.int .i64 ep, .int .i64 st, .int .u8 to] 23)).cell? ⟨w4.heap.size, 0, none⟩ = some (.int .i64 ep) := by rw [HW6.out]; exact CB.cell nW6 0
                have f7_l1 : (w4.alloc (.cells #[.int .i64 ep, .int .i64 st, .int .u8 to] 23)).cell? ⟨w4.heap.size, 1, none⟩ = some (.int .i64 st) := by rw [HW6.out]; exact CB.cell nW6 1
                have f7_l2 : (w4.alloc (.cells #[.int .i64 ep, .int .i64 st, .int .u8 to] 23)).cell? ⟨w4.heap.size, 2, none⟩ = some (.int .u8 to) := by rw [HW6.out]; exact CB.cell nW6 2
                have f7_r0 : (w4.alloc (.cells #[.int .i64 ep, .int .i64 st, .int .u8 to] 23)).cell? ⟨w.heap.size + 1 + 1, 0, none⟩ = some (.int .u8 0) := by rw [HW6.out]; exact CB.cell r7_r 0
                have z7_r0 : (w4.alloc (.cells #[.int .i64 ep, .int .i64 st, .int .u8 to] 23)).frozen? ⟨w.heap.size + 1 + 1, 0, none⟩ = false := by rw [HW6.out]; exact CB.frozen r7_r 0
                have f7_r1 : (w4.alloc (.cells #[.int .i64 ep, .int .i64 st, .int .u8 to] 23)).cell? ⟨w.heap.size + 1 + 1, 1, none⟩ = some (.int .i64 0) := by rw [HW6.out]; exact CB.cell r7_r 1
                have z7_r1 : (w4.alloc (.cells #[.int .i64 ep, .int .i64 st, .int .u8 to] 23)).frozen? ⟨w.heap.size + 1 + 1, 1, none⟩ = false := by rw [HW6.out]; exact CB.frozen r7_r 1
                have f7_r2 : (w4.alloc (.cells #[.int .i64 ep, .int .i64 st, .int .u8 to] 23)).cell? ⟨w.heap.size + 1 + 1, 2, none⟩ = some (.int .i64 0) := by rw [HW6.out]; exact CB.cell r7_r 2
                have z7_r2 : (w4.alloc (.cells #[.int .i64 ep, .int .i64 st, .int .u8 to] 23)).frozen? ⟨w.heap.size + 1 + 1, 2, none⟩ = false := by rw [HW6.out]; exact CB.frozen r7_r 2
                have f7_r3 : (w4.alloc (.cells #[.int .i64 ep, .int .i64 st, .int .u8 to] 23)).cell? ⟨w.heap.size + 1 + 1, 3, none⟩ = some (.int .u8 0) := by rw [HW6.out]; exact CB.cell r7_r 3
                have z7_r3 : (w4.alloc (.cells #[.int .i64 ep, .int .i64 st, .int .u8 to] 23)).frozen? ⟨w.heap.size + 1 + 1, 3, none⟩ = false := by rw [HW6.out]; exact CB.frozen r7_r 3
                have f7_r4 : (w4.alloc (.cells #[.int .i64 ep, .int .i64 st, .int .u8 to] 23)).cell? ⟨w.heap.size + 1 + 1, 4, none⟩ = some (.string ⟨#[]⟩) := by rw [HW6.out]; exact CB.cell r7_r 4
                have z7_r4 : (w4.alloc (.cells #[.int .i64 ep, .int .i64 st, .int .u8 to] 23)).frozen? ⟨w.heap.size + 1 + 1, 4, none⟩ = false := by rw [HW6.out]; exact CB.frozen r7_r 4
                have f7_r5 : (w4.alloc (.cells #[.int .i64 ep, .int .i64 st, .int .u8 to] 23)).cell? ⟨w.heap.size + 1 + 1, 5, none⟩ = some (.bool false) := by rw [HW6.out]; exact CB.cell r7_r 5
                have z7_r5 : (w4.alloc (.cells #[.int .i64 ep, .int .i64 st, .int .u8 to] 23)).frozen? ⟨w.heap.size + 1 + 1, 5, none⟩ = false := by rw [HW6.out]; exact CB.frozen r7_r 5
                have f7_r6 : (w4.alloc (.cells #[.int .i64 ep, .int .i64 st, .int .u8 to] 23)).cell? ⟨w.heap.size + 1 + 1, 6, none⟩ = some (.slice none 0 0) := by rw [HW6.out]; exact CB.cell r7_r 6
                have z7_r6 : (w4.alloc (.cells #[.int .i64 ep, .int .i64 st, .int .u8 to] 23)).frozen? ⟨w.heap.size + 1 + 1, 6, none⟩ = false := by rw [HW6.out]; exact CB.frozen r7_r 6
                have f7_r7 : (w4.alloc (.cells #[.int .i64 ep, .int .i64 st, .int .u8 to] 23)).cell? ⟨w.heap.size + 1 + 1, 7, none⟩ = some (.int .i64 0) := by rw [HW6.out]; exact CB.cell r7_r 7
                have z7_r7 : (w4.alloc (.cells #[.int .i64 ep, .int .i64 st, .int .u8 to] 23)).frozen? ⟨w.heap.size + 1 + 1, 7, none⟩ = false := by rw [HW6.out]; exact CB.frozen r7_r 7
                obtain ⟨V8, hV8⟩ : ∃ V, (((((((W6.setCell ⟨w.heap.size + 1 + 1, 0, none⟩ (.int .u8 me)).setCell ⟨w.heap.size + 1 + 1, 1, none⟩ (.int .i64 ep)).setCell ⟨w.heap.size + 1 + 1, 2, none⟩ (.int .i64 st)).setCell ⟨w.heap.size + 1 + 1, 3, none⟩ (.int .u8 to)).setCell ⟨w.heap.size + 1 + 1, 4, none⟩ (.string cg)).setCell ⟨w.heap.size + 1 + 1, 5, none⟩ (.bool false)).setCell ⟨w.heap.size + 1 + 1, 6, none⟩ (.slice none 0 0)).setCell ⟨w.heap.size + 1 + 1, 7, none⟩ (.int .i64 10) = V := ⟨_, rfl⟩
                have nV8 : CB V8 (w.heap.size + 1 + 1) 40 #[.int .u8 me, .int .i64 ep, .int .i64 st, .int .u8 to, .string cg, .bool false, .slice none 0 0, .int .i64 10] := by rw [← hV8]; exact cb_cast (CB.put (CB.put (CB.put (CB.put (CB.put (CB.put (CB.put (CB.put r7_r 0 (.int .u8 me)) 1 (.int .i64 ep)) 2 (.int .i64 st)) 3 (.int .u8 to)) 4 (.string cg)) 5 (.bool false)) 6 (.slice none 0 0)) 7 (.int .i64 10)) (by kernel_rfl)
                have mV8_s : CB V8 (w.heap.size) 25 #[.int .u8 me, .int .i64 ep, .int .i64 st, .int .u8 to, .string cg, .bool false] := by rw [← hV8]; exact (CB.far (CB.far (CB.far (CB.far (CB.far (CB.far (CB.far (CB.far r7_s (p := ⟨w.heap.size + 1 + 1, 0, none⟩) neW1_02 (.int .u8 me)) (p := ⟨w.heap.size + 1 + 1, 1, none⟩) neW1_02 (.int .i64 ep)) (p := ⟨w.heap.size + 1 + 1, 2, none⟩) neW1_02 (.int .i64 st)) (p := ⟨w.heap.size + 1 + 1, 3, none⟩) neW1_02 (.int .u8 to)) (p := ⟨w.heap.size + 1 + 1, 4, none⟩) neW1_02 (.string cg)) (p := ⟨w.heap.size + 1 + 1, 5, none⟩) neW1_02 (.bool false)) (p := ⟨w.heap.size + 1 + 1, 6, none⟩) neW1_02 (.slice none 0 0)) (p := ⟨w.heap.size + 1 + 1, 7, none⟩) neW1_02 (.int .i64 10))
                have mV8_m : CB V8 (w.heap.size + 1) 27 #[.int .i64 kd, .int .u8 fr, .int .u8 t, .int .i64 e, .string mg] := by rw [← hV8]; exact (CB.far (CB.far (CB.far (CB.far (CB.far (CB.far (CB.far (CB.far r7_m (p := ⟨w.heap.size + 1 + 1, 0, none⟩) neW1_12 (.int .u8 me)) (p := ⟨w.heap.size + 1 + 1, 1, none⟩) neW1_12 (.int .i64 ep)) (p := ⟨w.heap.size + 1 + 1, 2, none⟩) neW1_12 (.int .i64 st)) (p := ⟨w.heap.size + 1 + 1, 3, none⟩) neW1_12 (.int .u8 to)) (p := ⟨w.heap.size + 1 + 1, 4, none⟩) neW1_12 (.string cg)) (p := ⟨w.heap.size + 1 + 1, 5, none⟩) neW1_12 (.bool false)) (p := ⟨w.heap.size + 1 + 1, 6, none⟩) neW1_12 (.slice none 0 0)) (p := ⟨w.heap.size + 1 + 1, 7, none⟩) neW1_12 (.int .i64 10))
                have mV8_l : CB V8 (w4.heap.size) 23 #[.int .i64 ep, .int .i64 st, .int .u8 to] := by rw [← hV8]; exact (CB.far (CB.far (CB.far (CB.far (CB.far (CB.far (CB.far (CB.far nW6 (p := ⟨w.heap.size + 1 + 1, 0, none⟩) (Ne.symm neW6_r) (.int .u8 me)) (p := ⟨w.heap.size + 1 + 1, 1, none⟩) (Ne.symm neW6_r) (.int .i64 ep)) (p := ⟨w.heap.size + 1 + 1, 2, none⟩) (Ne.symm neW6_r) (.int .i64 st)) (p := ⟨w.heap.size + 1 + 1, 3, none⟩) (Ne.symm neW6_r) (.int .u8 to)) (p := ⟨w.heap.size + 1 + 1, 4, none⟩) (Ne.symm neW6_r) (.string cg)) (p := ⟨w.heap.size + 1 + 1, 5, none⟩) (Ne.symm neW6_r) (.bool false)) (p := ⟨w.heap.size + 1 + 1, 6, none⟩) (Ne.symm neW6_r) (.slice none 0 0)) (p := ⟨w.heap.size + 1 + 1, 7, none⟩) (Ne.symm neW6_r) (.int .i64 10))
                have oV8 := (Below.setCell (Below.setCell (Below.setCell (Below.setCell (Below.setCell (Below.setCell (Below.setCell (Below.setCell l7 (p := ⟨w.heap.size + 1 + 1, 0, none⟩) (by dsimp only; omega) (.int .u8 me)) (p := ⟨w.heap.size + 1 + 1, 1, none⟩) (by dsimp only; omega) (.int .i64 ep)) (p := ⟨w.heap.size + 1 + 1, 2, none⟩) (by dsimp only; omega) (.int .i64 st)) (p := ⟨w.heap.size + 1 + 1, 3, none⟩) (by dsimp only; omega) (.int .u8 to)) (p := ⟨w.heap.size + 1 + 1, 4, none⟩) (by dsimp only; omega) (.string cg)) (p := ⟨w.heap.size + 1 + 1, 5, none⟩) (by dsimp only; omega) (.bool false)) (p := ⟨w.heap.size + 1 + 1, 6, none⟩) (by dsimp only; omega) (.slice none 0 0)) (p := ⟨w.heap.size + 1 + 1, 7, none⟩) (by dsimp only; omega) (.int .i64 10))
                rw [hV8] at oV8
                have HV8 := Lib.hid (show ((((((((w4.alloc (.cells #[.int .i64 ep, .int .i64 st, .int .u8 to] 23)).setCell ⟨w.heap.size + 1 + 1, 0, none⟩ (.int .u8 me)).setCell ⟨w.heap.size + 1 + 1, 1, none⟩ (.int .i64 ep)).setCell ⟨w.heap.size + 1 + 1, 2, none⟩ (.int .i64 st)).setCell ⟨w.heap.size + 1 + 1, 3, none⟩ (.int .u8 to)).setCell ⟨w.heap.size + 1 + 1, 4, none⟩ (.string cg)).setCell ⟨w.heap.size + 1 + 1, 5, none⟩ (.bool false)).setCell ⟨w.heap.size + 1 + 1, 6, none⟩ (.slice none 0 0)).setCell ⟨w.heap.size + 1 + 1, 7, none⟩ (.int .i64 10) = V8 by rw [HW6.out]; exact hV8)
                clear hV8
                clear r7_r r7_s r7_m nW6 l7
                go_wp2_with fail
                rw [HV8.out]
                have x_r0 : V8.cell? ⟨w.heap.size + 1 + 1, 0, none⟩ = some (.int .u8 me) := CB.cell nV8 0
                have x_r1 : V8.cell? ⟨w.heap.size + 1 + 1, 1, none⟩ = some (.int .i64 ep) := CB.cell nV8 1
                have x_r2 : V8.cell? ⟨w.heap.size + 1 + 1, 2, none⟩ = some (.int .i64 st) := CB.cell nV8 2
                have x_r3 : V8.cell? ⟨w.heap.size + 1 + 1, 3, none⟩ = some (.int .u8 to) := CB.cell nV8 3
                have x_r4 : V8.cell? ⟨w.heap.size + 1 + 1, 4, none⟩ = some (.string cg) := CB.cell nV8 4
                have x_r5 : V8.cell? ⟨w.heap.size + 1 + 1, 5, none⟩ = some (.bool false) := CB.cell nV8 5
                have x_r6 : V8.cell? ⟨w.heap.size + 1 + 1, 6, none⟩ = some (.slice none 0 0) := CB.cell nV8 6
                have x_r7 : V8.cell? ⟨w.heap.size + 1 + 1, 7, none⟩ = some (.int .i64 10) := CB.cell nV8 7
                exact bodyPost_ret (v := .agg #[.int .u8 me, .int .i64 ep, .int .i64 st, .int .u8 to, .string cg, .bool false, .slice none 0 0, .int .i64 10]) (by simp [results, Try.results13, go_sem, x_r0, x_r1, x_r2, x_r3, x_r4, x_r5, x_r6, x_r7]) rfl (TdPost.mk' me ep st to cg false 10 [] H.out (RS.nil _ _ _ _) oV8)
              · have t3 : (to != fr) = true := by simp [q3]
                clear hg q1 q2 q3
                obtain ⟨W1, hW1⟩ : ∃ V, ((w.alloc (.cells #[.int .u8 me, .int .i64 ep, .int .i64 st, .int .u8 to, .string cg, .bool kp] 25)).alloc (.cells #[.int .i64 kd, .int .u8 fr, .int .u8 t, .int .i64 e, .string mg] 27)).alloc (.cells #[.int .u8 0, .int .i64 0, .int .i64 0, .int .u8 0, .string ⟨#[]⟩, .bool false, .slice none 0 0, .int .i64 0] 40) = V := ⟨_, rfl⟩
                have nW1_s : CB W1 (w.heap.size) 25 #[.int .u8 me, .int .i64 ep, .int .i64 st, .int .u8 to, .string cg, .bool kp] := by
                  rw [← hW1]
                  have := (((CB.new w 25 #[.int .u8 me, .int .i64 ep, .int .i64 st, .int .u8 to, .string cg, .bool kp]).alloc (.cells #[.int .i64 kd, .int .u8 fr, .int .u8 t, .int .i64 e, .string mg] 27)).alloc (.cells #[.int .u8 0, .int .i64 0, .int .i64 0, .int .u8 0, .string ⟨#[]⟩, .bool false, .slice none 0 0, .int .i64 0] 40))
                  simpa using this
                have nW1_m : CB W1 (w.heap.size + 1) 27 #[.int .i64 kd, .int .u8 fr, .int .u8 t, .int .i64 e, .string mg] := by
                  rw [← hW1]
                  have := ((CB.new (w.alloc (.cells #[.int .u8 me, .int .i64 ep, .int .i64 st, .int .u8 to, .string cg, .bool kp] 25)) 27 #[.int .i64 kd, .int .u8 fr, .int .u8 t, .int .i64 e, .string mg]).alloc (.cells #[.int .u8 0, .int .i64 0, .int .i64 0, .int .u8 0, .string ⟨#[]⟩, .bool false, .slice none 0 0, .int .i64 0] 40))
                  simpa using this
                have nW1_r : CB W1 (w.heap.size + 1 + 1) 40 #[.int .u8 0, .int .i64 0, .int .i64 0, .int .u8 0, .string ⟨#[]⟩, .bool false, .slice none 0 0, .int .i64 0] := by
                  rw [← hW1]
                  have := (CB.new ((w.alloc (.cells #[.int .u8 me, .int .i64 ep, .int .i64 st, .int .u8 to, .string cg, .bool kp] 25)).alloc (.cells #[.int .i64 kd, .int .u8 fr, .int .u8 t, .int .i64 e, .string mg] 27)) 40 #[.int .u8 0, .int .i64 0, .int .i64 0, .int .u8 0, .string ⟨#[]⟩, .bool false, .slice none 0 0, .int .i64 0])
                  simpa using this
                have neW1_01 : w.heap.size ≠ w.heap.size + 1 := by omega
                have neW1_02 : w.heap.size ≠ w.heap.size + 1 + 1 := by omega
                have neW1_12 : w.heap.size + 1 ≠ w.heap.size + 1 + 1 := by omega
                have lW1 : Below w.heap.size w W1 := by rw [← hW1]; exact le_tr (le_tr (le_al _ _) (le_al _ _)) (le_al _ _)
                have HW1 := Lib.hid hW1
                clear hW1
                go_enter Try.func13, Try.ntmps13
                go_wp2_with fail
                rw [HW1.out]
                refine (R1 _).mono ?_
                rintro e w2 ⟨rfl, b2⟩
                have r3_s := le_on nW1_s b2
                have r3_m := le_on nW1_m b2
                have r3_r := le_on nW1_r b2
                have l3 := le_tr lW1 b2
                clear nW1_s nW1_m nW1_r lW1
                clear b2
                have f3_s0 : w2.cell? ⟨w.heap.size, 0, none⟩ = some (.int .u8 me) := CB.cell r3_s 0
                have f3_s1 : w2.cell? ⟨w.heap.size, 1, none⟩ = some (.int .i64 ep) := CB.cell r3_s 1
                have f3_s2 : w2.cell? ⟨w.heap.size, 2, none⟩ = some (.int .i64 st) := CB.cell r3_s 2
                have f3_s3 : w2.cell? ⟨w.heap.size, 3, none⟩ = some (.int .u8 to) := CB.cell r3_s 3
                have f3_s4 : w2.cell? ⟨w.heap.size, 4, none⟩ = some (.string cg) := CB.cell r3_s 4
                have f3_s5 : w2.cell? ⟨w.heap.size, 5, none⟩ = some (.bool kp) := CB.cell r3_s 5
                have f3_m0 : w2.cell? ⟨w.heap.size + 1, 0, none⟩ = some (.int .i64 kd) := CB.cell r3_m 0
                have f3_m1 : w2.cell? ⟨w.heap.size + 1, 1, none⟩ = some (.int .u8 fr) := CB.cell r3_m 1
                have f3_m2 : w2.cell? ⟨w.heap.size + 1, 2, none⟩ = some (.int .u8 t) := CB.cell r3_m 2
                have f3_m3 : w2.cell? ⟨w.heap.size + 1, 3, none⟩ = some (.int .i64 e) := CB.cell r3_m 3
                have f3_m4 : w2.cell? ⟨w.heap.size + 1, 4, none⟩ = some (.string mg) := CB.cell r3_m 4
                go_wp2_with fail
                refine (M1 _).mono ?_
                rintro e w4 ⟨rfl, b4⟩
                clear f3_s0 f3_s1 f3_s2 f3_s3 f3_s4 f3_s5 f3_m0 f3_m1 f3_m2 f3_m3 f3_m4
                have r5_s := le_on r3_s b4
                have r5_m := le_on r3_m b4
                have r5_r := le_on r3_r b4
                have l5 := le_tr l3 b4
                clear r3_s r3_m r3_r l3
                clear b4
                have f5_s0 : w4.cell? ⟨w.heap.size, 0, none⟩ = some (.int .u8 me) := CB.cell r5_s 0
                have f5_s1 : w4.cell? ⟨w.heap.size, 1, none⟩ = some (.int .i64 ep) := CB.cell r5_s 1
                have f5_s2 : w4.cell? ⟨w.heap.size, 2, none⟩ = some (.int .i64 st) := CB.cell r5_s 2
                have f5_s3 : w4.cell? ⟨w.heap.size, 3, none⟩ = some (.int .u8 to) := CB.cell r5_s 3
                have f5_s4 : w4.cell? ⟨w.heap.size, 4, none⟩ = some (.string cg) := CB.cell r5_s 4
                have f5_s5 : w4.cell? ⟨w.heap.size, 5, none⟩ = some (.bool kp) := CB.cell r5_s 5
                have f5_m0 : w4.cell? ⟨w.heap.size + 1, 0, none⟩ = some (.int .i64 kd) := CB.cell r5_m 0
                have f5_m1 : w4.cell? ⟨w.heap.size + 1, 1, none⟩ = some (.int .u8 fr) := CB.cell r5_m 1
                have f5_m2 : w4.cell? ⟨w.heap.size + 1, 2, none⟩ = some (.int .u8 t) := CB.cell r5_m 2
                have f5_m3 : w4.cell? ⟨w.heap.size + 1, 3, none⟩ = some (.int .i64 e) := CB.cell r5_m 3
                have f5_m4 : w4.cell? ⟨w.heap.size + 1, 4, none⟩ = some (.string mg) := CB.cell r5_m 4
                have av_l : w.heap.size ≤ w4.heap.size := by have := l5.size; omega
                obtain ⟨W6, hW6⟩ : ∃ V, w4.alloc (.cells #[.int .i64 ep, .int .i64 st, .int .u8 to] 23) = V := ⟨_, rfl⟩
                have zW6 : w4.heap.size = w4.heap.size := by rfl
                have nW6 : CB W6 (w4.heap.size) 23 #[.int .i64 ep, .int .i64 st, .int .u8 to] := by rw [← zW6, ← hW6]; exact CB.new _ _ _
                have bW6 : Below w4.heap.size w4 W6 := by rw [← hW6]; exact le_al _ _
                have neW6_s : w.heap.size ≠ w4.heap.size := by have := CB.lt r5_s; omega
                have neW6_m : w.heap.size + 1 ≠ w4.heap.size := by have := CB.lt r5_m; omega
                have neW6_r : w.heap.size + 1 + 1 ≠ w4.heap.size := by have := CB.lt r5_r; omega
                have HW6 := Lib.hid hW6
                clear hW6 zW6
                have r7_s := le_on r5_s bW6
                have r7_m := le_on r5_m bW6
                have r7_r := le_on r5_r bW6
                have l7 := le_tr l5 bW6
                clear r5_s r5_m r5_r l5
                clear bW6
                have f7_s0 : (w4.alloc (.cells #[.int .i64 ep, .int .i64 st, .int .u8 to] 23)).cell? ⟨w.heap.size, 0, none⟩ = some (.int .u8 me) := by rw [HW6.out]; exact CB.cell r7_s 0
                have f7_s1 : (w4.alloc (.cells #[.int .i64 ep, .int .i64 st, .int .u8 to] 23)).cell? ⟨w.heap.size, 1, none⟩ = some (.int .i64 ep) := by rw [HW6.out]; exact CB.cell r7_s 1
                have f7_s2 : (w4.alloc (.cells #[.int .i64 ep, .int .i64 st, .int .u8 to] 23)).cell? ⟨w.heap.size, 2, none⟩ = some (.int .i64 st) := by rw [HW6.out]; exact CB.cell r7_s 2
                have f7_s3 : (w4.alloc (.cells #[.int .i64 ep, .int .i64 st, .int .u8 to] 23)).cell? ⟨w.heap.size, 3, none⟩ = some (.int .u8 to) := by rw [HW6.out]; exact CB.cell r7_s 3
                have f7_s4 : (w4.alloc (.cells #[.int .i64 ep, .int .i64 st, .int .u8 to] 23)).cell? ⟨w.heap.size, 4, none⟩ = some (.string cg) := by rw [HW6.out]; exact CB.cell r7_s 4
                have f7_s5 : (w4.alloc (.cells #[.int .i64 ep, .int .i64 st, .int .u8 to] 23)).cell? ⟨w.heap.size, 5, none⟩ = some (.bool kp) := by rw [HW6.out]; exact CB.cell r7_s 5
                have f7_m0 : (w4.alloc (.cells #[.int .i64 ep, .int .i64 st, .int .u8 to] 23)).cell? ⟨w.heap.size + 1, 0, none⟩ = some (.int .i64 kd) := by rw [HW6.out]; exact CB.cell r7_m 0
                have f7_m1 : (w4.alloc (.cells #[.int .i64 ep, .int .i64 st, .int .u8 to] 23)).cell? ⟨w.heap.size + 1, 1, none⟩ = some (.int .u8 fr) := by rw [HW6.out]; exact CB.cell r7_m 1
                have f7_m2 : (w4.alloc (.cells #[.int .i64 ep, .int .i64 st, .int .u8 to] 23)).cell? ⟨w.heap.size + 1, 2, none⟩ = some (.int .u8 t) := by rw [HW6.out]; exact CB.cell r7_m 2
                have f7_m3 : (w4.alloc (.cells #[.int .i64 ep, .int .i64 st, .int .u8 to] 23)).cell? ⟨w.heap.size + 1, 3, none⟩ = some (.int .i64 e) := by rw [HW6.out]; exact CB.cell r7_m 3
                have f7_m4 : (w4.alloc (.cells #[.int .i64 ep, .int .i64 st, .int .u8 to] 23)).cell? ⟨w.heap.size + 1, 4, none⟩ = some (.string mg) := by rw [HW6.out]; exact CB.cell r7_m 4
                have f7_l0 : (w4.alloc (.cells #[.int .i64 ep, .int .i64 st, .int .u8 to] 23)).cell? ⟨w4.heap.size, 0, none⟩ = some (.int .i64 ep) := by rw [HW6.out]; exact CB.cell nW6 0
                have f7_l1 : (w4.alloc (.cells #[.int .i64 ep, .int .i64 st, .int .u8 to] 23)).cell? ⟨w4.heap.size, 1, none⟩ = some (.int .i64 st) := by rw [HW6.out]; exact CB.cell nW6 1
                have f7_l2 : (w4.alloc (.cells #[.int .i64 ep, .int .i64 st, .int .u8 to] 23)).cell? ⟨w4.heap.size, 2, none⟩ = some (.int .u8 to) := by rw [HW6.out]; exact CB.cell nW6 2
                have f7_r0 : (w4.alloc (.cells #[.int .i64 ep, .int .i64 st, .int .u8 to] 23)).cell? ⟨w.heap.size + 1 + 1, 0, none⟩ = some (.int .u8 0) := by rw [HW6.out]; exact CB.cell r7_r 0
                have z7_r0 : (w4.alloc (.cells #[.int .i64 ep, .int .i64 st, .int .u8 to] 23)).frozen? ⟨w.heap.size + 1 + 1, 0, none⟩ = false := by rw [HW6.out]; exact CB.frozen r7_r 0
                have f7_r1 : (w4.alloc (.cells #[.int .i64 ep, .int .i64 st, .int .u8 to] 23)).cell? ⟨w.heap.size + 1 + 1, 1, none⟩ = some (.int .i64 0) := by rw [HW6.out]; exact CB.cell r7_r 1
                have z7_r1 : (w4.alloc (.cells #[.int .i64 ep, .int .i64 st, .int .u8 to] 23)).frozen? ⟨w.heap.size + 1 + 1, 1, none⟩ = false := by rw [HW6.out]; exact CB.frozen r7_r 1
                have f7_r2 : (w4.alloc (.cells #[.int .i64 ep, .int .i64 st, .int .u8 to] 23)).cell? ⟨w.heap.size + 1 + 1, 2, none⟩ = some (.int .i64 0) := by rw [HW6.out]; exact CB.cell r7_r 2
                have z7_r2 : (w4.alloc (.cells #[.int .i64 ep, .int .i64 st, .int .u8 to] 23)).frozen? ⟨w.heap.size + 1 + 1, 2, none⟩ = false := by rw [HW6.out]; exact CB.frozen r7_r 2
                have f7_r3 : (w4.alloc (.cells #[.int .i64 ep, .int .i64 st, .int .u8 to] 23)).cell? ⟨w.heap.size + 1 + 1, 3, none⟩ = some (.int .u8 0) := by rw [HW6.out]; exact CB.cell r7_r 3
                have z7_r3 : (w4.alloc (.cells #[.int .i64 ep, .int .i64 st, .int .u8 to] 23)).frozen? ⟨w.heap.size + 1 + 1, 3, none⟩ = false := by rw [HW6.out]; exact CB.frozen r7_r 3
                have f7_r4 : (w4.alloc (.cells #[.int .i64 ep, .int .i64 st, .int .u8 to] 23)).cell? ⟨w.heap.size + 1 + 1, 4, none⟩ = some (.string ⟨#[]⟩) := by rw [HW6.out]; exact CB.cell r7_r 4
                have z7_r4 : (w4.alloc (.cells #[.int .i64 ep, .int .i64 st, .int .u8 to] 23)).frozen? ⟨w.heap.size + 1 + 1, 4, none⟩ = false := by rw [HW6.out]; exact CB.frozen r7_r 4
                have f7_r5 : (w4.alloc (.cells #[.int .i64 ep, .int .i64 st, .int .u8 to] 23)).cell? ⟨w.heap.size + 1 + 1, 5, none⟩ = some (.bool false) := by rw [HW6.out]; exact CB.cell r7_r 5
                have z7_r5 : (w4.alloc (.cells #[.int .i64 ep, .int .i64 st, .int .u8 to] 23)).frozen? ⟨w.heap.size + 1 + 1, 5, none⟩ = false := by rw [HW6.out]; exact CB.frozen r7_r 5
                have f7_r6 : (w4.alloc (.cells #[.int .i64 ep, .int .i64 st, .int .u8 to] 23)).cell? ⟨w.heap.size + 1 + 1, 6, none⟩ = some (.slice none 0 0) := by rw [HW6.out]; exact CB.cell r7_r 6
                have z7_r6 : (w4.alloc (.cells #[.int .i64 ep, .int .i64 st, .int .u8 to] 23)).frozen? ⟨w.heap.size + 1 + 1, 6, none⟩ = false := by rw [HW6.out]; exact CB.frozen r7_r 6
                have f7_r7 : (w4.alloc (.cells #[.int .i64 ep, .int .i64 st, .int .u8 to] 23)).cell? ⟨w.heap.size + 1 + 1, 7, none⟩ = some (.int .i64 0) := by rw [HW6.out]; exact CB.cell r7_r 7
                have z7_r7 : (w4.alloc (.cells #[.int .i64 ep, .int .i64 st, .int .u8 to] 23)).frozen? ⟨w.heap.size + 1 + 1, 7, none⟩ = false := by rw [HW6.out]; exact CB.frozen r7_r 7
                obtain ⟨V8, hV8⟩ : ∃ V, (((((((W6.setCell ⟨w.heap.size + 1 + 1, 0, none⟩ (.int .u8 me)).setCell ⟨w.heap.size + 1 + 1, 1, none⟩ (.int .i64 ep)).setCell ⟨w.heap.size + 1 + 1, 2, none⟩ (.int .i64 st)).setCell ⟨w.heap.size + 1 + 1, 3, none⟩ (.int .u8 to)).setCell ⟨w.heap.size + 1 + 1, 4, none⟩ (.string cg)).setCell ⟨w.heap.size + 1 + 1, 5, none⟩ (.bool kp)).setCell ⟨w.heap.size + 1 + 1, 6, none⟩ (.slice none 0 0)).setCell ⟨w.heap.size + 1 + 1, 7, none⟩ (.int .i64 10) = V := ⟨_, rfl⟩
                have nV8 : CB V8 (w.heap.size + 1 + 1) 40 #[.int .u8 me, .int .i64 ep, .int .i64 st, .int .u8 to, .string cg, .bool kp, .slice none 0 0, .int .i64 10] := by rw [← hV8]; exact cb_cast (CB.put (CB.put (CB.put (CB.put (CB.put (CB.put (CB.put (CB.put r7_r 0 (.int .u8 me)) 1 (.int .i64 ep)) 2 (.int .i64 st)) 3 (.int .u8 to)) 4 (.string cg)) 5 (.bool kp)) 6 (.slice none 0 0)) 7 (.int .i64 10)) (by kernel_rfl)
                have mV8_s : CB V8 (w.heap.size) 25 #[.int .u8 me, .int .i64 ep, .int .i64 st, .int .u8 to, .string cg, .bool kp] := by rw [← hV8]; exact (CB.far (CB.far (CB.far (CB.far (CB.far (CB.far (CB.far (CB.far r7_s (p := ⟨w.heap.size + 1 + 1, 0, none⟩) neW1_02 (.int .u8 me)) (p := ⟨w.heap.size + 1 + 1, 1, none⟩) neW1_02 (.int .i64 ep)) (p := ⟨w.heap.size + 1 + 1, 2, none⟩) neW1_02 (.int .i64 st)) (p := ⟨w.heap.size + 1 + 1, 3, none⟩) neW1_02 (.int .u8 to)) (p := ⟨w.heap.size + 1 + 1, 4, none⟩) neW1_02 (.string cg)) (p := ⟨w.heap.size + 1 + 1, 5, none⟩) neW1_02 (.bool kp)) (p := ⟨w.heap.size + 1 + 1, 6, none⟩) neW1_02 (.slice none 0 0)) (p := ⟨w.heap.size + 1 + 1, 7, none⟩) neW1_02 (.int .i64 10))
                have mV8_m : CB V8 (w.heap.size + 1) 27 #[.int .i64 kd, .int .u8 fr, .int .u8 t, .int .i64 e, .string mg] := by rw [← hV8]; exact (CB.far (CB.far (CB.far (CB.far (CB.far (CB.far (CB.far (CB.far r7_m (p := ⟨w.heap.size + 1 + 1, 0, none⟩) neW1_12 (.int .u8 me)) (p := ⟨w.heap.size + 1 + 1, 1, none⟩) neW1_12 (.int .i64 ep)) (p := ⟨w.heap.size + 1 + 1, 2, none⟩) neW1_12 (.int .i64 st)) (p := ⟨w.heap.size + 1 + 1, 3, none⟩) neW1_12 (.int .u8 to)) (p := ⟨w.heap.size + 1 + 1, 4, none⟩) neW1_12 (.string cg)) (p := ⟨w.heap.size + 1 + 1, 5, none⟩) neW1_12 (.bool kp)) (p := ⟨w.heap.size + 1 + 1, 6, none⟩) neW1_12 (.slice none 0 0)) (p := ⟨w.heap.size + 1 + 1, 7, none⟩) neW1_12 (.int .i64 10))
                have mV8_l : CB V8 (w4.heap.size) 23 #[.int .i64 ep, .int .i64 st, .int .u8 to] := by rw [← hV8]; exact (CB.far (CB.far (CB.far (CB.far (CB.far (CB.far (CB.far (CB.far nW6 (p := ⟨w.heap.size + 1 + 1, 0, none⟩) (Ne.symm neW6_r) (.int .u8 me)) (p := ⟨w.heap.size + 1 + 1, 1, none⟩) (Ne.symm neW6_r) (.int .i64 ep)) (p := ⟨w.heap.size + 1 + 1, 2, none⟩) (Ne.symm neW6_r) (.int .i64 st)) (p := ⟨w.heap.size + 1 + 1, 3, none⟩) (Ne.symm neW6_r) (.int .u8 to)) (p := ⟨w.heap.size + 1 + 1, 4, none⟩) (Ne.symm neW6_r) (.string cg)) (p := ⟨w.heap.size + 1 + 1, 5, none⟩) (Ne.symm neW6_r) (.bool kp)) (p := ⟨w.heap.size + 1 + 1, 6, none⟩) (Ne.symm neW6_r) (.slice none 0 0)) (p := ⟨w.heap.size + 1 + 1, 7, none⟩) (Ne.symm neW6_r) (.int .i64 10))
                have oV8 := (Below.setCell (Below.setCell (Below.setCell (Below.setCell (Below.setCell (Below.setCell (Below.setCell (Below.setCell l7 (p := ⟨w.heap.size + 1 + 1, 0, none⟩) (by dsimp only; omega) (.int .u8 me)) (p := ⟨w.heap.size + 1 + 1, 1, none⟩) (by dsimp only; omega) (.int .i64 ep)) (p := ⟨w.heap.size + 1 + 1, 2, none⟩) (by dsimp only; omega) (.int .i64 st)) (p := ⟨w.heap.size + 1 + 1, 3, none⟩) (by dsimp only; omega) (.int .u8 to)) (p := ⟨w.heap.size + 1 + 1, 4, none⟩) (by dsimp only; omega) (.string cg)) (p := ⟨w.heap.size + 1 + 1, 5, none⟩) (by dsimp only; omega) (.bool kp)) (p := ⟨w.heap.size + 1 + 1, 6, none⟩) (by dsimp only; omega) (.slice none 0 0)) (p := ⟨w.heap.size + 1 + 1, 7, none⟩) (by dsimp only; omega) (.int .i64 10))
                rw [hV8] at oV8
                have HV8 := Lib.hid (show ((((((((w4.alloc (.cells #[.int .i64 ep, .int .i64 st, .int .u8 to] 23)).setCell ⟨w.heap.size + 1 + 1, 0, none⟩ (.int .u8 me)).setCell ⟨w.heap.size + 1 + 1, 1, none⟩ (.int .i64 ep)).setCell ⟨w.heap.size + 1 + 1, 2, none⟩ (.int .i64 st)).setCell ⟨w.heap.size + 1 + 1, 3, none⟩ (.int .u8 to)).setCell ⟨w.heap.size + 1 + 1, 4, none⟩ (.string cg)).setCell ⟨w.heap.size + 1 + 1, 5, none⟩ (.bool kp)).setCell ⟨w.heap.size + 1 + 1, 6, none⟩ (.slice none 0 0)).setCell ⟨w.heap.size + 1 + 1, 7, none⟩ (.int .i64 10) = V8 by rw [HW6.out]; exact hV8)
                clear hV8
                clear r7_r r7_s r7_m nW6 l7
                go_wp2_with fail
                rw [HV8.out]
                have x_r0 : V8.cell? ⟨w.heap.size + 1 + 1, 0, none⟩ = some (.int .u8 me) := CB.cell nV8 0
                have x_r1 : V8.cell? ⟨w.heap.size + 1 + 1, 1, none⟩ = some (.int .i64 ep) := CB.cell nV8 1
                have x_r2 : V8.cell? ⟨w.heap.size + 1 + 1, 2, none⟩ = some (.int .i64 st) := CB.cell nV8 2
                have x_r3 : V8.cell? ⟨w.heap.size + 1 + 1, 3, none⟩ = some (.int .u8 to) := CB.cell nV8 3
                have x_r4 : V8.cell? ⟨w.heap.size + 1 + 1, 4, none⟩ = some (.string cg) := CB.cell nV8 4
                have x_r5 : V8.cell? ⟨w.heap.size + 1 + 1, 5, none⟩ = some (.bool kp) := CB.cell nV8 5
                have x_r6 : V8.cell? ⟨w.heap.size + 1 + 1, 6, none⟩ = some (.slice none 0 0) := CB.cell nV8 6
                have x_r7 : V8.cell? ⟨w.heap.size + 1 + 1, 7, none⟩ = some (.int .i64 10) := CB.cell nV8 7
                exact bodyPost_ret (v := .agg #[.int .u8 me, .int .i64 ep, .int .i64 st, .int .u8 to, .string cg, .bool kp, .slice none 0 0, .int .i64 10]) (by simp [results, Try.results13, go_sem, x_r0, x_r1, x_r2, x_r3, x_r4, x_r5, x_r6, x_r7]) rfl (TdPost.mk' me ep st to cg kp 10 [] H.out (RS.nil _ _ _ _) oV8)
            · have t2 : (ep != e - 1) = true := by simp [q2]
              clear hg q1 q2
              obtain ⟨W1, hW1⟩ : ∃ V, ((w.alloc (.cells #[.int .u8 me, .int .i64 ep, .int .i64 st, .int .u8 to, .string cg, .bool kp] 25)).alloc (.cells #[.int .i64 kd, .int .u8 fr, .int .u8 t, .int .i64 e, .string mg] 27)).alloc (.cells #[.int .u8 0, .int .i64 0, .int .i64 0, .int .u8 0, .string ⟨#[]⟩, .bool false, .slice none 0 0, .int .i64 0] 40) = V := ⟨_, rfl⟩
              have nW1_s : CB W1 (w.heap.size) 25 #[.int .u8 me, .int .i64 ep, .int .i64 st, .int .u8 to, .string cg, .bool kp] := by
                rw [← hW1]
                have := (((CB.new w 25 #[.int .u8 me, .int .i64 ep, .int .i64 st, .int .u8 to, .string cg, .bool kp]).alloc (.cells #[.int .i64 kd, .int .u8 fr, .int .u8 t, .int .i64 e, .string mg] 27)).alloc (.cells #[.int .u8 0, .int .i64 0, .int .i64 0, .int .u8 0, .string ⟨#[]⟩, .bool false, .slice none 0 0, .int .i64 0] 40))
                simpa using this
              have nW1_m : CB W1 (w.heap.size + 1) 27 #[.int .i64 kd, .int .u8 fr, .int .u8 t, .int .i64 e, .string mg] := by
                rw [← hW1]
                have := ((CB.new (w.alloc (.cells #[.int .u8 me, .int .i64 ep, .int .i64 st, .int .u8 to, .string cg, .bool kp] 25)) 27 #[.int .i64 kd, .int .u8 fr, .int .u8 t, .int .i64 e, .string mg]).alloc (.cells #[.int .u8 0, .int .i64 0, .int .i64 0, .int .u8 0, .string ⟨#[]⟩, .bool false, .slice none 0 0, .int .i64 0] 40))
                simpa using this
              have nW1_r : CB W1 (w.heap.size + 1 + 1) 40 #[.int .u8 0, .int .i64 0, .int .i64 0, .int .u8 0, .string ⟨#[]⟩, .bool false, .slice none 0 0, .int .i64 0] := by
                rw [← hW1]
                have := (CB.new ((w.alloc (.cells #[.int .u8 me, .int .i64 ep, .int .i64 st, .int .u8 to, .string cg, .bool kp] 25)).alloc (.cells #[.int .i64 kd, .int .u8 fr, .int .u8 t, .int .i64 e, .string mg] 27)) 40 #[.int .u8 0, .int .i64 0, .int .i64 0, .int .u8 0, .string ⟨#[]⟩, .bool false, .slice none 0 0, .int .i64 0])
                simpa using this
              have neW1_01 : w.heap.size ≠ w.heap.size + 1 := by omega
              have neW1_02 : w.heap.size ≠ w.heap.size + 1 + 1 := by omega
              have neW1_12 : w.heap.size + 1 ≠ w.heap.size + 1 + 1 := by omega
              have lW1 : Below w.heap.size w W1 := by rw [← hW1]; exact le_tr (le_tr (le_al _ _) (le_al _ _)) (le_al _ _)
              have HW1 := Lib.hid hW1
              clear hW1
              go_enter Try.func13, Try.ntmps13
              go_wp2_with fail
              rw [HW1.out]
              refine (R1 _).mono ?_
              rintro e w2 ⟨rfl, b2⟩
              have r3_s := le_on nW1_s b2
              have r3_m := le_on nW1_m b2
              have r3_r := le_on nW1_r b2
              have l3 := le_tr lW1 b2
              clear nW1_s nW1_m nW1_r lW1
              clear b2
              have f3_s0 : w2.cell? ⟨w.heap.size, 0, none⟩ = some (.int .u8 me) := CB.cell r3_s 0
              have f3_s1 : w2.cell? ⟨w.heap.size, 1, none⟩ = some (.int .i64 ep) := CB.cell r3_s 1
              have f3_s2 : w2.cell? ⟨w.heap.size, 2, none⟩ = some (.int .i64 st) := CB.cell r3_s 2
              have f3_s3 : w2.cell? ⟨w.heap.size, 3, none⟩ = some (.int .u8 to) := CB.cell r3_s 3
              have f3_s4 : w2.cell? ⟨w.heap.size, 4, none⟩ = some (.string cg) := CB.cell r3_s 4
              have f3_s5 : w2.cell? ⟨w.heap.size, 5, none⟩ = some (.bool kp) := CB.cell r3_s 5
              have f3_m0 : w2.cell? ⟨w.heap.size + 1, 0, none⟩ = some (.int .i64 kd) := CB.cell r3_m 0
              have f3_m1 : w2.cell? ⟨w.heap.size + 1, 1, none⟩ = some (.int .u8 fr) := CB.cell r3_m 1
              have f3_m2 : w2.cell? ⟨w.heap.size + 1, 2, none⟩ = some (.int .u8 t) := CB.cell r3_m 2
              have f3_m3 : w2.cell? ⟨w.heap.size + 1, 3, none⟩ = some (.int .i64 e) := CB.cell r3_m 3
              have f3_m4 : w2.cell? ⟨w.heap.size + 1, 4, none⟩ = some (.string mg) := CB.cell r3_m 4
              go_wp2_with fail
              refine (M1 _).mono ?_
              rintro e w4 ⟨rfl, b4⟩
              clear f3_s0 f3_s1 f3_s2 f3_s3 f3_s4 f3_s5 f3_m0 f3_m1 f3_m2 f3_m3 f3_m4
              have r5_s := le_on r3_s b4
              have r5_m := le_on r3_m b4
              have r5_r := le_on r3_r b4
              have l5 := le_tr l3 b4
              clear r3_s r3_m r3_r l3
              clear b4
              have f5_s0 : w4.cell? ⟨w.heap.size, 0, none⟩ = some (.int .u8 me) := CB.cell r5_s 0
              have f5_s1 : w4.cell? ⟨w.heap.size, 1, none⟩ = some (.int .i64 ep) := CB.cell r5_s 1
              have f5_s2 : w4.cell? ⟨w.heap.size, 2, none⟩ = some (.int .i64 st) := CB.cell r5_s 2
              have f5_s3 : w4.cell? ⟨w.heap.size, 3, none⟩ = some (.int .u8 to) := CB.cell r5_s 3
              have f5_s4 : w4.cell? ⟨w.heap.size, 4, none⟩ = some (.string cg) := CB.cell r5_s 4
              have f5_s5 : w4.cell? ⟨w.heap.size, 5, none⟩ = some (.bool kp) := CB.cell r5_s 5
              have f5_m0 : w4.cell? ⟨w.heap.size + 1, 0, none⟩ = some (.int .i64 kd) := CB.cell r5_m 0
              have f5_m1 : w4.cell? ⟨w.heap.size + 1, 1, none⟩ = some (.int .u8 fr) := CB.cell r5_m 1
              have f5_m2 : w4.cell? ⟨w.heap.size + 1, 2, none⟩ = some (.int .u8 t) := CB.cell r5_m 2
              have f5_m3 : w4.cell? ⟨w.heap.size + 1, 3, none⟩ = some (.int .i64 e) := CB.cell r5_m 3
              have f5_m4 : w4.cell? ⟨w.heap.size + 1, 4, none⟩ = some (.string mg) := CB.cell r5_m 4
              have av_l : w.heap.size ≤ w4.heap.size := by have := l5.size; omega
              obtain ⟨W6, hW6⟩ : ∃ V, w4.alloc (.cells #[.int .i64 ep, .int .i64 st, .int .u8 to] 23) = V := ⟨_, rfl⟩
              have zW6 : w4.heap.size = w4.heap.size := by rfl
              have nW6 : CB W6 (w4.heap.size) 23 #[.int .i64 ep, .int .i64 st, .int .u8 to] := by rw [← zW6, ← hW6]; exact CB.new _ _ _
              have bW6 : Below w4.heap.size w4 W6 := by rw [← hW6]; exact le_al _ _
              have neW6_s : w.heap.size ≠ w4.heap.size := by have := CB.lt r5_s; omega
              have neW6_m : w.heap.size + 1 ≠ w4.heap.size := by have := CB.lt r5_m; omega
              have neW6_r : w.heap.size + 1 + 1 ≠ w4.heap.size := by have := CB.lt r5_r; omega
              have HW6 := Lib.hid hW6
              clear hW6 zW6
              have r7_s := le_on r5_s bW6
              have r7_m := le_on r5_m bW6
              have r7_r := le_on r5_r bW6
              have l7 := le_tr l5 bW6
              clear r5_s r5_m r5_r l5
              clear bW6
              have f7_s0 : (w4.alloc (.cells #[.int .i64 ep, .int .i64 st, .int .u8 to] 23)).cell? ⟨w.heap.size, 0, none⟩ = some (.int .u8 me) := by rw [HW6.out]; exact CB.cell r7_s 0
              have f7_s1 : (w4.alloc (.cells #[.int .i64 ep, .int .i64 st, .int .u8 to] 23)).cell? ⟨w.heap.size, 1, none⟩ = some (.int .i64 ep) := by rw [HW6.out]; exact CB.cell r7_s 1
              have f7_s2 : (w4.alloc (.cells #[.int .i64 ep, .int .i64 st, .int .u8 to] 23)).cell? ⟨w.heap.size, 2, none⟩ = some (.int .i64 st) := by rw [HW6.out]; exact CB.cell r7_s 2
              have f7_s3 : (w4.alloc (.cells #[.int .i64 ep, .int .i64 st, .int .u8 to] 23)).cell? ⟨w.heap.size, 3, none⟩ = some (.int .u8 to) := by rw [HW6.out]; exact CB.cell r7_s 3
              have f7_s4 : (w4.alloc (.cells #[.int .i64 ep, .int .i64 st, .int .u8 to] 23)).cell? ⟨w.heap.size, 4, none⟩ = some (.string cg) := by rw [HW6.out]; exact CB.cell r7_s 4
              have f7_s5 : (w4.alloc (.cells #[.int .i64 ep, .int .i64 st, .int .u8 to] 23)).cell? ⟨w.heap.size, 5, none⟩ = some (.bool kp) := by rw [HW6.out]; exact CB.cell r7_s 5
              have f7_m0 : (w4.alloc (.cells #[.int .i64 ep, .int .i64 st, .int .u8 to] 23)).cell? ⟨w.heap.size + 1, 0, none⟩ = some (.int .i64 kd) := by rw [HW6.out]; exact CB.cell r7_m 0
              have f7_m1 : (w4.alloc (.cells #[.int .i64 ep, .int .i64 st, .int .u8 to] 23)).cell? ⟨w.heap.size + 1, 1, none⟩ = some (.int .u8 fr) := by rw [HW6.out]; exact CB.cell r7_m 1
              have f7_m2 : (w4.alloc (.cells #[.int .i64 ep, .int .i64 st, .int .u8 to] 23)).cell? ⟨w.heap.size + 1, 2, none⟩ = some (.int .u8 t) := by rw [HW6.out]; exact CB.cell r7_m 2
              have f7_m3 : (w4.alloc (.cells #[.int .i64 ep, .int .i64 st, .int .u8 to] 23)).cell? ⟨w.heap.size + 1, 3, none⟩ = some (.int .i64 e) := by rw [HW6.out]; exact CB.cell r7_m 3
              have f7_m4 : (w4.alloc (.cells #[.int .i64 ep, .int .i64 st, .int .u8 to] 23)).cell? ⟨w.heap.size + 1, 4, none⟩ = some (.string mg) := by rw [HW6.out]; exact CB.cell r7_m 4
              have f7_l0 : (w4.alloc (.cells #[.int .i64 ep, .int .i64 st, .int .u8 to] 23)).cell? ⟨w4.heap.size, 0, none⟩ = some (.int .i64 ep) := by rw [HW6.out]; exact CB.cell nW6 0
              have f7_l1 : (w4.alloc (.cells #[.int .i64 ep, .int .i64 st, .int .u8 to] 23)).cell? ⟨w4.heap.size, 1, none⟩ = some (.int .i64 st) := by rw [HW6.out]; exact CB.cell nW6 1
              have f7_l2 : (w4.alloc (.cells #[.int .i64 ep, .int .i64 st, .int .u8 to] 23)).cell? ⟨w4.heap.size, 2, none⟩ = some (.int .u8 to) := by rw [HW6.out]; exact CB.cell nW6 2
              have f7_r0 : (w4.alloc (.cells #[.int .i64 ep, .int .i64 st, .int .u8 to] 23)).cell? ⟨w.heap.size + 1 + 1, 0, none⟩ = some (.int .u8 0) := by rw [HW6.out]; exact CB.cell r7_r 0
              have z7_r0 : (w4.alloc (.cells #[.int .i64 ep, .int .i64 st, .int .u8 to] 23)).frozen? ⟨w.heap.size + 1 + 1, 0, none⟩ = false := by rw [HW6.out]; exact CB.frozen r7_r 0
              have f7_r1 : (w4.alloc (.cells #[.int .i64 ep, .int .i64 st, .int .u8 to] 23)).cell? ⟨w.heap.size + 1 + 1, 1, none⟩ = some (.int .i64 0) := by rw [HW6.out]; exact CB.cell r7_r 1
              have z7_r1 : (w4.alloc (.cells #[.int .i64 ep, .int .i64 st, .int .u8 to] 23)).frozen? ⟨w.heap.size + 1 + 1, 1, none⟩ = false := by rw [HW6.out]; exact CB.frozen r7_r 1
              have f7_r2 : (w4.alloc (.cells #[.int .i64 ep, .int .i64 st, .int .u8 to] 23)).cell? ⟨w.heap.size + 1 + 1, 2, none⟩ = some (.int .i64 0) := by rw [HW6.out]; exact CB.cell r7_r 2
              have z7_r2 : (w4.alloc (.cells #[.int .i64 ep, .int .i64 st, .int .u8 to] 23)).frozen? ⟨w.heap.size + 1 + 1, 2, none⟩ = false := by rw [HW6.out]; exact CB.frozen r7_r 2
              have f7_r3 : (w4.alloc (.cells #[.int .i64 ep, .int .i64 st, .int .u8 to] 23)).cell? ⟨w.heap.size + 1 + 1, 3, none⟩ = some (.int .u8 0) := by rw [HW6.out]; exact CB.cell r7_r 3
              have z7_r3 : (w4.alloc (.cells #[.int .i64 ep, .int .i64 st, .int .u8 to] 23)).frozen? ⟨w.heap.size + 1 + 1, 3, none⟩ = false := by rw [HW6.out]; exact CB.frozen r7_r 3
              have f7_r4 : (w4.alloc (.cells #[.int .i64 ep, .int .i64 st, .int .u8 to] 23)).cell? ⟨w.heap.size + 1 + 1, 4, none⟩ = some (.string ⟨#[]⟩) := by rw [HW6.out]; exact CB.cell r7_r 4
              have z7_r4 : (w4.alloc (.cells #[.int .i64 ep, .int .i64 st, .int .u8 to] 23)).frozen? ⟨w.heap.size + 1 + 1, 4, none⟩ = false := by rw [HW6.out]; exact CB.frozen r7_r 4
              have f7_r5 : (w4.alloc (.cells #[.int .i64 ep, .int .i64 st, .int .u8 to] 23)).cell? ⟨w.heap.size + 1 + 1, 5, none⟩ = some (.bool false) := by rw [HW6.out]; exact CB.cell r7_r 5
              have z7_r5 : (w4.alloc (.cells #[.int .i64 ep, .int .i64 st, .int .u8 to] 23)).frozen? ⟨w.heap.size + 1 + 1, 5, none⟩ = false := by rw [HW6.out]; exact CB.frozen r7_r 5
              have f7_r6 : (w4.alloc (.cells #[.int .i64 ep, .int .i64 st, .int .u8 to] 23)).cell? ⟨w.heap.size + 1 + 1, 6, none⟩ = some (.slice none 0 0) := by rw [HW6.out]; exact CB.cell r7_r 6
              have z7_r6 : (w4.alloc (.cells #[.int .i64 ep, .int .i64 st, .int .u8 to] 23)).frozen? ⟨w.heap.size + 1 + 1, 6, none⟩ = false := by rw [HW6.out]; exact CB.frozen r7_r 6
              have f7_r7 : (w4.alloc (.cells #[.int .i64 ep, .int .i64 st, .int .u8 to] 23)).cell? ⟨w.heap.size + 1 + 1, 7, none⟩ = some (.int .i64 0) := by rw [HW6.out]; exact CB.cell r7_r 7
              have z7_r7 : (w4.alloc (.cells #[.int .i64 ep, .int .i64 st, .int .u8 to] 23)).frozen? ⟨w.heap.size + 1 + 1, 7, none⟩ = false := by rw [HW6.out]; exact CB.frozen r7_r 7
              obtain ⟨V8, hV8⟩ : ∃ V, (((((((W6.setCell ⟨w.heap.size + 1 + 1, 0, none⟩ (.int .u8 me)).setCell ⟨w.heap.size + 1 + 1, 1, none⟩ (.int .i64 ep)).setCell ⟨w.heap.size + 1 + 1, 2, none⟩ (.int .i64 st)).setCell ⟨w.heap.size + 1 + 1, 3, none⟩ (.int .u8 to)).setCell ⟨w.heap.size + 1 + 1, 4, none⟩ (.string cg)).setCell ⟨w.heap.size + 1 + 1, 5, none⟩ (.bool kp)).setCell ⟨w.heap.size + 1 + 1, 6, none⟩ (.slice none 0 0)).setCell ⟨w.heap.size + 1 + 1, 7, none⟩ (.int .i64 10) = V := ⟨_, rfl⟩
              have nV8 : CB V8 (w.heap.size + 1 + 1) 40 #[.int .u8 me, .int .i64 ep, .int .i64 st, .int .u8 to, .string cg, .bool kp, .slice none 0 0, .int .i64 10] := by rw [← hV8]; exact cb_cast (CB.put (CB.put (CB.put (CB.put (CB.put (CB.put (CB.put (CB.put r7_r 0 (.int .u8 me)) 1 (.int .i64 ep)) 2 (.int .i64 st)) 3 (.int .u8 to)) 4 (.string cg)) 5 (.bool kp)) 6 (.slice none 0 0)) 7 (.int .i64 10)) (by kernel_rfl)
              have mV8_s : CB V8 (w.heap.size) 25 #[.int .u8 me, .int .i64 ep, .int .i64 st, .int .u8 to, .string cg, .bool kp] := by rw [← hV8]; exact (CB.far (CB.far (CB.far (CB.far (CB.far (CB.far (CB.far (CB.far r7_s (p := ⟨w.heap.size + 1 + 1, 0, none⟩) neW1_02 (.int .u8 me)) (p := ⟨w.heap.size + 1 + 1, 1, none⟩) neW1_02 (.int .i64 ep)) (p := ⟨w.heap.size + 1 + 1, 2, none⟩) neW1_02 (.int .i64 st)) (p := ⟨w.heap.size + 1 + 1, 3, none⟩) neW1_02 (.int .u8 to)) (p := ⟨w.heap.size + 1 + 1, 4, none⟩) neW1_02 (.string cg)) (p := ⟨w.heap.size + 1 + 1, 5, none⟩) neW1_02 (.bool kp)) (p := ⟨w.heap.size + 1 + 1, 6, none⟩) neW1_02 (.slice none 0 0)) (p := ⟨w.heap.size + 1 + 1, 7, none⟩) neW1_02 (.int .i64 10))
              have mV8_m : CB V8 (w.heap.size + 1) 27 #[.int .i64 kd, .int .u8 fr, .int .u8 t, .int .i64 e, .string mg] := by rw [← hV8]; exact (CB.far (CB.far (CB.far (CB.far (CB.far (CB.far (CB.far (CB.far r7_m (p := ⟨w.heap.size + 1 + 1, 0, none⟩) neW1_12 (.int .u8 me)) (p := ⟨w.heap.size + 1 + 1, 1, none⟩) neW1_12 (.int .i64 ep)) (p := ⟨w.heap.size + 1 + 1, 2, none⟩) neW1_12 (.int .i64 st)) (p := ⟨w.heap.size + 1 + 1, 3, none⟩) neW1_12 (.int .u8 to)) (p := ⟨w.heap.size + 1 + 1, 4, none⟩) neW1_12 (.string cg)) (p := ⟨w.heap.size + 1 + 1, 5, none⟩) neW1_12 (.bool kp)) (p := ⟨w.heap.size + 1 + 1, 6, none⟩) neW1_12 (.slice none 0 0)) (p := ⟨w.heap.size + 1 + 1, 7, none⟩) neW1_12 (.int .i64 10))
              have mV8_l : CB V8 (w4.heap.size) 23 #[.int .i64 ep, .int .i64 st, .int .u8 to] := by rw [← hV8]; exact (CB.far (CB.far (CB.far (CB.far (CB.far (CB.far (CB.far (CB.far nW6 (p := ⟨w.heap.size + 1 + 1, 0, none⟩) (Ne.symm neW6_r) (.int .u8 me)) (p := ⟨w.heap.size + 1 + 1, 1, none⟩) (Ne.symm neW6_r) (.int .i64 ep)) (p := ⟨w.heap.size + 1 + 1, 2, none⟩) (Ne.symm neW6_r) (.int .i64 st)) (p := ⟨w.heap.size + 1 + 1, 3, none⟩) (Ne.symm neW6_r) (.int .u8 to)) (p := ⟨w.heap.size + 1 + 1, 4, none⟩) (Ne.symm neW6_r) (.string cg)) (p := ⟨w.heap.size + 1 + 1, 5, none⟩) (Ne.symm neW6_r) (.bool kp)) (p := ⟨w.heap.size + 1 + 1, 6, none⟩) (Ne.symm neW6_r) (.slice none 0 0)) (p := ⟨w.heap.size + 1 + 1, 7, none⟩) (Ne.symm neW6_r) (.int .i64 10))
              have oV8 := (Below.setCell (Below.setCell (Below.setCell (Below.setCell (Below.setCell (Below.setCell (Below.setCell (Below.setCell l7 (p := ⟨w.heap.size + 1 + 1, 0, none⟩) (by dsimp only; omega) (.int .u8 me)) (p := ⟨w.heap.size + 1 + 1, 1, none⟩) (by dsimp only; omega) (.int .i64 ep)) (p := ⟨w.heap.size + 1 + 1, 2, none⟩) (by dsimp only; omega) (.int .i64 st)) (p := ⟨w.heap.size + 1 + 1, 3, none⟩) (by dsimp only; omega) (.int .u8 to)) (p := ⟨w.heap.size + 1 + 1, 4, none⟩) (by dsimp only; omega) (.string cg)) (p := ⟨w.heap.size + 1 + 1, 5, none⟩) (by dsimp only; omega) (.bool kp)) (p := ⟨w.heap.size + 1 + 1, 6, none⟩) (by dsimp only; omega) (.slice none 0 0)) (p := ⟨w.heap.size + 1 + 1, 7, none⟩) (by dsimp only; omega) (.int .i64 10))
              rw [hV8] at oV8
              have HV8 := Lib.hid (show ((((((((w4.alloc (.cells #[.int .i64 ep, .int .i64 st, .int .u8 to] 23)).setCell ⟨w.heap.size + 1 + 1, 0, none⟩ (.int .u8 me)).setCell ⟨w.heap.size + 1 + 1, 1, none⟩ (.int .i64 ep)).setCell ⟨w.heap.size + 1 + 1, 2, none⟩ (.int .i64 st)).setCell ⟨w.heap.size + 1 + 1, 3, none⟩ (.int .u8 to)).setCell ⟨w.heap.size + 1 + 1, 4, none⟩ (.string cg)).setCell ⟨w.heap.size + 1 + 1, 5, none⟩ (.bool kp)).setCell ⟨w.heap.size + 1 + 1, 6, none⟩ (.slice none 0 0)).setCell ⟨w.heap.size + 1 + 1, 7, none⟩ (.int .i64 10) = V8 by rw [HW6.out]; exact hV8)
              clear hV8
              clear r7_r r7_s r7_m nW6 l7
              go_wp2_with fail
              rw [HV8.out]
              have x_r0 : V8.cell? ⟨w.heap.size + 1 + 1, 0, none⟩ = some (.int .u8 me) := CB.cell nV8 0
              have x_r1 : V8.cell? ⟨w.heap.size + 1 + 1, 1, none⟩ = some (.int .i64 ep) := CB.cell nV8 1
              have x_r2 : V8.cell? ⟨w.heap.size + 1 + 1, 2, none⟩ = some (.int .i64 st) := CB.cell nV8 2
              have x_r3 : V8.cell? ⟨w.heap.size + 1 + 1, 3, none⟩ = some (.int .u8 to) := CB.cell nV8 3
              have x_r4 : V8.cell? ⟨w.heap.size + 1 + 1, 4, none⟩ = some (.string cg) := CB.cell nV8 4
              have x_r5 : V8.cell? ⟨w.heap.size + 1 + 1, 5, none⟩ = some (.bool kp) := CB.cell nV8 5
              have x_r6 : V8.cell? ⟨w.heap.size + 1 + 1, 6, none⟩ = some (.slice none 0 0) := CB.cell nV8 6
              have x_r7 : V8.cell? ⟨w.heap.size + 1 + 1, 7, none⟩ = some (.int .i64 10) := CB.cell nV8 7
              exact bodyPost_ret (v := .agg #[.int .u8 me, .int .i64 ep, .int .i64 st, .int .u8 to, .string cg, .bool kp, .slice none 0 0, .int .i64 10]) (by simp [results, Try.results13, go_sem, x_r0, x_r1, x_r2, x_r3, x_r4, x_r5, x_r6, x_r7]) rfl (TdPost.mk' me ep st to cg kp 10 [] H.out (RS.nil _ _ _ _) oV8)
          · have t1 : (st != 2) = true := by simp [q1]
            clear hg q1
            obtain ⟨W1, hW1⟩ : ∃ V, ((w.alloc (.cells #[.int .u8 me, .int .i64 ep, .int .i64 st, .int .u8 to, .string cg, .bool kp] 25)).alloc (.cells #[.int .i64 kd, .int .u8 fr, .int .u8 t, .int .i64 e, .string mg] 27)).alloc (.cells #[.int .u8 0, .int .i64 0, .int .i64 0, .int .u8 0, .string ⟨#[]⟩, .bool false, .slice none 0 0, .int .i64 0] 40) = V := ⟨_, rfl⟩
            have nW1_s : CB W1 (w.heap.size) 25 #[.int .u8 me, .int .i64 ep, .int .i64 st, .int .u8 to, .string cg, .bool kp] := by
              rw [← hW1]
              have := (((CB.new w 25 #[.int .u8 me, .int .i64 ep, .int .i64 st, .int .u8 to, .string cg, .bool kp]).alloc (.cells #[.int .i64 kd, .int .u8 fr, .int .u8 t, .int .i64 e, .string mg] 27)).alloc (.cells #[.int .u8 0, .int .i64 0, .int .i64 0, .int .u8 0, .string ⟨#[]⟩, .bool false, .slice none 0 0, .int .i64 0] 40))
              simpa using this
            have nW1_m : CB W1 (w.heap.size + 1) 27 #[.int .i64 kd, .int .u8 fr, .int .u8 t, .int .i64 e, .string mg] := by
              rw [← hW1]
              have := ((CB.new (w.alloc (.cells #[.int .u8 me, .int .i64 ep, .int .i64 st, .int .u8 to, .string cg, .bool kp] 25)) 27 #[.int .i64 kd, .int .u8 fr, .int .u8 t, .int .i64 e, .string mg]).alloc (.cells #[.int .u8 0, .int .i64 0, .int .i64 0, .int .u8 0, .string ⟨#[]⟩, .bool false, .slice none 0 0, .int .i64 0] 40))
              simpa using this
            have nW1_r : CB W1 (w.heap.size + 1 + 1) 40 #[.int .u8 0, .int .i64 0, .int .i64 0, .int .u8 0, .string ⟨#[]⟩, .bool false, .slice none 0 0, .int .i64 0] := by
              rw [← hW1]
              have := (CB.new ((w.alloc (.cells #[.int .u8 me, .int .i64 ep, .int .i64 st, .int .u8 to, .string cg, .bool kp] 25)).alloc (.cells #[.int .i64 kd, .int .u8 fr, .int .u8 t, .int .i64 e, .string mg] 27)) 40 #[.int .u8 0, .int .i64 0, .int .i64 0, .int .u8 0, .string ⟨#[]⟩, .bool false, .slice none 0 0, .int .i64 0])
              simpa using this
            have neW1_01 : w.heap.size ≠ w.heap.size + 1 := by omega
            have neW1_02 : w.heap.size ≠ w.heap.size + 1 + 1 := by omega
            have neW1_12 : w.heap.size + 1 ≠ w.heap.size + 1 + 1 := by omega
            have lW1 : Below w.heap.size w W1 := by rw [← hW1]; exact le_tr (le_tr (le_al _ _) (le_al _ _)) (le_al _ _)
            have HW1 := Lib.hid hW1
            clear hW1
            go_enter Try.func13, Try.ntmps13
            go_wp2_with fail
            rw [HW1.out]
            refine (R1 _).mono ?_
            rintro e w2 ⟨rfl, b2⟩
            have r3_s := le_on nW1_s b2
            have r3_m := le_on nW1_m b2
            have r3_r := le_on nW1_r b2
            have l3 := le_tr lW1 b2
            clear nW1_s nW1_m nW1_r lW1
            clear b2
            have f3_s0 : w2.cell? ⟨w.heap.size, 0, none⟩ = some (.int .u8 me) := CB.cell r3_s 0
            have f3_s1 : w2.cell? ⟨w.heap.size, 1, none⟩ = some (.int .i64 ep) := CB.cell r3_s 1
            have f3_s2 : w2.cell? ⟨w.heap.size, 2, none⟩ = some (.int .i64 st) := CB.cell r3_s 2
            have f3_s3 : w2.cell? ⟨w.heap.size, 3, none⟩ = some (.int .u8 to) := CB.cell r3_s 3
            have f3_s4 : w2.cell? ⟨w.heap.size, 4, none⟩ = some (.string cg) := CB.cell r3_s 4
            have f3_s5 : w2.cell? ⟨w.heap.size, 5, none⟩ = some (.bool kp) := CB.cell r3_s 5
            have f3_m0 : w2.cell? ⟨w.heap.size + 1, 0, none⟩ = some (.int .i64 kd) := CB.cell r3_m 0
            have f3_m1 : w2.cell? ⟨w.heap.size + 1, 1, none⟩ = some (.int .u8 fr) := CB.cell r3_m 1
            have f3_m2 : w2.cell? ⟨w.heap.size + 1, 2, none⟩ = some (.int .u8 t) := CB.cell r3_m 2
            have f3_m3 : w2.cell? ⟨w.heap.size + 1, 3, none⟩ = some (.int .i64 e) := CB.cell r3_m 3
            have f3_m4 : w2.cell? ⟨w.heap.size + 1, 4, none⟩ = some (.string mg) := CB.cell r3_m 4
            go_wp2_with fail
            refine (M1 _).mono ?_
            rintro e w4 ⟨rfl, b4⟩
            clear f3_s0 f3_s1 f3_s2 f3_s3 f3_s4 f3_s5 f3_m0 f3_m1 f3_m2 f3_m3 f3_m4
            have r5_s := le_on r3_s b4
            have r5_m := le_on r3_m b4
            have r5_r := le_on r3_r b4
            have l5 := le_tr l3 b4
            clear r3_s r3_m r3_r l3
            clear b4
            have f5_s0 : w4.cell? ⟨w.heap.size, 0, none⟩ = some (.int .u8 me) := CB.cell r5_s 0
            have f5_s1 : w4.cell? ⟨w.heap.size, 1, none⟩ = some (.int .i64 ep) := CB.cell r5_s 1
            have f5_s2 : w4.cell? ⟨w.heap.size, 2, none⟩ = some (.int .i64 st) := CB.cell r5_s 2
            have f5_s3 : w4.cell? ⟨w.heap.size, 3, none⟩ = some (.int .u8 to) := CB.cell r5_s 3
            have f5_s4 : w4.cell? ⟨w.heap.size, 4, none⟩ = some (.string cg) := CB.cell r5_s 4
            have f5_s5 : w4.cell? ⟨w.heap.size, 5, none⟩ = some (.bool kp) := CB.cell r5_s 5
            have f5_m0 : w4.cell? ⟨w.heap.size + 1, 0, none⟩ = some (.int .i64 kd) := CB.cell r5_m 0
            have f5_m1 : w4.cell? ⟨w.heap.size + 1, 1, none⟩ = some (.int .u8 fr) := CB.cell r5_m 1
            have f5_m2 : w4.cell? ⟨w.heap.size + 1, 2, none⟩ = some (.int .u8 t) := CB.cell r5_m 2
            have f5_m3 : w4.cell? ⟨w.heap.size + 1, 3, none⟩ = some (.int .i64 e) := CB.cell r5_m 3
            have f5_m4 : w4.cell? ⟨w.heap.size + 1, 4, none⟩ = some (.string mg) := CB.cell r5_m 4
            have av_l : w.heap.size ≤ w4.heap.size := by have := l5.size; omega
            obtain ⟨W6, hW6⟩ : ∃ V, w4.alloc (.cells #[.int .i64 ep, .int .i64 st, .int .u8 to] 23) = V := ⟨_, rfl⟩
            have zW6 : w4.heap.size = w4.heap.size := by rfl
            have nW6 : CB W6 (w4.heap.size) 23 #[.int .i64 ep, .int .i64 st, .int .u8 to] := by rw [← zW6, ← hW6]; exact CB.new _ _ _
            have bW6 : Below w4.heap.size w4 W6 := by rw [← hW6]; exact le_al _ _
            have neW6_s : w.heap.size ≠ w4.heap.size := by have := CB.lt r5_s; omega
            have neW6_m : w.heap.size + 1 ≠ w4.heap.size := by have := CB.lt r5_m; omega
            have neW6_r : w.heap.size + 1 + 1 ≠ w4.heap.size := by have := CB.lt r5_r; omega
            have HW6 := Lib.hid hW6
            clear hW6 zW6
            have r7_s := le_on r5_s bW6
            have r7_m := le_on r5_m bW6
            have r7_r := le_on r5_r bW6
            have l7 := le_tr l5 bW6
            clear r5_s r5_m r5_r l5
            clear bW6
            have f7_s0 : (w4.alloc (.cells #[.int .i64 ep, .int .i64 st, .int .u8 to] 23)).cell? ⟨w.heap.size, 0, none⟩ = some (.int .u8 me) := by rw [HW6.out]; exact CB.cell r7_s 0
            have f7_s1 : (w4.alloc (.cells #[.int .i64 ep, .int .i64 st, .int .u8 to] 23)).cell? ⟨w.heap.size, 1, none⟩ = some (.int .i64 ep) := by rw [HW6.out]; exact CB.cell r7_s 1
            have f7_s2 : (w4.alloc (.cells #[.int .i64 ep, .int .i64 st, .int .u8 to] 23)).cell? ⟨w.heap.size, 2, none⟩ = some (.int .i64 st) := by rw [HW6.out]; exact CB.cell r7_s 2
            have f7_s3 : (w4.alloc (.cells #[.int .i64 ep, .int .i64 st, .int .u8 to] 23)).cell? ⟨w.heap.size, 3, none⟩ = some (.int .u8 to) := by rw [HW6.out]; exact CB.cell r7_s 3
            have f7_s4 : (w4.alloc (.cells #[.int .i64 ep, .int .i64 st, .int .u8 to] 23)).cell? ⟨w.heap.size, 4, none⟩ = some (.string cg) := by rw [HW6.out]; exact CB.cell r7_s 4
            have f7_s5 : (w4.alloc (.cells #[.int .i64 ep, .int .i64 st, .int .u8 to] 23)).cell? ⟨w.heap.size, 5, none⟩ = some (.bool kp) := by rw [HW6.out]; exact CB.cell r7_s 5
            have f7_m0 : (w4.alloc (.cells #[.int .i64 ep, .int .i64 st, .int .u8 to] 23)).cell? ⟨w.heap.size + 1, 0, none⟩ = some (.int .i64 kd) := by rw [HW6.out]; exact CB.cell r7_m 0
            have f7_m1 : (w4.alloc (.cells #[.int .i64 ep, .int .i64 st, .int .u8 to] 23)).cell? ⟨w.heap.size + 1, 1, none⟩ = some (.int .u8 fr) := by rw [HW6.out]; exact CB.cell r7_m 1
            have f7_m2 : (w4.alloc (.cells #[.int .i64 ep, .int .i64 st, .int .u8 to] 23)).cell? ⟨w.heap.size + 1, 2, none⟩ = some (.int .u8 t) := by rw [HW6.out]; exact CB.cell r7_m 2
            have f7_m3 : (w4.alloc (.cells #[.int .i64 ep, .int .i64 st, .int .u8 to] 23)).cell? ⟨w.heap.size + 1, 3, none⟩ = some (.int .i64 e) := by rw [HW6.out]; exact CB.cell r7_m 3
            have f7_m4 : (w4.alloc (.cells #[.int .i64 ep, .int .i64 st, .int .u8 to] 23)).cell? ⟨w.heap.size + 1, 4, none⟩ = some (.string mg) := by rw [HW6.out]; exact CB.cell r7_m 4
            have f7_l0 : (w4.alloc (.cells #[.int .i64 ep, .int .i64 st, .int .u8 to] 23)).cell? ⟨w4.heap.size, 0, none⟩ = some (.int .i64 ep) := by rw [HW6.out]; exact CB.cell nW6 0
            have f7_l1 : (w4.alloc (.cells #[.int .i64 ep, .int .i64 st, .int .u8 to] 23)).cell? ⟨w4.heap.size, 1, none⟩ = some (.int .i64 st) := by rw [HW6.out]; exact CB.cell nW6 1
            have f7_l2 : (w4.alloc (.cells #[.int .i64 ep, .int .i64 st, .int .u8 to] 23)).cell? ⟨w4.heap.size, 2, none⟩ = some (.int .u8 to) := by rw [HW6.out]; exact CB.cell nW6 2
            have f7_r0 : (w4.alloc (.cells #[.int .i64 ep, .int .i64 st, .int .u8 to] 23)).cell? ⟨w.heap.size + 1 + 1, 0, none⟩ = some (.int .u8 0) := by rw [HW6.out]; exact CB.cell r7_r 0
            have z7_r0 : (w4.alloc (.cells #[.int .i64 ep, .int .i64 st, .int .u8 to] 23)).frozen? ⟨w.heap.size + 1 + 1, 0, none⟩ = false := by rw [HW6.out]; exact CB.frozen r7_r 0
            have f7_r1 : (w4.alloc (.cells #[.int .i64 ep, .int .i64 st, .int .u8 to] 23)).cell? ⟨w.heap.size + 1 + 1, 1, none⟩ = some (.int .i64 0) := by rw [HW6.out]; exact CB.cell r7_r 1
            have z7_r1 : (w4.alloc (.cells #[.int .i64 ep, .int .i64 st, .int .u8 to] 23)).frozen? ⟨w.heap.size + 1 + 1, 1, none⟩ = false := by rw [HW6.out]; exact CB.frozen r7_r 1
            have f7_r2 : (w4.alloc (.cells #[.int .i64 ep, .int .i64 st, .int .u8 to] 23)).cell? ⟨w.heap.size + 1 + 1, 2, none⟩ = some (.int .i64 0) := by rw [HW6.out]; exact CB.cell r7_r 2
            have z7_r2 : (w4.alloc (.cells #[.int .i64 ep, .int .i64 st, .int .u8 to] 23)).frozen? ⟨w.heap.size + 1 + 1, 2, none⟩ = false := by rw [HW6.out]; exact CB.frozen r7_r 2
            have f7_r3 : (w4.alloc (.cells #[.int .i64 ep, .int .i64 st, .int .u8 to] 23)).cell? ⟨w.heap.size + 1 + 1, 3, none⟩ = some (.int .u8 0) := by rw [HW6.out]; exact CB.cell r7_r 3
            have z7_r3 : (w4.alloc (.cells #[.int .i64 ep, .int .i64 st, .int .u8 to] 23)).frozen? ⟨w.heap.size + 1 + 1, 3, none⟩ = false := by rw [HW6.out]; exact CB.frozen r7_r 3
            have f7_r4 : (w4.alloc (.cells #[.int .i64 ep, .int .i64 st, .int .u8 to] 23)).cell? ⟨w.heap.size + 1 + 1, 4, none⟩ = some (.string ⟨#[]⟩) := by rw [HW6.out]; exact CB.cell r7_r 4
            have z7_r4 : (w4.alloc (.cells #[.int .i64 ep, .int .i64 st, .int .u8 to] 23)).frozen? ⟨w.heap.size + 1 + 1, 4, none⟩ = false := by rw [HW6.out]; exact CB.frozen r7_r 4
            have f7_r5 : (w4.alloc (.cells #[.int .i64 ep, .int .i64 st, .int .u8 to] 23)).cell? ⟨w.heap.size + 1 + 1, 5, none⟩ = some (.bool false) := by rw [HW6.out]; exact CB.cell r7_r 5
            have z7_r5 : (w4.alloc (.cells #[.int .i64 ep, .int .i64 st, .int .u8 to] 23)).frozen? ⟨w.heap.size + 1 + 1, 5, none⟩ = false := by rw [HW6.out]; exact CB.frozen r7_r 5
            have f7_r6 : (w4.alloc (.cells #[.int .i64 ep, .int .i64 st, .int .u8 to] 23)).cell? ⟨w.heap.size + 1 + 1, 6, none⟩ = some (.slice none 0 0) := by rw [HW6.out]; exact CB.cell r7_r 6
            have z7_r6 : (w4.alloc (.cells #[.int .i64 ep, .int .i64 st, .int .u8 to] 23)).frozen? ⟨w.heap.size + 1 + 1, 6, none⟩ = false := by rw [HW6.out]; exact CB.frozen r7_r 6
            have f7_r7 : (w4.alloc (.cells #[.int .i64 ep, .int .i64 st, .int .u8 to] 23)).cell? ⟨w.heap.size + 1 + 1, 7, none⟩ = some (.int .i64 0) := by rw [HW6.out]; exact CB.cell r7_r 7
            have z7_r7 : (w4.alloc (.cells #[.int .i64 ep, .int .i64 st, .int .u8 to] 23)).frozen? ⟨w.heap.size + 1 + 1, 7, none⟩ = false := by rw [HW6.out]; exact CB.frozen r7_r 7
            obtain ⟨V8, hV8⟩ : ∃ V, (((((((W6.setCell ⟨w.heap.size + 1 + 1, 0, none⟩ (.int .u8 me)).setCell ⟨w.heap.size + 1 + 1, 1, none⟩ (.int .i64 ep)).setCell ⟨w.heap.size + 1 + 1, 2, none⟩ (.int .i64 st)).setCell ⟨w.heap.size + 1 + 1, 3, none⟩ (.int .u8 to)).setCell ⟨w.heap.size + 1 + 1, 4, none⟩ (.string cg)).setCell ⟨w.heap.size + 1 + 1, 5, none⟩ (.bool kp)).setCell ⟨w.heap.size + 1 + 1, 6, none⟩ (.slice none 0 0)).setCell ⟨w.heap.size + 1 + 1, 7, none⟩ (.int .i64 10) = V := ⟨_, rfl⟩
            have nV8 : CB V8 (w.heap.size + 1 + 1) 40 #[.int .u8 me, .int .i64 ep, .int .i64 st, .int .u8 to, .string cg, .bool kp, .slice none 0 0, .int .i64 10] := by rw [← hV8]; exact cb_cast (CB.put (CB.put (CB.put (CB.put (CB.put (CB.put (CB.put (CB.put r7_r 0 (.int .u8 me)) 1 (.int .i64 ep)) 2 (.int .i64 st)) 3 (.int .u8 to)) 4 (.string cg)) 5 (.bool kp)) 6 (.slice none 0 0)) 7 (.int .i64 10)) (by kernel_rfl)
            have mV8_s : CB V8 (w.heap.size) 25 #[.int .u8 me, .int .i64 ep, .int .i64 st, .int .u8 to, .string cg, .bool kp] := by rw [← hV8]; exact (CB.far (CB.far (CB.far (CB.far (CB.far (CB.far (CB.far (CB.far r7_s (p := ⟨w.heap.size + 1 + 1, 0, none⟩) neW1_02 (.int .u8 me)) (p := ⟨w.heap.size + 1 + 1, 1, none⟩) neW1_02 (.int .i64 ep)) (p := ⟨w.heap.size + 1 + 1, 2, none⟩) neW1_02 (.int .i64 st)) (p := ⟨w.heap.size + 1 + 1, 3, none⟩) neW1_02 (.int .u8 to)) (p := ⟨w.heap.size + 1 + 1, 4, none⟩) neW1_02 (.string cg)) (p := ⟨w.heap.size + 1 + 1, 5, none⟩) neW1_02 (.bool kp)) (p := ⟨w.heap.size + 1 + 1, 6, none⟩) neW1_02 (.slice none 0 0)) (p := ⟨w.heap.size + 1 + 1, 7, none⟩) neW1_02 (.int .i64 10))
            have mV8_m : CB V8 (w.heap.size + 1) 27 #[.int .i64 kd, .int .u8 fr, .int .u8 t, .int .i64 e, .string mg] := by rw [← hV8]; exact (CB.far (CB.far (CB.far (CB.far (CB.far (CB.far (CB.far (CB.far r7_m (p := ⟨w.heap.size + 1 + 1, 0, none⟩) neW1_12 (.int .u8 me)) (p := ⟨w.heap.size + 1 + 1, 1, none⟩) neW1_12 (.int .i64 ep)) (p := ⟨w.heap.size + 1 + 1, 2, none⟩) neW1_12 (.int .i64 st)) (p := ⟨w.heap.size + 1 + 1, 3, none⟩) neW1_12 (.int .u8 to)) (p := ⟨w.heap.size + 1 + 1, 4, none⟩) neW1_12 (.string cg)) (p := ⟨w.heap.size + 1 + 1, 5, none⟩) neW1_12 (.bool kp)) (p := ⟨w.heap.size + 1 + 1, 6, none⟩) neW1_12 (.slice none 0 0)) (p := ⟨w.heap.size + 1 + 1, 7, none⟩) neW1_12 (.int .i64 10))
            have mV8_l : CB V8 (w4.heap.size) 23 #[.int .i64 ep, .int .i64 st, .int .u8 to] := by rw [← hV8]; exact (CB.far (CB.far (CB.far (CB.far (CB.far (CB.far (CB.far (CB.far nW6 (p := ⟨w.heap.size + 1 + 1, 0, none⟩) (Ne.symm neW6_r) (.int .u8 me)) (p := ⟨w.heap.size + 1 + 1, 1, none⟩) (Ne.symm neW6_r) (.int .i64 ep)) (p := ⟨w.heap.size + 1 + 1, 2, none⟩) (Ne.symm neW6_r) (.int .i64 st)) (p := ⟨w.heap.size + 1 + 1, 3, none⟩) (Ne.symm neW6_r) (.int .u8 to)) (p := ⟨w.heap.size + 1 + 1, 4, none⟩) (Ne.symm neW6_r) (.string cg)) (p := ⟨w.heap.size + 1 + 1, 5, none⟩) (Ne.symm neW6_r) (.bool kp)) (p := ⟨w.heap.size + 1 + 1, 6, none⟩) (Ne.symm neW6_r) (.slice none 0 0)) (p := ⟨w.heap.size + 1 + 1, 7, none⟩) (Ne.symm neW6_r) (.int .i64 10))
            have oV8 := (Below.setCell (Below.setCell (Below.setCell (Below.setCell (Below.setCell (Below.setCell (Below.setCell (Below.setCell l7 (p := ⟨w.heap.size + 1 + 1, 0, none⟩) (by dsimp only; omega) (.int .u8 me)) (p := ⟨w.heap.size + 1 + 1, 1, none⟩) (by dsimp only; omega) (.int .i64 ep)) (p := ⟨w.heap.size + 1 + 1, 2, none⟩) (by dsimp only; omega) (.int .i64 st)) (p := ⟨w.heap.size + 1 + 1, 3, none⟩) (by dsimp only; omega) (.int .u8 to)) (p := ⟨w.heap.size + 1 + 1, 4, none⟩) (by dsimp only; omega) (.string cg)) (p := ⟨w.heap.size + 1 + 1, 5, none⟩) (by dsimp only; omega) (.bool kp)) (p := ⟨w.heap.size + 1 + 1, 6, none⟩) (by dsimp only; omega) (.slice none 0 0)) (p := ⟨w.heap.size + 1 + 1, 7, none⟩) (by dsimp only; omega) (.int .i64 10))
            rw [hV8] at oV8
            have HV8 := Lib.hid (show ((((((((w4.alloc (.cells #[.int .i64 ep, .int .i64 st, .int .u8 to] 23)).setCell ⟨w.heap.size + 1 + 1, 0, none⟩ (.int .u8 me)).setCell ⟨w.heap.size + 1 + 1, 1, none⟩ (.int .i64 ep)).setCell ⟨w.heap.size + 1 + 1, 2, none⟩ (.int .i64 st)).setCell ⟨w.heap.size + 1 + 1, 3, none⟩ (.int .u8 to)).setCell ⟨w.heap.size + 1 + 1, 4, none⟩ (.string cg)).setCell ⟨w.heap.size + 1 + 1, 5, none⟩ (.bool kp)).setCell ⟨w.heap.size + 1 + 1, 6, none⟩ (.slice none 0 0)).setCell ⟨w.heap.size + 1 + 1, 7, none⟩ (.int .i64 10) = V8 by rw [HW6.out]; exact hV8)
            clear hV8
            clear r7_r r7_s r7_m nW6 l7
            go_wp2_with fail
            rw [HV8.out]
            have x_r0 : V8.cell? ⟨w.heap.size + 1 + 1, 0, none⟩ = some (.int .u8 me) := CB.cell nV8 0
            have x_r1 : V8.cell? ⟨w.heap.size + 1 + 1, 1, none⟩ = some (.int .i64 ep) := CB.cell nV8 1
            have x_r2 : V8.cell? ⟨w.heap.size + 1 + 1, 2, none⟩ = some (.int .i64 st) := CB.cell nV8 2
            have x_r3 : V8.cell? ⟨w.heap.size + 1 + 1, 3, none⟩ = some (.int .u8 to) := CB.cell nV8 3
            have x_r4 : V8.cell? ⟨w.heap.size + 1 + 1, 4, none⟩ = some (.string cg) := CB.cell nV8 4
            have x_r5 : V8.cell? ⟨w.heap.size + 1 + 1, 5, none⟩ = some (.bool kp) := CB.cell nV8 5
            have x_r6 : V8.cell? ⟨w.heap.size + 1 + 1, 6, none⟩ = some (.slice none 0 0) := CB.cell nV8 6
            have x_r7 : V8.cell? ⟨w.heap.size + 1 + 1, 7, none⟩ = some (.int .i64 10) := CB.cell nV8 7
            exact bodyPost_ret (v := .agg #[.int .u8 me, .int .i64 ep, .int .i64 st, .int .u8 to, .string cg, .bool kp, .slice none 0 0, .int .i64 10]) (by simp [results, Try.results13, go_sem, x_r0, x_r1, x_r2, x_r3, x_r4, x_r5, x_r6, x_r7]) rfl (TdPost.mk' me ep st to cg kp 10 [] H.out (RS.nil _ _ _ _) oV8)
      · have htm' : (t != me) = true := by simp [htm]
        have H := Lib.hid (show hearM ⟨me, ⟨ep, st, to⟩, cg, kp⟩ ⟨kd, fr, t, e, mg⟩ = ⟨⟨me, ⟨ep, st, to⟩, cg, kp⟩, [], 2⟩ from if_neg (fun h => htm h.2.2))
        have R1 := fun W => (by have := hright_r me ep st to cg kp W; rw [hR] at this; exact this)
        have M1 := fun W => (by have := may_r kd fr t e mg W; rw [hM] at this; exact this)
        clear hR hM htm
        obtain ⟨W1, hW1⟩ : ∃ V, ((w.alloc (.cells #[.int .u8 me, .int .i64 ep, .int .i64 st, .int .u8 to, .string cg, .bool kp] 25)).alloc (.cells #[.int .i64 kd, .int .u8 fr, .int .u8 t, .int .i64 e, .string mg] 27)).alloc (.cells #[.int .u8 0, .int .i64 0, .int .i64 0, .int .u8 0, .string ⟨#[]⟩, .bool false, .slice none 0 0, .int .i64 0] 40) = V := ⟨_, rfl⟩
        have nW1_s : CB W1 (w.heap.size) 25 #[.int .u8 me, .int .i64 ep, .int .i64 st, .int .u8 to, .string cg, .bool kp] := by
          rw [← hW1]
          have := (((CB.new w 25 #[.int .u8 me, .int .i64 ep, .int .i64 st, .int .u8 to, .string cg, .bool kp]).alloc (.cells #[.int .i64 kd, .int .u8 fr, .int .u8 t, .int .i64 e, .string mg] 27)).alloc (.cells #[.int .u8 0, .int .i64 0, .int .i64 0, .int .u8 0, .string ⟨#[]⟩, .bool false, .slice none 0 0, .int .i64 0] 40))
          simpa using this
        have nW1_m : CB W1 (w.heap.size + 1) 27 #[.int .i64 kd, .int .u8 fr, .int .u8 t, .int .i64 e, .string mg] := by
          rw [← hW1]
          have := ((CB.new (w.alloc (.cells #[.int .u8 me, .int .i64 ep, .int .i64 st, .int .u8 to, .string cg, .bool kp] 25)) 27 #[.int .i64 kd, .int .u8 fr, .int .u8 t, .int .i64 e, .string mg]).alloc (.cells #[.int .u8 0, .int .i64 0, .int .i64 0, .int .u8 0, .string ⟨#[]⟩, .bool false, .slice none 0 0, .int .i64 0] 40))
          simpa using this
        have nW1_r : CB W1 (w.heap.size + 1 + 1) 40 #[.int .u8 0, .int .i64 0, .int .i64 0, .int .u8 0, .string ⟨#[]⟩, .bool false, .slice none 0 0, .int .i64 0] := by
          rw [← hW1]
          have := (CB.new ((w.alloc (.cells #[.int .u8 me, .int .i64 ep, .int .i64 st, .int .u8 to, .string cg, .bool kp] 25)).alloc (.cells #[.int .i64 kd, .int .u8 fr, .int .u8 t, .int .i64 e, .string mg] 27)) 40 #[.int .u8 0, .int .i64 0, .int .i64 0, .int .u8 0, .string ⟨#[]⟩, .bool false, .slice none 0 0, .int .i64 0])
          simpa using this
        have neW1_01 : w.heap.size ≠ w.heap.size + 1 := by omega
        have neW1_02 : w.heap.size ≠ w.heap.size + 1 + 1 := by omega
        have neW1_12 : w.heap.size + 1 ≠ w.heap.size + 1 + 1 := by omega
        have lW1 : Below w.heap.size w W1 := by rw [← hW1]; exact le_tr (le_tr (le_al _ _) (le_al _ _)) (le_al _ _)
        have HW1 := Lib.hid hW1
        clear hW1
        go_enter Try.func13, Try.ntmps13
        go_wp2_with fail
        rw [HW1.out]
        refine (R1 _).mono ?_
        rintro e w2 ⟨rfl, b2⟩
        have r3_s := le_on nW1_s b2
        have r3_m := le_on nW1_m b2
        have r3_r := le_on nW1_r b2
        have l3 := le_tr lW1 b2
        clear nW1_s nW1_m nW1_r lW1
        clear b2
        have f3_s0 : w2.cell? ⟨w.heap.size, 0, none⟩ = some (.int .u8 me) := CB.cell r3_s 0
        have f3_s1 : w2.cell? ⟨w.heap.size, 1, none⟩ = some (.int .i64 ep) := CB.cell r3_s 1
        have f3_s2 : w2.cell? ⟨w.heap.size, 2, none⟩ = some (.int .i64 st) := CB.cell r3_s 2
        have f3_s3 : w2.cell? ⟨w.heap.size, 3, none⟩ = some (.int .u8 to) := CB.cell r3_s 3
        have f3_s4 : w2.cell? ⟨w.heap.size, 4, none⟩ = some (.string cg) := CB.cell r3_s 4
        have f3_s5 : w2.cell? ⟨w.heap.size, 5, none⟩ = some (.bool kp) := CB.cell r3_s 5
        have f3_m0 : w2.cell? ⟨w.heap.size + 1, 0, none⟩ = some (.int .i64 kd) := CB.cell r3_m 0
        have f3_m1 : w2.cell? ⟨w.heap.size + 1, 1, none⟩ = some (.int .u8 fr) := CB.cell r3_m 1
        have f3_m2 : w2.cell? ⟨w.heap.size + 1, 2, none⟩ = some (.int .u8 t) := CB.cell r3_m 2
        have f3_m3 : w2.cell? ⟨w.heap.size + 1, 3, none⟩ = some (.int .i64 e) := CB.cell r3_m 3
        have f3_m4 : w2.cell? ⟨w.heap.size + 1, 4, none⟩ = some (.string mg) := CB.cell r3_m 4
        go_wp2_with fail
        refine (M1 _).mono ?_
        rintro e w4 ⟨rfl, b4⟩
        clear f3_s0 f3_s1 f3_s2 f3_s3 f3_s4 f3_s5 f3_m0 f3_m1 f3_m2 f3_m3 f3_m4
        have r5_s := le_on r3_s b4
        have r5_m := le_on r3_m b4
        have r5_r := le_on r3_r b4
        have l5 := le_tr l3 b4
        clear r3_s r3_m r3_r l3
        clear b4
        have f5_s0 : w4.cell? ⟨w.heap.size, 0, none⟩ = some (.int .u8 me) := CB.cell r5_s 0
        have f5_s1 : w4.cell? ⟨w.heap.size, 1, none⟩ = some (.int .i64 ep) := CB.cell r5_s 1
        have f5_s2 : w4.cell? ⟨w.heap.size, 2, none⟩ = some (.int .i64 st) := CB.cell r5_s 2
        have f5_s3 : w4.cell? ⟨w.heap.size, 3, none⟩ = some (.int .u8 to) := CB.cell r5_s 3
        have f5_s4 : w4.cell? ⟨w.heap.size, 4, none⟩ = some (.string cg) := CB.cell r5_s 4
        have f5_s5 : w4.cell? ⟨w.heap.size, 5, none⟩ = some (.bool kp) := CB.cell r5_s 5
        have f5_m0 : w4.cell? ⟨w.heap.size + 1, 0, none⟩ = some (.int .i64 kd) := CB.cell r5_m 0
        have f5_m1 : w4.cell? ⟨w.heap.size + 1, 1, none⟩ = some (.int .u8 fr) := CB.cell r5_m 1
        have f5_m2 : w4.cell? ⟨w.heap.size + 1, 2, none⟩ = some (.int .u8 t) := CB.cell r5_m 2
        have f5_m3 : w4.cell? ⟨w.heap.size + 1, 3, none⟩ = some (.int .i64 e) := CB.cell r5_m 3
        have f5_m4 : w4.cell? ⟨w.heap.size + 1, 4, none⟩ = some (.string mg) := CB.cell r5_m 4
        have f5_r0 : w4.cell? ⟨w.heap.size + 1 + 1, 0, none⟩ = some (.int .u8 0) := CB.cell r5_r 0
        have z5_r0 : w4.frozen? ⟨w.heap.size + 1 + 1, 0, none⟩ = false := CB.frozen r5_r 0
        have f5_r1 : w4.cell? ⟨w.heap.size + 1 + 1, 1, none⟩ = some (.int .i64 0) := CB.cell r5_r 1
        have z5_r1 : w4.frozen? ⟨w.heap.size + 1 + 1, 1, none⟩ = false := CB.frozen r5_r 1
        have f5_r2 : w4.cell? ⟨w.heap.size + 1 + 1, 2, none⟩ = some (.int .i64 0) := CB.cell r5_r 2
        have z5_r2 : w4.frozen? ⟨w.heap.size + 1 + 1, 2, none⟩ = false := CB.frozen r5_r 2
        have f5_r3 : w4.cell? ⟨w.heap.size + 1 + 1, 3, none⟩ = some (.int .u8 0) := CB.cell r5_r 3
        have z5_r3 : w4.frozen? ⟨w.heap.size + 1 + 1, 3, none⟩ = false := CB.frozen r5_r 3
        have f5_r4 : w4.cell? ⟨w.heap.size + 1 + 1, 4, none⟩ = some (.string ⟨#[]⟩) := CB.cell r5_r 4
        have z5_r4 : w4.frozen? ⟨w.heap.size + 1 + 1, 4, none⟩ = false := CB.frozen r5_r 4
        have f5_r5 : w4.cell? ⟨w.heap.size + 1 + 1, 5, none⟩ = some (.bool false) := CB.cell r5_r 5
        have z5_r5 : w4.frozen? ⟨w.heap.size + 1 + 1, 5, none⟩ = false := CB.frozen r5_r 5
        have f5_r6 : w4.cell? ⟨w.heap.size + 1 + 1, 6, none⟩ = some (.slice none 0 0) := CB.cell r5_r 6
        have z5_r6 : w4.frozen? ⟨w.heap.size + 1 + 1, 6, none⟩ = false := CB.frozen r5_r 6
        have f5_r7 : w4.cell? ⟨w.heap.size + 1 + 1, 7, none⟩ = some (.int .i64 0) := CB.cell r5_r 7
        have z5_r7 : w4.frozen? ⟨w.heap.size + 1 + 1, 7, none⟩ = false := CB.frozen r5_r 7
        obtain ⟨V6, hV6⟩ : ∃ V, (((((((w4.setCell ⟨w.heap.size + 1 + 1, 0, none⟩ (.int .u8 me)).setCell ⟨w.heap.size + 1 + 1, 1, none⟩ (.int .i64 ep)).setCell ⟨w.heap.size + 1 + 1, 2, none⟩ (.int .i64 st)).setCell ⟨w.heap.size + 1 + 1, 3, none⟩ (.int .u8 to)).setCell ⟨w.heap.size + 1 + 1, 4, none⟩ (.string cg)).setCell ⟨w.heap.size + 1 + 1, 5, none⟩ (.bool kp)).setCell ⟨w.heap.size + 1 + 1, 6, none⟩ (.slice none 0 0)).setCell ⟨w.heap.size + 1 + 1, 7, none⟩ (.int .i64 2) = V := ⟨_, rfl⟩
        have nV6 : CB V6 (w.heap.size + 1 + 1) 40 #[.int .u8 me, .int .i64 ep, .int .i64 st, .int .u8 to, .string cg, .bool kp, .slice none 0 0, .int .i64 2] := by rw [← hV6]; exact cb_cast (CB.put (CB.put (CB.put (CB.put (CB.put (CB.put (CB.put (CB.put r5_r 0 (.int .u8 me)) 1 (.int .i64 ep)) 2 (.int .i64 st)) 3 (.int .u8 to)) 4 (.string cg)) 5 (.bool kp)) 6 (.slice none 0 0)) 7 (.int .i64 2)) (by kernel_rfl)
        have mV6_s : CB V6 (w.heap.size) 25 #[.int .u8 me, .int .i64 ep, .int .i64 st, .int .u8 to, .string cg, .bool kp] := by rw [← hV6]; exact (CB.far (CB.far (CB.far (CB.far (CB.far (CB.far (CB.far (CB.far r5_s (p := ⟨w.heap.size + 1 + 1, 0, none⟩) neW1_02 (.int .u8 me)) (p := ⟨w.heap.size + 1 + 1, 1, none⟩) neW1_02 (.int .i64 ep)) (p := ⟨w.heap.size + 1 + 1, 2, none⟩) neW1_02 (.int .i64 st)) (p := ⟨w.heap.size + 1 + 1, 3, none⟩) neW1_02 (.int .u8 to)) (p := ⟨w.heap.size + 1 + 1, 4, none⟩) neW1_02 (.string cg)) (p := ⟨w.heap.size + 1 + 1, 5, none⟩) neW1_02 (.bool kp)) (p := ⟨w.heap.size + 1 + 1, 6, none⟩) neW1_02 (.slice none 0 0)) (p := ⟨w.heap.size + 1 + 1, 7, none⟩) neW1_02 (.int .i64 2))
        have mV6_m : CB V6 (w.heap.size + 1) 27 #[.int .i64 kd, .int .u8 fr, .int .u8 t, .int .i64 e, .string mg] := by rw [← hV6]; exact (CB.far (CB.far (CB.far (CB.far (CB.far (CB.far (CB.far (CB.far r5_m (p := ⟨w.heap.size + 1 + 1, 0, none⟩) neW1_12 (.int .u8 me)) (p := ⟨w.heap.size + 1 + 1, 1, none⟩) neW1_12 (.int .i64 ep)) (p := ⟨w.heap.size + 1 + 1, 2, none⟩) neW1_12 (.int .i64 st)) (p := ⟨w.heap.size + 1 + 1, 3, none⟩) neW1_12 (.int .u8 to)) (p := ⟨w.heap.size + 1 + 1, 4, none⟩) neW1_12 (.string cg)) (p := ⟨w.heap.size + 1 + 1, 5, none⟩) neW1_12 (.bool kp)) (p := ⟨w.heap.size + 1 + 1, 6, none⟩) neW1_12 (.slice none 0 0)) (p := ⟨w.heap.size + 1 + 1, 7, none⟩) neW1_12 (.int .i64 2))
        have oV6 := (Below.setCell (Below.setCell (Below.setCell (Below.setCell (Below.setCell (Below.setCell (Below.setCell (Below.setCell l5 (p := ⟨w.heap.size + 1 + 1, 0, none⟩) (by dsimp only; omega) (.int .u8 me)) (p := ⟨w.heap.size + 1 + 1, 1, none⟩) (by dsimp only; omega) (.int .i64 ep)) (p := ⟨w.heap.size + 1 + 1, 2, none⟩) (by dsimp only; omega) (.int .i64 st)) (p := ⟨w.heap.size + 1 + 1, 3, none⟩) (by dsimp only; omega) (.int .u8 to)) (p := ⟨w.heap.size + 1 + 1, 4, none⟩) (by dsimp only; omega) (.string cg)) (p := ⟨w.heap.size + 1 + 1, 5, none⟩) (by dsimp only; omega) (.bool kp)) (p := ⟨w.heap.size + 1 + 1, 6, none⟩) (by dsimp only; omega) (.slice none 0 0)) (p := ⟨w.heap.size + 1 + 1, 7, none⟩) (by dsimp only; omega) (.int .i64 2))
        rw [hV6] at oV6
        have HV6 := Lib.hid hV6
        clear hV6
        clear r5_r r5_s r5_m l5
        go_wp2_with fail
        rw [HV6.out]
        have x_r0 : V6.cell? ⟨w.heap.size + 1 + 1, 0, none⟩ = some (.int .u8 me) := CB.cell nV6 0
        have x_r1 : V6.cell? ⟨w.heap.size + 1 + 1, 1, none⟩ = some (.int .i64 ep) := CB.cell nV6 1
        have x_r2 : V6.cell? ⟨w.heap.size + 1 + 1, 2, none⟩ = some (.int .i64 st) := CB.cell nV6 2
        have x_r3 : V6.cell? ⟨w.heap.size + 1 + 1, 3, none⟩ = some (.int .u8 to) := CB.cell nV6 3
        have x_r4 : V6.cell? ⟨w.heap.size + 1 + 1, 4, none⟩ = some (.string cg) := CB.cell nV6 4
        have x_r5 : V6.cell? ⟨w.heap.size + 1 + 1, 5, none⟩ = some (.bool kp) := CB.cell nV6 5
        have x_r6 : V6.cell? ⟨w.heap.size + 1 + 1, 6, none⟩ = some (.slice none 0 0) := CB.cell nV6 6
        have x_r7 : V6.cell? ⟨w.heap.size + 1 + 1, 7, none⟩ = some (.int .i64 2) := CB.cell nV6 7
        exact bodyPost_ret (v := .agg #[.int .u8 me, .int .i64 ep, .int .i64 st, .int .u8 to, .string cg, .bool kp, .slice none 0 0, .int .i64 2]) (by simp [results, Try.results13, go_sem, x_r0, x_r1, x_r2, x_r3, x_r4, x_r5, x_r6, x_r7]) rfl (TdPost.mk' me ep st to cg kp 2 [] H.out (RS.nil _ _ _ _) oV6)
end Go.Proofs.Ytmghckddofefkaa
