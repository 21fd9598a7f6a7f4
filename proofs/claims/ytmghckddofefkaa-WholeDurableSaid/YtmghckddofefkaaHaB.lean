/-
  Ask and Again of package hand. No condition.
-/
import Derived.Test.YtmghckddofefkaaHaA
set_option linter.unusedVariables false
set_option linter.unusedSimpArgs false
namespace Go.Proofs.Ytmghckddofefkaa
open Go.RowKit

set_option maxRecDepth 100000 in
set_option maxHeartbeats 4000000 in
theorem hask_c (me ep st to : Int) (cg : ByteArray) (kp : Bool) (x : Int) (w : World) : Calls Try.prog 16 #[.agg #[.int .u8 me, .int .i64 ep, .int .i64 st, .int .u8 to, .string cg, .bool kp], .int .u8 x] w fun r w' => r = .returned (.tuple #[.agg #[.int .i64 (mAsk ⟨me, ⟨ep, st, to⟩, cg, kp⟩ x).kd, .int .u8 (mAsk ⟨me, ⟨ep, st, to⟩, cg, kp⟩ x).fr, .int .u8 (mAsk ⟨me, ⟨ep, st, to⟩, cg, kp⟩ x).to, .int .i64 (mAsk ⟨me, ⟨ep, st, to⟩, cg, kp⟩ x).ep, .string (mAsk ⟨me, ⟨ep, st, to⟩, cg, kp⟩ x).cg], .int .i64 ((eAsk ⟨me, ⟨ep, st, to⟩, cg, kp⟩ x : Nat) : Int)]) ∧ Below w.heap.size w w' := by
  cases hR : decide (RightS ⟨me, ⟨ep, st, to⟩, cg, kp⟩) with
  | false =>
    have hR' := of_decide_eq_false hR
    have He := Lib.hid (show eAsk ⟨me, ⟨ep, st, to⟩, cg, kp⟩ x = 2 by unfold eAsk; simp [hR'])
    have Hm := Lib.hid (show mAsk ⟨me, ⟨ep, st, to⟩, cg, kp⟩ x = mg0 by unfold mAsk; rw [He.out]; rfl)
    have R1 := fun W => hright_c me ep st to cg kp W
    simp only [hR] at R1
    clear hR hR'
    obtain ⟨W1, hW1⟩ : ∃ V, (w.alloc (.cells #[.int .u8 me, .int .i64 ep, .int .i64 st, .int .u8 to, .string cg, .bool kp] 31)).alloc (.cells #[.int .i64 0, .int .u8 0, .int .u8 0, .int .i64 0, .string ⟨#[]⟩] 37) = V := ⟨_, rfl⟩
    have nW1_s : CB W1 (w.heap.size) 31 #[.int .u8 me, .int .i64 ep, .int .i64 st, .int .u8 to, .string cg, .bool kp] := by
      rw [← hW1]
      have := ((CB.new w 31 #[.int .u8 me, .int .i64 ep, .int .i64 st, .int .u8 to, .string cg, .bool kp]).alloc (.cells #[.int .i64 0, .int .u8 0, .int .u8 0, .int .i64 0, .string ⟨#[]⟩] 37))
      simpa using this
    have nW1_r : CB W1 (w.heap.size + 1) 37 #[.int .i64 0, .int .u8 0, .int .u8 0, .int .i64 0, .string ⟨#[]⟩] := by
      rw [← hW1]
      have := (CB.new (w.alloc (.cells #[.int .u8 me, .int .i64 ep, .int .i64 st, .int .u8 to, .string cg, .bool kp] 31)) 37 #[.int .i64 0, .int .u8 0, .int .u8 0, .int .i64 0, .string ⟨#[]⟩])
      simpa using this
    have neW1_01 : w.heap.size ≠ w.heap.size + 1 := by omega
    have lW1 : Below w.heap.size w W1 := by rw [← hW1]; exact le_tr (le_al _ _) (le_al _ _)
    have HW1 := Lib.hid hW1
    clear hW1
    go_enter Try.func16, Try.ntmps16
    go_wp2_with fail
    rw [HW1.out]
    refine (R1 _).mono ?_
    rintro e w2 ⟨rfl, b2⟩
    have r3_s := le_on nW1_s b2
    have r3_r := le_on nW1_r b2
    have l3 := le_tr lW1 b2
    clear nW1_s nW1_r lW1
    clear b2
    have f3_s0 : w2.cell? ⟨w.heap.size, 0, none⟩ = some (.int .u8 me) := CB.cell r3_s 0
    have f3_s1 : w2.cell? ⟨w.heap.size, 1, none⟩ = some (.int .i64 ep) := CB.cell r3_s 1
    have f3_s2 : w2.cell? ⟨w.heap.size, 2, none⟩ = some (.int .i64 st) := CB.cell r3_s 2
    have f3_s3 : w2.cell? ⟨w.heap.size, 3, none⟩ = some (.int .u8 to) := CB.cell r3_s 3
    have f3_s4 : w2.cell? ⟨w.heap.size, 4, none⟩ = some (.string cg) := CB.cell r3_s 4
    have f3_s5 : w2.cell? ⟨w.heap.size, 5, none⟩ = some (.bool kp) := CB.cell r3_s 5
    have f3_r0 : w2.cell? ⟨w.heap.size + 1, 0, none⟩ = some (.int .i64 0) := CB.cell r3_r 0
    have z3_r0 : w2.frozen? ⟨w.heap.size + 1, 0, none⟩ = false := CB.frozen r3_r 0
    have f3_r1 : w2.cell? ⟨w.heap.size + 1, 1, none⟩ = some (.int .u8 0) := CB.cell r3_r 1
    have z3_r1 : w2.frozen? ⟨w.heap.size + 1, 1, none⟩ = false := CB.frozen r3_r 1
    have f3_r2 : w2.cell? ⟨w.heap.size + 1, 2, none⟩ = some (.int .u8 0) := CB.cell r3_r 2
    have z3_r2 : w2.frozen? ⟨w.heap.size + 1, 2, none⟩ = false := CB.frozen r3_r 2
    have f3_r3 : w2.cell? ⟨w.heap.size + 1, 3, none⟩ = some (.int .i64 0) := CB.cell r3_r 3
    have z3_r3 : w2.frozen? ⟨w.heap.size + 1, 3, none⟩ = false := CB.frozen r3_r 3
    have f3_r4 : w2.cell? ⟨w.heap.size + 1, 4, none⟩ = some (.string ⟨#[]⟩) := CB.cell r3_r 4
    have z3_r4 : w2.frozen? ⟨w.heap.size + 1, 4, none⟩ = false := CB.frozen r3_r 4
    obtain ⟨V4, hV4⟩ : ∃ V, ((((w2.setCell ⟨w.heap.size + 1, 0, none⟩ (.int .i64 0)).setCell ⟨w.heap.size + 1, 1, none⟩ (.int .u8 0)).setCell ⟨w.heap.size + 1, 2, none⟩ (.int .u8 0)).setCell ⟨w.heap.size + 1, 3, none⟩ (.int .i64 0)).setCell ⟨w.heap.size + 1, 4, none⟩ (.string ⟨#[]⟩) = V := ⟨_, rfl⟩
    have nV4 : CB V4 (w.heap.size + 1) 37 #[.int .i64 0, .int .u8 0, .int .u8 0, .int .i64 0, .string ⟨#[]⟩] := by rw [← hV4]; exact cb_cast (CB.put (CB.put (CB.put (CB.put (CB.put r3_r 0 (.int .i64 0)) 1 (.int .u8 0)) 2 (.int .u8 0)) 3 (.int .i64 0)) 4 (.string ⟨#[]⟩)) (by kernel_rfl)
    have mV4_s : CB V4 (w.heap.size) 31 #[.int .u8 me, .int .i64 ep, .int .i64 st, .int .u8 to, .string cg, .bool kp] := by rw [← hV4]; exact (CB.far (CB.far (CB.far (CB.far (CB.far r3_s (p := ⟨w.heap.size + 1, 0, none⟩) neW1_01 (.int .i64 0)) (p := ⟨w.heap.size + 1, 1, none⟩) neW1_01 (.int .u8 0)) (p := ⟨w.heap.size + 1, 2, none⟩) neW1_01 (.int .u8 0)) (p := ⟨w.heap.size + 1, 3, none⟩) neW1_01 (.int .i64 0)) (p := ⟨w.heap.size + 1, 4, none⟩) neW1_01 (.string ⟨#[]⟩))
    have oV4 := (Below.setCell (Below.setCell (Below.setCell (Below.setCell (Below.setCell l3 (p := ⟨w.heap.size + 1, 0, none⟩) (by dsimp only; omega) (.int .i64 0)) (p := ⟨w.heap.size + 1, 1, none⟩) (by dsimp only; omega) (.int .u8 0)) (p := ⟨w.heap.size + 1, 2, none⟩) (by dsimp only; omega) (.int .u8 0)) (p := ⟨w.heap.size + 1, 3, none⟩) (by dsimp only; omega) (.int .i64 0)) (p := ⟨w.heap.size + 1, 4, none⟩) (by dsimp only; omega) (.string ⟨#[]⟩))
    rw [hV4] at oV4
    have HV4 := Lib.hid hV4
    clear hV4
    clear r3_r r3_s l3
    go_wp2_with fail
    rw [HV4.out]
    have x_r0 : V4.cell? ⟨w.heap.size + 1, 0, none⟩ = some (.int .i64 0) := CB.cell nV4 0
    have x_r1 : V4.cell? ⟨w.heap.size + 1, 1, none⟩ = some (.int .u8 0) := CB.cell nV4 1
    have x_r2 : V4.cell? ⟨w.heap.size + 1, 2, none⟩ = some (.int .u8 0) := CB.cell nV4 2
    have x_r3 : V4.cell? ⟨w.heap.size + 1, 3, none⟩ = some (.int .i64 0) := CB.cell nV4 3
    have x_r4 : V4.cell? ⟨w.heap.size + 1, 4, none⟩ = some (.string ⟨#[]⟩) := CB.cell nV4 4
    exact bodyPost_ret (v := .tuple #[.agg #[.int .i64 0, .int .u8 0, .int .u8 0, .int .i64 0, .string ⟨#[]⟩], .int .i64 2]) (by simp [results, Try.results16, go_sem, x_r0, x_r1, x_r2, x_r3, x_r4]) rfl ⟨by rw [He.out, Hm.out]; rfl, oV4⟩
  | true =>
    have hR' := of_decide_eq_true hR
    by_cases h8 : 8 ≤ x
    · have h8' : decide (8 ≤ x) = true := by simp [h8]
      have He := Lib.hid (show eAsk ⟨me, ⟨ep, st, to⟩, cg, kp⟩ x = 2 by unfold eAsk; simp [h8])
      have Hm := Lib.hid (show mAsk ⟨me, ⟨ep, st, to⟩, cg, kp⟩ x = mg0 by unfold mAsk; rw [He.out]; rfl)
      have R1 := fun W => hright_c me ep st to cg kp W
      simp only [hR] at R1
      clear hR hR' h8
      obtain ⟨W1, hW1⟩ : ∃ V, (w.alloc (.cells #[.int .u8 me, .int .i64 ep, .int .i64 st, .int .u8 to, .string cg, .bool kp] 31)).alloc (.cells #[.int .i64 0, .int .u8 0, .int .u8 0, .int .i64 0, .string ⟨#[]⟩] 37) = V := ⟨_, rfl⟩
      have nW1_s : CB W1 (w.heap.size) 31 #[.int .u8 me, .int .i64 ep, .int .i64 st, .int .u8 to, .string cg, .bool kp] := by
        rw [← hW1]
        have := ((CB.new w 31 #[.int .u8 me, .int .i64 ep, .int .i64 st, .int .u8 to, .string cg, .bool kp]).alloc (.cells #[.int .i64 0, .int .u8 0, .int .u8 0, .int .i64 0, .string ⟨#[]⟩] 37))
        simpa using this
      have nW1_r : CB W1 (w.heap.size + 1) 37 #[.int .i64 0, .int .u8 0, .int .u8 0, .int .i64 0, .string ⟨#[]⟩] := by
        rw [← hW1]
        have := (CB.new (w.alloc (.cells #[.int .u8 me, .int .i64 ep, .int .i64 st, .int .u8 to, .string cg, .bool kp] 31)) 37 #[.int .i64 0, .int .u8 0, .int .u8 0, .int .i64 0, .string ⟨#[]⟩])
        simpa using this
      have neW1_01 : w.heap.size ≠ w.heap.size + 1 := by omega
      have lW1 : Below w.heap.size w W1 := by rw [← hW1]; exact le_tr (le_al _ _) (le_al _ _)
      have HW1 := Lib.hid hW1
      clear hW1
      go_enter Try.func16, Try.ntmps16
      go_wp2_with fail
      rw [HW1.out]
      refine (R1 _).mono ?_
      rintro e w2 ⟨rfl, b2⟩
      have r3_s := le_on nW1_s b2
      have r3_r := le_on nW1_r b2
      have l3 := le_tr lW1 b2
      clear nW1_s nW1_r lW1
      clear b2
      have f3_s0 : w2.cell? ⟨w.heap.size, 0, none⟩ = some (.int .u8 me) := CB.cell r3_s 0
      have f3_s1 : w2.cell? ⟨w.heap.size, 1, none⟩ = some (.int .i64 ep) := CB.cell r3_s 1
      have f3_s2 : w2.cell? ⟨w.heap.size, 2, none⟩ = some (.int .i64 st) := CB.cell r3_s 2
      have f3_s3 : w2.cell? ⟨w.heap.size, 3, none⟩ = some (.int .u8 to) := CB.cell r3_s 3
      have f3_s4 : w2.cell? ⟨w.heap.size, 4, none⟩ = some (.string cg) := CB.cell r3_s 4
      have f3_s5 : w2.cell? ⟨w.heap.size, 5, none⟩ = some (.bool kp) := CB.cell r3_s 5
      have f3_r0 : w2.cell? ⟨w.heap.size + 1, 0, none⟩ = some (.int .i64 0) := CB.cell r3_r 0
      have z3_r0 : w2.frozen? ⟨w.heap.size + 1, 0, none⟩ = false := CB.frozen r3_r 0
      have f3_r1 : w2.cell? ⟨w.heap.size + 1, 1, none⟩ = some (.int .u8 0) := CB.cell r3_r 1
      have z3_r1 : w2.frozen? ⟨w.heap.size + 1, 1, none⟩ = false := CB.frozen r3_r 1
      have f3_r2 : w2.cell? ⟨w.heap.size + 1, 2, none⟩ = some (.int .u8 0) := CB.cell r3_r 2
      have z3_r2 : w2.frozen? ⟨w.heap.size + 1, 2, none⟩ = false := CB.frozen r3_r 2
      have f3_r3 : w2.cell? ⟨w.heap.size + 1, 3, none⟩ = some (.int .i64 0) := CB.cell r3_r 3
      have z3_r3 : w2.frozen? ⟨w.heap.size + 1, 3, none⟩ = false := CB.frozen r3_r 3
      have f3_r4 : w2.cell? ⟨w.heap.size + 1, 4, none⟩ = some (.string ⟨#[]⟩) := CB.cell r3_r 4
      have z3_r4 : w2.frozen? ⟨w.heap.size + 1, 4, none⟩ = false := CB.frozen r3_r 4
      obtain ⟨V4, hV4⟩ : ∃ V, ((((w2.setCell ⟨w.heap.size + 1, 0, none⟩ (.int .i64 0)).setCell ⟨w.heap.size + 1, 1, none⟩ (.int .u8 0)).setCell ⟨w.heap.size + 1, 2, none⟩ (.int .u8 0)).setCell ⟨w.heap.size + 1, 3, none⟩ (.int .i64 0)).setCell ⟨w.heap.size + 1, 4, none⟩ (.string ⟨#[]⟩) = V := ⟨_, rfl⟩
      have nV4 : CB V4 (w.heap.size + 1) 37 #[.int .i64 0, .int .u8 0, .int .u8 0, .int .i64 0, .string ⟨#[]⟩] := by rw [← hV4]; exact cb_cast (CB.put (CB.put (CB.put (CB.put (CB.put r3_r 0 (.int .i64 0)) 1 (.int .u8 0)) 2 (.int .u8 0)) 3 (.int .i64 0)) 4 (.string ⟨#[]⟩)) (by kernel_rfl)
      have mV4_s : CB V4 (w.heap.size) 31 #[.int .u8 me, .int .i64 ep, .int .i64 st, .int .u8 to, .string cg, .bool kp] := by rw [← hV4]; exact (CB.far (CB.far (CB.far (CB.far (CB.far r3_s (p := ⟨w.heap.size + 1, 0, none⟩) neW1_01 (.int .i64 0)) (p := ⟨w.heap.size + 1, 1, none⟩) neW1_01 (.int .u8 0)) (p := ⟨w.heap.size + 1, 2, none⟩) neW1_01 (.int .u8 0)) (p := ⟨w.heap.size + 1, 3, none⟩) neW1_01 (.int .i64 0)) (p := ⟨w.heap.size + 1, 4, none⟩) neW1_01 (.string ⟨#[]⟩))
      have oV4 := (Below.setCell (Below.setCell (Below.setCell (Below.setCell (Below.setCell l3 (p := ⟨w.heap.size + 1, 0, none⟩) (by dsimp only; omega) (.int .i64 0)) (p := ⟨w.heap.size + 1, 1, none⟩) (by dsimp only; omega) (.int .u8 0)) (p := ⟨w.heap.size + 1, 2, none⟩) (by dsimp only; omega) (.int .u8 0)) (p := ⟨w.heap.size + 1, 3, none⟩) (by dsimp only; omega) (.int .i64 0)) (p := ⟨w.heap.size + 1, 4, none⟩) (by dsimp only; omega) (.string ⟨#[]⟩))
      rw [hV4] at oV4
      have HV4 := Lib.hid hV4
      clear hV4
      clear r3_r r3_s l3
      go_wp2_with fail
      rw [HV4.out]
      have x_r0 : V4.cell? ⟨w.heap.size + 1, 0, none⟩ = some (.int .i64 0) := CB.cell nV4 0
      have x_r1 : V4.cell? ⟨w.heap.size + 1, 1, none⟩ = some (.int .u8 0) := CB.cell nV4 1
      have x_r2 : V4.cell? ⟨w.heap.size + 1, 2, none⟩ = some (.int .u8 0) := CB.cell nV4 2
      have x_r3 : V4.cell? ⟨w.heap.size + 1, 3, none⟩ = some (.int .i64 0) := CB.cell nV4 3
      have x_r4 : V4.cell? ⟨w.heap.size + 1, 4, none⟩ = some (.string ⟨#[]⟩) := CB.cell nV4 4
      exact bodyPost_ret (v := .tuple #[.agg #[.int .i64 0, .int .u8 0, .int .u8 0, .int .i64 0, .string ⟨#[]⟩], .int .i64 2]) (by simp [results, Try.results16, go_sem, x_r0, x_r1, x_r2, x_r3, x_r4]) rfl ⟨by rw [He.out, Hm.out]; rfl, oV4⟩
    have h8' : decide (8 ≤ x) = false := by simp; omega
    by_cases hm : x = me
    · have hm' : (x == me) = true := by simp [hm]
      have He := Lib.hid (show eAsk ⟨me, ⟨ep, st, to⟩, cg, kp⟩ x = 2 by unfold eAsk; simp [hm])
      have Hm := Lib.hid (show mAsk ⟨me, ⟨ep, st, to⟩, cg, kp⟩ x = mg0 by unfold mAsk; rw [He.out]; rfl)
      have R1 := fun W => hright_c me ep st to cg kp W
      simp only [hR] at R1
      clear hR hR' h8 hm
      obtain ⟨W1, hW1⟩ : ∃ V, (w.alloc (.cells #[.int .u8 me, .int .i64 ep, .int .i64 st, .int .u8 to, .string cg, .bool kp] 31)).alloc (.cells #[.int .i64 0, .int .u8 0, .int .u8 0, .int .i64 0, .string ⟨#[]⟩] 37) = V := ⟨_, rfl⟩
      have nW1_s : CB W1 (w.heap.size) 31 #[.int .u8 me, .int .i64 ep, .int .i64 st, .int .u8 to, .string cg, .bool kp] := by
        rw [← hW1]
        have := ((CB.new w 31 #[.int .u8 me, .int .i64 ep, .int .i64 st, .int .u8 to, .string cg, .bool kp]).alloc (.cells #[.int .i64 0, .int .u8 0, .int .u8 0, .int .i64 0, .string ⟨#[]⟩] 37))
        simpa using this
      have nW1_r : CB W1 (w.heap.size + 1) 37 #[.int .i64 0, .int .u8 0, .int .u8 0, .int .i64 0, .string ⟨#[]⟩] := by
        rw [← hW1]
        have := (CB.new (w.alloc (.cells #[.int .u8 me, .int .i64 ep, .int .i64 st, .int .u8 to, .string cg, .bool kp] 31)) 37 #[.int .i64 0, .int .u8 0, .int .u8 0, .int .i64 0, .string ⟨#[]⟩])
        simpa using this
      have neW1_01 : w.heap.size ≠ w.heap.size + 1 := by omega
      have lW1 : Below w.heap.size w W1 := by rw [← hW1]; exact le_tr (le_al _ _) (le_al _ _)
      have HW1 := Lib.hid hW1
      clear hW1
      go_enter Try.func16, Try.ntmps16
      go_wp2_with fail
      rw [HW1.out]
      refine (R1 _).mono ?_
      rintro e w2 ⟨rfl, b2⟩
      have r3_s := le_on nW1_s b2
      have r3_r := le_on nW1_r b2
      have l3 := le_tr lW1 b2
      clear nW1_s nW1_r lW1
      clear b2
      have f3_s0 : w2.cell? ⟨w.heap.size, 0, none⟩ = some (.int .u8 me) := CB.cell r3_s 0
      have f3_s1 : w2.cell? ⟨w.heap.size, 1, none⟩ = some (.int .i64 ep) := CB.cell r3_s 1
      have f3_s2 : w2.cell? ⟨w.heap.size, 2, none⟩ = some (.int .i64 st) := CB.cell r3_s 2
      have f3_s3 : w2.cell? ⟨w.heap.size, 3, none⟩ = some (.int .u8 to) := CB.cell r3_s 3
      have f3_s4 : w2.cell? ⟨w.heap.size, 4, none⟩ = some (.string cg) := CB.cell r3_s 4
      have f3_s5 : w2.cell? ⟨w.heap.size, 5, none⟩ = some (.bool kp) := CB.cell r3_s 5
      have f3_r0 : w2.cell? ⟨w.heap.size + 1, 0, none⟩ = some (.int .i64 0) := CB.cell r3_r 0
      have z3_r0 : w2.frozen? ⟨w.heap.size + 1, 0, none⟩ = false := CB.frozen r3_r 0
      have f3_r1 : w2.cell? ⟨w.heap.size + 1, 1, none⟩ = some (.int .u8 0) := CB.cell r3_r 1
      have z3_r1 : w2.frozen? ⟨w.heap.size + 1, 1, none⟩ = false := CB.frozen r3_r 1
      have f3_r2 : w2.cell? ⟨w.heap.size + 1, 2, none⟩ = some (.int .u8 0) := CB.cell r3_r 2
      have z3_r2 : w2.frozen? ⟨w.heap.size + 1, 2, none⟩ = false := CB.frozen r3_r 2
      have f3_r3 : w2.cell? ⟨w.heap.size + 1, 3, none⟩ = some (.int .i64 0) := CB.cell r3_r 3
      have z3_r3 : w2.frozen? ⟨w.heap.size + 1, 3, none⟩ = false := CB.frozen r3_r 3
      have f3_r4 : w2.cell? ⟨w.heap.size + 1, 4, none⟩ = some (.string ⟨#[]⟩) := CB.cell r3_r 4
      have z3_r4 : w2.frozen? ⟨w.heap.size + 1, 4, none⟩ = false := CB.frozen r3_r 4
      obtain ⟨V4, hV4⟩ : ∃ V, ((((w2.setCell ⟨w.heap.size + 1, 0, none⟩ (.int .i64 0)).setCell ⟨w.heap.size + 1, 1, none⟩ (.int .u8 0)).setCell ⟨w.heap.size + 1, 2, none⟩ (.int .u8 0)).setCell ⟨w.heap.size + 1, 3, none⟩ (.int .i64 0)).setCell ⟨w.heap.size + 1, 4, none⟩ (.string ⟨#[]⟩) = V := ⟨_, rfl⟩
      have nV4 : CB V4 (w.heap.size + 1) 37 #[.int .i64 0, .int .u8 0, .int .u8 0, .int .i64 0, .string ⟨#[]⟩] := by rw [← hV4]; exact cb_cast (CB.put (CB.put (CB.put (CB.put (CB.put r3_r 0 (.int .i64 0)) 1 (.int .u8 0)) 2 (.int .u8 0)) 3 (.int .i64 0)) 4 (.string ⟨#[]⟩)) (by kernel_rfl)
      have mV4_s : CB V4 (w.heap.size) 31 #[.int .u8 me, .int .i64 ep, .int .i64 st, .int .u8 to, .string cg, .bool kp] := by rw [← hV4]; exact (CB.far (CB.far (CB.far (CB.far (CB.far r3_s (p := ⟨w.heap.size + 1, 0, none⟩) neW1_01 (.int .i64 0)) (p := ⟨w.heap.size + 1, 1, none⟩) neW1_01 (.int .u8 0)) (p := ⟨w.heap.size + 1, 2, none⟩) neW1_01 (.int .u8 0)) (p := ⟨w.heap.size + 1, 3, none⟩) neW1_01 (.int .i64 0)) (p := ⟨w.heap.size + 1, 4, none⟩) neW1_01 (.string ⟨#[]⟩))
      have oV4 := (Below.setCell (Below.setCell (Below.setCell (Below.setCell (Below.setCell l3 (p := ⟨w.heap.size + 1, 0, none⟩) (by dsimp only; omega) (.int .i64 0)) (p := ⟨w.heap.size + 1, 1, none⟩) (by dsimp only; omega) (.int .u8 0)) (p := ⟨w.heap.size + 1, 2, none⟩) (by dsimp only; omega) (.int .u8 0)) (p := ⟨w.heap.size + 1, 3, none⟩) (by dsimp only; omega) (.int .i64 0)) (p := ⟨w.heap.size + 1, 4, none⟩) (by dsimp only; omega) (.string ⟨#[]⟩))
      rw [hV4] at oV4
      have HV4 := Lib.hid hV4
      clear hV4
      clear r3_r r3_s l3
      go_wp2_with fail
      rw [HV4.out]
      have x_r0 : V4.cell? ⟨w.heap.size + 1, 0, none⟩ = some (.int .i64 0) := CB.cell nV4 0
      have x_r1 : V4.cell? ⟨w.heap.size + 1, 1, none⟩ = some (.int .u8 0) := CB.cell nV4 1
      have x_r2 : V4.cell? ⟨w.heap.size + 1, 2, none⟩ = some (.int .u8 0) := CB.cell nV4 2
      have x_r3 : V4.cell? ⟨w.heap.size + 1, 3, none⟩ = some (.int .i64 0) := CB.cell nV4 3
      have x_r4 : V4.cell? ⟨w.heap.size + 1, 4, none⟩ = some (.string ⟨#[]⟩) := CB.cell nV4 4
      exact bodyPost_ret (v := .tuple #[.agg #[.int .i64 0, .int .u8 0, .int .u8 0, .int .i64 0, .string ⟨#[]⟩], .int .i64 2]) (by simp [results, Try.results16, go_sem, x_r0, x_r1, x_r2, x_r3, x_r4]) rfl ⟨by rw [He.out, Hm.out]; rfl, oV4⟩
    have hm' : (x == me) = false := by simp [hm]
    by_cases h1 : st = 1
    · have h1' : (st != 1) = false := by simp [h1]
      by_cases he : ep = 1048576
      · have he' : (ep == 1048576) = true := by simp [he]
        have He := Lib.hid (show eAsk ⟨me, ⟨ep, st, to⟩, cg, kp⟩ x = 3 by unfold eAsk; rw [if_neg (by simp only [not_or, Decidable.not_not]; exact ⟨hR', h8, hm⟩)]; simp [h1, he])
        have Hm := Lib.hid (show mAsk ⟨me, ⟨ep, st, to⟩, cg, kp⟩ x = mg0 by unfold mAsk; rw [He.out]; rfl)
        have R1 := fun W => hright_c me ep st to cg kp W
        simp only [hR] at R1
        clear hR hR' h8 hm h1 he
        obtain ⟨W1, hW1⟩ : ∃ V, (w.alloc (.cells #[.int .u8 me, .int .i64 ep, .int .i64 st, .int .u8 to, .string cg, .bool kp] 31)).alloc (.cells #[.int .i64 0, .int .u8 0, .int .u8 0, .int .i64 0, .string ⟨#[]⟩] 37) = V := ⟨_, rfl⟩
        have nW1_s : CB W1 (w.heap.size) 31 #[.int .u8 me, .int .i64 ep, .int .i64 st, .int .u8 to, .string cg, .bool kp] := by
          rw [← hW1]
          have := ((CB.new w 31 #[.int .u8 me, .int .i64 ep, .int .i64 st, .int .u8 to, .string cg, .bool kp]).alloc (.cells #[.int .i64 0, .int .u8 0, .int .u8 0, .int .i64 0, .string ⟨#[]⟩] 37))
          simpa using this
        have nW1_r : CB W1 (w.heap.size + 1) 37 #[.int .i64 0, .int .u8 0, .int .u8 0, .int .i64 0, .string ⟨#[]⟩] := by
          rw [← hW1]
          have := (CB.new (w.alloc (.cells #[.int .u8 me, .int .i64 ep, .int .i64 st, .int .u8 to, .string cg, .bool kp] 31)) 37 #[.int .i64 0, .int .u8 0, .int .u8 0, .int .i64 0, .string ⟨#[]⟩])
          simpa using this
        have neW1_01 : w.heap.size ≠ w.heap.size + 1 := by omega
        have lW1 : Below w.heap.size w W1 := by rw [← hW1]; exact le_tr (le_al _ _) (le_al _ _)
        have HW1 := Lib.hid hW1
        clear hW1
        go_enter Try.func16, Try.ntmps16
        go_wp2_with fail
        rw [HW1.out]
        refine (R1 _).mono ?_
        rintro e w2 ⟨rfl, b2⟩
        have r3_s := le_on nW1_s b2
        have r3_r := le_on nW1_r b2
        have l3 := le_tr lW1 b2
        clear nW1_s nW1_r lW1
        clear b2
        have f3_s0 : w2.cell? ⟨w.heap.size, 0, none⟩ = some (.int .u8 me) := CB.cell r3_s 0
        have f3_s1 : w2.cell? ⟨w.heap.size, 1, none⟩ = some (.int .i64 ep) := CB.cell r3_s 1
        have f3_s2 : w2.cell? ⟨w.heap.size, 2, none⟩ = some (.int .i64 st) := CB.cell r3_s 2
        have f3_s3 : w2.cell? ⟨w.heap.size, 3, none⟩ = some (.int .u8 to) := CB.cell r3_s 3
        have f3_s4 : w2.cell? ⟨w.heap.size, 4, none⟩ = some (.string cg) := CB.cell r3_s 4
        have f3_s5 : w2.cell? ⟨w.heap.size, 5, none⟩ = some (.bool kp) := CB.cell r3_s 5
        have f3_r0 : w2.cell? ⟨w.heap.size + 1, 0, none⟩ = some (.int .i64 0) := CB.cell r3_r 0
        have z3_r0 : w2.frozen? ⟨w.heap.size + 1, 0, none⟩ = false := CB.frozen r3_r 0
        have f3_r1 : w2.cell? ⟨w.heap.size + 1, 1, none⟩ = some (.int .u8 0) := CB.cell r3_r 1
        have z3_r1 : w2.frozen? ⟨w.heap.size + 1, 1, none⟩ = false := CB.frozen r3_r 1
        have f3_r2 : w2.cell? ⟨w.heap.size + 1, 2, none⟩ = some (.int .u8 0) := CB.cell r3_r 2
        have z3_r2 : w2.frozen? ⟨w.heap.size + 1, 2, none⟩ = false := CB.frozen r3_r 2
        have f3_r3 : w2.cell? ⟨w.heap.size + 1, 3, none⟩ = some (.int .i64 0) := CB.cell r3_r 3
        have z3_r3 : w2.frozen? ⟨w.heap.size + 1, 3, none⟩ = false := CB.frozen r3_r 3
        have f3_r4 : w2.cell? ⟨w.heap.size + 1, 4, none⟩ = some (.string ⟨#[]⟩) := CB.cell r3_r 4
        have z3_r4 : w2.frozen? ⟨w.heap.size + 1, 4, none⟩ = false := CB.frozen r3_r 4
        obtain ⟨V4, hV4⟩ : ∃ V, ((((w2.setCell ⟨w.heap.size + 1, 0, none⟩ (.int .i64 0)).setCell ⟨w.heap.size + 1, 1, none⟩ (.int .u8 0)).setCell ⟨w.heap.size + 1, 2, none⟩ (.int .u8 0)).setCell ⟨w.heap.size + 1, 3, none⟩ (.int .i64 0)).setCell ⟨w.heap.size + 1, 4, none⟩ (.string ⟨#[]⟩) = V := ⟨_, rfl⟩
        have nV4 : CB V4 (w.heap.size + 1) 37 #[.int .i64 0, .int .u8 0, .int .u8 0, .int .i64 0, .string ⟨#[]⟩] := by rw [← hV4]; exact cb_cast (CB.put (CB.put (CB.put (CB.put (CB.put r3_r 0 (.int .i64 0)) 1 (.int .u8 0)) 2 (.int .u8 0)) 3 (.int .i64 0)) 4 (.string ⟨#[]⟩)) (by kernel_rfl)
        have mV4_s : CB V4 (w.heap.size) 31 #[.int .u8 me, .int .i64 ep, .int .i64 st, .int .u8 to, .string cg, .bool kp] := by rw [← hV4]; exact (CB.far (CB.far (CB.far (CB.far (CB.far r3_s (p := ⟨w.heap.size + 1, 0, none⟩) neW1_01 (.int .i64 0)) (p := ⟨w.heap.size + 1, 1, none⟩) neW1_01 (.int .u8 0)) (p := ⟨w.heap.size + 1, 2, none⟩) neW1_01 (.int .u8 0)) (p := ⟨w.heap.size + 1, 3, none⟩) neW1_01 (.int .i64 0)) (p := ⟨w.heap.size + 1, 4, none⟩) neW1_01 (.string ⟨#[]⟩))
        have oV4 := (Below.setCell (Below.setCell (Below.setCell (Below.setCell (Below.setCell l3 (p := ⟨w.heap.size + 1, 0, none⟩) (by dsimp only; omega) (.int .i64 0)) (p := ⟨w.heap.size + 1, 1, none⟩) (by dsimp only; omega) (.int .u8 0)) (p := ⟨w.heap.size + 1, 2, none⟩) (by dsimp only; omega) (.int .u8 0)) (p := ⟨w.heap.size + 1, 3, none⟩) (by dsimp only; omega) (.int .i64 0)) (p := ⟨w.heap.size + 1, 4, none⟩) (by dsimp only; omega) (.string ⟨#[]⟩))
        rw [hV4] at oV4
        have HV4 := Lib.hid hV4
        clear hV4
        clear r3_r r3_s l3
        go_wp2_with fail
        rw [HV4.out]
        have x_r0 : V4.cell? ⟨w.heap.size + 1, 0, none⟩ = some (.int .i64 0) := CB.cell nV4 0
        have x_r1 : V4.cell? ⟨w.heap.size + 1, 1, none⟩ = some (.int .u8 0) := CB.cell nV4 1
        have x_r2 : V4.cell? ⟨w.heap.size + 1, 2, none⟩ = some (.int .u8 0) := CB.cell nV4 2
        have x_r3 : V4.cell? ⟨w.heap.size + 1, 3, none⟩ = some (.int .i64 0) := CB.cell nV4 3
        have x_r4 : V4.cell? ⟨w.heap.size + 1, 4, none⟩ = some (.string ⟨#[]⟩) := CB.cell nV4 4
        exact bodyPost_ret (v := .tuple #[.agg #[.int .i64 0, .int .u8 0, .int .u8 0, .int .i64 0, .string ⟨#[]⟩], .int .i64 3]) (by simp [results, Try.results16, go_sem, x_r0, x_r1, x_r2, x_r3, x_r4]) rfl ⟨by rw [He.out, Hm.out]; rfl, oV4⟩
      · have he' : (ep == 1048576) = false := by simp [he]
        have He := Lib.hid (show eAsk ⟨me, ⟨ep, st, to⟩, cg, kp⟩ x = 0 by unfold eAsk; rw [if_neg (by simp only [not_or, Decidable.not_not]; exact ⟨hR', h8, hm⟩)]; simp [h1, he])
        have Hm := Lib.hid (show mAsk ⟨me, ⟨ep, st, to⟩, cg, kp⟩ x = ⟨1, me, x, ep, ⟨#[]⟩⟩ by unfold mAsk; rw [He.out]; rfl)
        have R1 := fun W => hright_c me ep st to cg kp W
        simp only [hR] at R1
        clear hR hR' h8 hm h1 he
        obtain ⟨W1, hW1⟩ : ∃ V, (w.alloc (.cells #[.int .u8 me, .int .i64 ep, .int .i64 st, .int .u8 to, .string cg, .bool kp] 31)).alloc (.cells #[.int .i64 0, .int .u8 0, .int .u8 0, .int .i64 0, .string ⟨#[]⟩] 37) = V := ⟨_, rfl⟩
        have nW1_s : CB W1 (w.heap.size) 31 #[.int .u8 me, .int .i64 ep, .int .i64 st, .int .u8 to, .string cg, .bool kp] := by
          rw [← hW1]
          have := ((CB.new w 31 #[.int .u8 me, .int .i64 ep, .int .i64 st, .int .u8 to, .string cg, .bool kp]).alloc (.cells #[.int .i64 0, .int .u8 0, .int .u8 0, .int .i64 0, .string ⟨#[]⟩] 37))
          simpa using this
        have nW1_r : CB W1 (w.heap.size + 1) 37 #[.int .i64 0, .int .u8 0, .int .u8 0, .int .i64 0, .string ⟨#[]⟩] := by
          rw [← hW1]
          have := (CB.new (w.alloc (.cells #[.int .u8 me, .int .i64 ep, .int .i64 st, .int .u8 to, .string cg, .bool kp] 31)) 37 #[.int .i64 0, .int .u8 0, .int .u8 0, .int .i64 0, .string ⟨#[]⟩])
          simpa using this
        have neW1_01 : w.heap.size ≠ w.heap.size + 1 := by omega
        have lW1 : Below w.heap.size w W1 := by rw [← hW1]; exact le_tr (le_al _ _) (le_al _ _)
        have HW1 := Lib.hid hW1
        clear hW1
        go_enter Try.func16, Try.ntmps16
        go_wp2_with fail
        rw [HW1.out]
        refine (R1 _).mono ?_
        rintro e w2 ⟨rfl, b2⟩
        have r3_s := le_on nW1_s b2
        have r3_r := le_on nW1_r b2
        have l3 := le_tr lW1 b2
        clear nW1_s nW1_r lW1
        clear b2
        have f3_s0 : w2.cell? ⟨w.heap.size, 0, none⟩ = some (.int .u8 me) := CB.cell r3_s 0
        have f3_s1 : w2.cell? ⟨w.heap.size, 1, none⟩ = some (.int .i64 ep) := CB.cell r3_s 1
        have f3_s2 : w2.cell? ⟨w.heap.size, 2, none⟩ = some (.int .i64 st) := CB.cell r3_s 2
        have f3_s3 : w2.cell? ⟨w.heap.size, 3, none⟩ = some (.int .u8 to) := CB.cell r3_s 3
        have f3_s4 : w2.cell? ⟨w.heap.size, 4, none⟩ = some (.string cg) := CB.cell r3_s 4
        have f3_s5 : w2.cell? ⟨w.heap.size, 5, none⟩ = some (.bool kp) := CB.cell r3_s 5
        go_wp2_with fail
        refine (say_c me ep st to cg kp 1 x ep _).mono ?_
        rintro e w4 ⟨rfl, b4⟩
        clear f3_s0 f3_s1 f3_s2 f3_s3 f3_s4 f3_s5
        have r5_s := le_on r3_s b4
        have r5_r := le_on r3_r b4
        have l5 := le_tr l3 b4
        clear r3_s r3_r l3
        clear b4
        have f5_r0 : w4.cell? ⟨w.heap.size + 1, 0, none⟩ = some (.int .i64 0) := CB.cell r5_r 0
        have z5_r0 : w4.frozen? ⟨w.heap.size + 1, 0, none⟩ = false := CB.frozen r5_r 0
        have f5_r1 : w4.cell? ⟨w.heap.size + 1, 1, none⟩ = some (.int .u8 0) := CB.cell r5_r 1
        have z5_r1 : w4.frozen? ⟨w.heap.size + 1, 1, none⟩ = false := CB.frozen r5_r 1
        have f5_r2 : w4.cell? ⟨w.heap.size + 1, 2, none⟩ = some (.int .u8 0) := CB.cell r5_r 2
        have z5_r2 : w4.frozen? ⟨w.heap.size + 1, 2, none⟩ = false := CB.frozen r5_r 2
        have f5_r3 : w4.cell? ⟨w.heap.size + 1, 3, none⟩ = some (.int .i64 0) := CB.cell r5_r 3
        have z5_r3 : w4.frozen? ⟨w.heap.size + 1, 3, none⟩ = false := CB.frozen r5_r 3
        have f5_r4 : w4.cell? ⟨w.heap.size + 1, 4, none⟩ = some (.string ⟨#[]⟩) := CB.cell r5_r 4
        have z5_r4 : w4.frozen? ⟨w.heap.size + 1, 4, none⟩ = false := CB.frozen r5_r 4
        obtain ⟨V6, hV6⟩ : ∃ V, ((((w4.setCell ⟨w.heap.size + 1, 0, none⟩ (.int .i64 1)).setCell ⟨w.heap.size + 1, 1, none⟩ (.int .u8 me)).setCell ⟨w.heap.size + 1, 2, none⟩ (.int .u8 x)).setCell ⟨w.heap.size + 1, 3, none⟩ (.int .i64 ep)).setCell ⟨w.heap.size + 1, 4, none⟩ (.string ⟨#[]⟩) = V := ⟨_, rfl⟩
        have nV6 : CB V6 (w.heap.size + 1) 37 #[.int .i64 1, .int .u8 me, .int .u8 x, .int .i64 ep, .string ⟨#[]⟩] := by rw [← hV6]; exact cb_cast (CB.put (CB.put (CB.put (CB.put (CB.put r5_r 0 (.int .i64 1)) 1 (.int .u8 me)) 2 (.int .u8 x)) 3 (.int .i64 ep)) 4 (.string ⟨#[]⟩)) (by kernel_rfl)
        have mV6_s : CB V6 (w.heap.size) 31 #[.int .u8 me, .int .i64 ep, .int .i64 st, .int .u8 to, .string cg, .bool kp] := by rw [← hV6]; exact (CB.far (CB.far (CB.far (CB.far (CB.far r5_s (p := ⟨w.heap.size + 1, 0, none⟩) neW1_01 (.int .i64 1)) (p := ⟨w.heap.size + 1, 1, none⟩) neW1_01 (.int .u8 me)) (p := ⟨w.heap.size + 1, 2, none⟩) neW1_01 (.int .u8 x)) (p := ⟨w.heap.size + 1, 3, none⟩) neW1_01 (.int .i64 ep)) (p := ⟨w.heap.size + 1, 4, none⟩) neW1_01 (.string ⟨#[]⟩))
        have oV6 := (Below.setCell (Below.setCell (Below.setCell (Below.setCell (Below.setCell l5 (p := ⟨w.heap.size + 1, 0, none⟩) (by dsimp only; omega) (.int .i64 1)) (p := ⟨w.heap.size + 1, 1, none⟩) (by dsimp only; omega) (.int .u8 me)) (p := ⟨w.heap.size + 1, 2, none⟩) (by dsimp only; omega) (.int .u8 x)) (p := ⟨w.heap.size + 1, 3, none⟩) (by dsimp only; omega) (.int .i64 ep)) (p := ⟨w.heap.size + 1, 4, none⟩) (by dsimp only; omega) (.string ⟨#[]⟩))
        rw [hV6] at oV6
        have HV6 := Lib.hid hV6
        clear hV6
        clear r5_r r5_s l5
        go_wp2_with fail
        rw [HV6.out]
        have x_r0 : V6.cell? ⟨w.heap.size + 1, 0, none⟩ = some (.int .i64 1) := CB.cell nV6 0
        have x_r1 : V6.cell? ⟨w.heap.size + 1, 1, none⟩ = some (.int .u8 me) := CB.cell nV6 1
        have x_r2 : V6.cell? ⟨w.heap.size + 1, 2, none⟩ = some (.int .u8 x) := CB.cell nV6 2
        have x_r3 : V6.cell? ⟨w.heap.size + 1, 3, none⟩ = some (.int .i64 ep) := CB.cell nV6 3
        have x_r4 : V6.cell? ⟨w.heap.size + 1, 4, none⟩ = some (.string ⟨#[]⟩) := CB.cell nV6 4
        exact bodyPost_ret (v := .tuple #[.agg #[.int .i64 1, .int .u8 me, .int .u8 x, .int .i64 ep, .string ⟨#[]⟩], .int .i64 0]) (by simp [results, Try.results16, go_sem, x_r0, x_r1, x_r2, x_r3, x_r4]) rfl ⟨by rw [He.out, Hm.out]; rfl, oV6⟩
    · have h1' : (st != 1) = true := by simp [h1]
      have He := Lib.hid (show eAsk ⟨me, ⟨ep, st, to⟩, cg, kp⟩ x = 7 by unfold eAsk; rw [if_neg (by simp only [not_or, Decidable.not_not]; exact ⟨hR', h8, hm⟩)]; simp [h1])
      have Hm := Lib.hid (show mAsk ⟨me, ⟨ep, st, to⟩, cg, kp⟩ x = mg0 by unfold mAsk; rw [He.out]; rfl)
      have R1 := fun W => hright_c me ep st to cg kp W
      simp only [hR] at R1
      clear hR hR' h8 hm h1
      obtain ⟨W1, hW1⟩ : ∃ V, (w.alloc (.cells #[.int .u8 me, .int .i64 ep, .int .i64 st, .int .u8 to, .string cg, .bool kp] 31)).alloc (.cells #[.int .i64 0, .int .u8 0, .int .u8 0, .int .i64 0, .string ⟨#[]⟩] 37) = V := ⟨_, rfl⟩
      have nW1_s : CB W1 (w.heap.size) 31 #[.int .u8 me, .int .i64 ep, .int .i64 st, .int .u8 to, .string cg, .bool kp] := by
        rw [← hW1]
        have := ((CB.new w 31 #[.int .u8 me, .int .i64 ep, .int .i64 st, .int .u8 to, .string cg, .bool kp]).alloc (.cells #[.int .i64 0, .int .u8 0, .int .u8 0, .int .i64 0, .string ⟨#[]⟩] 37))
        simpa using this
      have nW1_r : CB W1 (w.heap.size + 1) 37 #[.int .i64 0, .int .u8 0, .int .u8 0, .int .i64 0, .string ⟨#[]⟩] := by
        rw [← hW1]
        have := (CB.new (w.alloc (.cells #[.int .u8 me, .int .i64 ep, .int .i64 st, .int .u8 to, .string cg, .bool kp] 31)) 37 #[.int .i64 0, .int .u8 0, .int .u8 0, .int .i64 0, .string ⟨#[]⟩])
        simpa using this
      have neW1_01 : w.heap.size ≠ w.heap.size + 1 := by omega
      have lW1 : Below w.heap.size w W1 := by rw [← hW1]; exact le_tr (le_al _ _) (le_al _ _)
      have HW1 := Lib.hid hW1
      clear hW1
      go_enter Try.func16, Try.ntmps16
      go_wp2_with fail
      rw [HW1.out]
      refine (R1 _).mono ?_
      rintro e w2 ⟨rfl, b2⟩
      have r3_s := le_on nW1_s b2
      have r3_r := le_on nW1_r b2
      have l3 := le_tr lW1 b2
      clear nW1_s nW1_r lW1
      clear b2
      have f3_s0 : w2.cell? ⟨w.heap.size, 0, none⟩ = some (.int .u8 me) := CB.cell r3_s 0
      have f3_s1 : w2.cell? ⟨w.heap.size, 1, none⟩ = some (.int .i64 ep) := CB.cell r3_s 1
      have f3_s2 : w2.cell? ⟨w.heap.size, 2, none⟩ = some (.int .i64 st) := CB.cell r3_s 2
      have f3_s3 : w2.cell? ⟨w.heap.size, 3, none⟩ = some (.int .u8 to) := CB.cell r3_s 3
      have f3_s4 : w2.cell? ⟨w.heap.size, 4, none⟩ = some (.string cg) := CB.cell r3_s 4
      have f3_s5 : w2.cell? ⟨w.heap.size, 5, none⟩ = some (.bool kp) := CB.cell r3_s 5
      have f3_r0 : w2.cell? ⟨w.heap.size + 1, 0, none⟩ = some (.int .i64 0) := CB.cell r3_r 0
      have z3_r0 : w2.frozen? ⟨w.heap.size + 1, 0, none⟩ = false := CB.frozen r3_r 0
      have f3_r1 : w2.cell? ⟨w.heap.size + 1, 1, none⟩ = some (.int .u8 0) := CB.cell r3_r 1
      have z3_r1 : w2.frozen? ⟨w.heap.size + 1, 1, none⟩ = false := CB.frozen r3_r 1
      have f3_r2 : w2.cell? ⟨w.heap.size + 1, 2, none⟩ = some (.int .u8 0) := CB.cell r3_r 2
      have z3_r2 : w2.frozen? ⟨w.heap.size + 1, 2, none⟩ = false := CB.frozen r3_r 2
      have f3_r3 : w2.cell? ⟨w.heap.size + 1, 3, none⟩ = some (.int .i64 0) := CB.cell r3_r 3
      have z3_r3 : w2.frozen? ⟨w.heap.size + 1, 3, none⟩ = false := CB.frozen r3_r 3
      have f3_r4 : w2.cell? ⟨w.heap.size + 1, 4, none⟩ = some (.string ⟨#[]⟩) := CB.cell r3_r 4
      have z3_r4 : w2.frozen? ⟨w.heap.size + 1, 4, none⟩ = false := CB.frozen r3_r 4
      obtain ⟨V4, hV4⟩ : ∃ V, ((((w2.setCell ⟨w.heap.size + 1, 0, none⟩ (.int .i64 0)).setCell ⟨w.heap.size + 1, 1, none⟩ (.int .u8 0)).setCell ⟨w.heap.size + 1, 2, none⟩ (.int .u8 0)).setCell ⟨w.heap.size + 1, 3, none⟩ (.int .i64 0)).setCell ⟨w.heap.size + 1, 4, none⟩ (.string ⟨#[]⟩) = V := ⟨_, rfl⟩
      have nV4 : CB V4 (w.heap.size + 1) 37 #[.int .i64 0, .int .u8 0, .int .u8 0, .int .i64 0, .string ⟨#[]⟩] := by rw [← hV4]; exact cb_cast (CB.put (CB.put (CB.put (CB.put (CB.put r3_r 0 (.int .i64 0)) 1 (.int .u8 0)) 2 (.int .u8 0)) 3 (.int .i64 0)) 4 (.string ⟨#[]⟩)) (by kernel_rfl)
      have mV4_s : CB V4 (w.heap.size) 31 #[.int .u8 me, .int .i64 ep, .int .i64 st, .int .u8 to, .string cg, .bool kp] := by rw [← hV4]; exact (CB.far (CB.far (CB.far (CB.far (CB.far r3_s (p := ⟨w.heap.size + 1, 0, none⟩) neW1_01 (.int .i64 0)) (p := ⟨w.heap.size + 1, 1, none⟩) neW1_01 (.int .u8 0)) (p := ⟨w.heap.size + 1, 2, none⟩) neW1_01 (.int .u8 0)) (p := ⟨w.heap.size + 1, 3, none⟩) neW1_01 (.int .i64 0)) (p := ⟨w.heap.size + 1, 4, none⟩) neW1_01 (.string ⟨#[]⟩))
      have oV4 := (Below.setCell (Below.setCell (Below.setCell (Below.setCell (Below.setCell l3 (p := ⟨w.heap.size + 1, 0, none⟩) (by dsimp only; omega) (.int .i64 0)) (p := ⟨w.heap.size + 1, 1, none⟩) (by dsimp only; omega) (.int .u8 0)) (p := ⟨w.heap.size + 1, 2, none⟩) (by dsimp only; omega) (.int .u8 0)) (p := ⟨w.heap.size + 1, 3, none⟩) (by dsimp only; omega) (.int .i64 0)) (p := ⟨w.heap.size + 1, 4, none⟩) (by dsimp only; omega) (.string ⟨#[]⟩))
      rw [hV4] at oV4
      have HV4 := Lib.hid hV4
      clear hV4
      clear r3_r r3_s l3
      go_wp2_with fail
      rw [HV4.out]
      have x_r0 : V4.cell? ⟨w.heap.size + 1, 0, none⟩ = some (.int .i64 0) := CB.cell nV4 0
      have x_r1 : V4.cell? ⟨w.heap.size + 1, 1, none⟩ = some (.int .u8 0) := CB.cell nV4 1
      have x_r2 : V4.cell? ⟨w.heap.size + 1, 2, none⟩ = some (.int .u8 0) := CB.cell nV4 2
      have x_r3 : V4.cell? ⟨w.heap.size + 1, 3, none⟩ = some (.int .i64 0) := CB.cell nV4 3
      have x_r4 : V4.cell? ⟨w.heap.size + 1, 4, none⟩ = some (.string ⟨#[]⟩) := CB.cell nV4 4
      exact bodyPost_ret (v := .tuple #[.agg #[.int .i64 0, .int .u8 0, .int .u8 0, .int .i64 0, .string ⟨#[]⟩], .int .i64 7]) (by simp [results, Try.results16, go_sem, x_r0, x_r1, x_r2, x_r3, x_r4]) rfl ⟨by rw [He.out, Hm.out]; rfl, oV4⟩
set_option maxRecDepth 100000 in
set_option maxHeartbeats 4000000 in
theorem again_c (me ep st to : Int) (cg : ByteArray) (kp : Bool) (w : World) : Calls Try.prog 20 #[.agg #[.int .u8 me, .int .i64 ep, .int .i64 st, .int .u8 to, .string cg, .bool kp]] w (RPost w 37 mc 5 (againM ⟨me, ⟨ep, st, to⟩, cg, kp⟩)) := by
  cases hR : decide (RightS ⟨me, ⟨ep, st, to⟩, cg, kp⟩) with
  | false =>
    have hR' := of_decide_eq_false hR
    have H := Lib.hid (show againM ⟨me, ⟨ep, st, to⟩, cg, kp⟩ = [] by unfold againM; simp [hR'])
    have R1 := fun W => hright_c me ep st to cg kp W
    simp only [hR] at R1
    clear hR hR'
    obtain ⟨W1, hW1⟩ : ∃ V, w.alloc (.cells #[.int .u8 me, .int .i64 ep, .int .i64 st, .int .u8 to, .string cg, .bool kp] 31) = V := ⟨_, rfl⟩
    have nW1_s : CB W1 (w.heap.size) 31 #[.int .u8 me, .int .i64 ep, .int .i64 st, .int .u8 to, .string cg, .bool kp] := by
      rw [← hW1]
      have := (CB.new w 31 #[.int .u8 me, .int .i64 ep, .int .i64 st, .int .u8 to, .string cg, .bool kp])
      simpa using this
    have lW1 : Below w.heap.size w W1 := by rw [← hW1]; exact le_al _ _
    have HW1 := Lib.hid hW1
    clear hW1
    go_enter Try.func20, Try.ntmps20
    go_wp2_with fail
    rw [HW1.out]
    refine (R1 _).mono ?_
    rintro e w2 ⟨rfl, b2⟩
    have r3_s := le_on nW1_s b2
    have l3 := le_tr lW1 b2
    clear nW1_s lW1
    clear b2
    have f3_s0 : w2.cell? ⟨w.heap.size, 0, none⟩ = some (.int .u8 me) := CB.cell r3_s 0
    have f3_s1 : w2.cell? ⟨w.heap.size, 1, none⟩ = some (.int .i64 ep) := CB.cell r3_s 1
    have f3_s2 : w2.cell? ⟨w.heap.size, 2, none⟩ = some (.int .i64 st) := CB.cell r3_s 2
    have f3_s3 : w2.cell? ⟨w.heap.size, 3, none⟩ = some (.int .u8 to) := CB.cell r3_s 3
    have f3_s4 : w2.cell? ⟨w.heap.size, 4, none⟩ = some (.string cg) := CB.cell r3_s 4
    have f3_s5 : w2.cell? ⟨w.heap.size, 5, none⟩ = some (.bool kp) := CB.cell r3_s 5
    go_wp2_with fail
    go_ret
    exact ⟨none, 0, 0, rfl, by rw [H.out]; exact RS.nil _ _ _ _, l3⟩
  | true =>
    have hR' := of_decide_eq_true hR
    cases kp with
    | false =>
      have H := Lib.hid (show againM ⟨me, ⟨ep, st, to⟩, cg, false⟩ = [] by unfold againM; simp)
      have R1 := fun W => hright_c me ep st to cg false W
      simp only [hR] at R1
      clear hR hR'
      obtain ⟨W1, hW1⟩ : ∃ V, w.alloc (.cells #[.int .u8 me, .int .i64 ep, .int .i64 st, .int .u8 to, .string cg, .bool false] 31) = V := ⟨_, rfl⟩
      have nW1_s : CB W1 (w.heap.size) 31 #[.int .u8 me, .int .i64 ep, .int .i64 st, .int .u8 to, .string cg, .bool false] := by
        rw [← hW1]
        have := (CB.new w 31 #[.int .u8 me, .int .i64 ep, .int .i64 st, .int .u8 to, .string cg, .bool false])
        simpa using this
      have lW1 : Below w.heap.size w W1 := by rw [← hW1]; exact le_al _ _
      have HW1 := Lib.hid hW1
      clear hW1
      go_enter Try.func20, Try.ntmps20
      go_wp2_with fail
      rw [HW1.out]
      refine (R1 _).mono ?_
      rintro e w2 ⟨rfl, b2⟩
      have r3_s := le_on nW1_s b2
      have l3 := le_tr lW1 b2
      clear nW1_s lW1
      clear b2
      have f3_s0 : w2.cell? ⟨w.heap.size, 0, none⟩ = some (.int .u8 me) := CB.cell r3_s 0
      have f3_s1 : w2.cell? ⟨w.heap.size, 1, none⟩ = some (.int .i64 ep) := CB.cell r3_s 1
      have f3_s2 : w2.cell? ⟨w.heap.size, 2, none⟩ = some (.int .i64 st) := CB.cell r3_s 2
      have f3_s3 : w2.cell? ⟨w.heap.size, 3, none⟩ = some (.int .u8 to) := CB.cell r3_s 3
      have f3_s4 : w2.cell? ⟨w.heap.size, 4, none⟩ = some (.string cg) := CB.cell r3_s 4
      have f3_s5 : w2.cell? ⟨w.heap.size, 5, none⟩ = some (.bool false) := CB.cell r3_s 5
      go_wp2_with fail
      go_ret
      exact ⟨none, 0, 0, rfl, by rw [H.out]; exact RS.nil _ _ _ _, l3⟩
    | true =>
      have H := Lib.hid (show againM ⟨me, ⟨ep, st, to⟩, cg, true⟩ = [⟨3, me, to, ep + 1, cg⟩] by unfold againM gvM; simp [hR'])
      have R1 := fun W => hright_c me ep st to cg true W
      simp only [hR] at R1
      have hb1 : 0 ≤ ep ∧ ep ≤ 1048576 := by have := right_cases hR'.2.1; simp only at this; omega
      have Wp : IntKind.i64.wrap (ep + 1) = ep + 1 := IntWalk.i64_in _ (by omega)
      have HWp := Lib.hid Wp
      clear hR hR' Wp
      obtain ⟨W1, hW1⟩ : ∃ V, w.alloc (.cells #[.int .u8 me, .int .i64 ep, .int .i64 st, .int .u8 to, .string cg, .bool true] 31) = V := ⟨_, rfl⟩
      have nW1_s : CB W1 (w.heap.size) 31 #[.int .u8 me, .int .i64 ep, .int .i64 st, .int .u8 to, .string cg, .bool true] := by
        rw [← hW1]
        have := (CB.new w 31 #[.int .u8 me, .int .i64 ep, .int .i64 st, .int .u8 to, .string cg, .bool true])
        simpa using this
      have lW1 : Below w.heap.size w W1 := by rw [← hW1]; exact le_al _ _
      have HW1 := Lib.hid hW1
      clear hW1
      go_enter Try.func20, Try.ntmps20
      go_wp2_with fail
      rw [HW1.out]
      refine (R1 _).mono ?_
      rintro e w2 ⟨rfl, b2⟩
      have r3_s := le_on nW1_s b2
      have l3 := le_tr lW1 b2
      clear nW1_s lW1
      clear b2
      have f3_s0 : w2.cell? ⟨w.heap.size, 0, none⟩ = some (.int .u8 me) := CB.cell r3_s 0
      have f3_s1 : w2.cell? ⟨w.heap.size, 1, none⟩ = some (.int .i64 ep) := CB.cell r3_s 1
      have f3_s2 : w2.cell? ⟨w.heap.size, 2, none⟩ = some (.int .i64 st) := CB.cell r3_s 2
      have f3_s3 : w2.cell? ⟨w.heap.size, 3, none⟩ = some (.int .u8 to) := CB.cell r3_s 3
      have f3_s4 : w2.cell? ⟨w.heap.size, 4, none⟩ = some (.string cg) := CB.cell r3_s 4
      have f3_s5 : w2.cell? ⟨w.heap.size, 5, none⟩ = some (.bool true) := CB.cell r3_s 5
      go_wp2_with fail
      refine (say_c me ep st to cg true 3 to (ep + 1) _).mono ?_
      rintro e w4 ⟨rfl, b4⟩
      clear f3_s0 f3_s1 f3_s2 f3_s3 f3_s4 f3_s5
      have r5_s := le_on r3_s b4
      have l5 := le_tr l3 b4
      clear r3_s l3
      clear b4
      have av_m : w.heap.size ≤ w4.heap.size := by have := l5.size; omega
      obtain ⟨W6, hW6⟩ : ∃ V, w4.alloc (.cells #[.int .i64 3, .int .u8 me, .int .u8 to, .int .i64 (ep + 1), .string ⟨#[]⟩] 37) = V := ⟨_, rfl⟩
      have zW6 : w4.heap.size = w4.heap.size := by rfl
      have nW6 : CB W6 (w4.heap.size) 37 #[.int .i64 3, .int .u8 me, .int .u8 to, .int .i64 (ep + 1), .string ⟨#[]⟩] := by rw [← zW6, ← hW6]; exact CB.new _ _ _
      have bW6 : Below w4.heap.size w4 W6 := by rw [← hW6]; exact le_al _ _
      have neW6_s : w.heap.size ≠ w4.heap.size := by have := CB.lt r5_s; omega
      have HW6 := Lib.hid hW6
      clear hW6 zW6
      have r7_s := le_on r5_s bW6
      have l7 := le_tr l5 bW6
      clear bW6
      have f7_s0 : (w4.alloc (.cells #[.int .i64 3, .int .u8 me, .int .u8 to, .int .i64 (ep + 1), .string ⟨#[]⟩] 37)).cell? ⟨w.heap.size, 0, none⟩ = some (.int .u8 me) := by rw [HW6.out]; exact CB.cell r7_s 0
      have f7_s1 : (w4.alloc (.cells #[.int .i64 3, .int .u8 me, .int .u8 to, .int .i64 (ep + 1), .string ⟨#[]⟩] 37)).cell? ⟨w.heap.size, 1, none⟩ = some (.int .i64 ep) := by rw [HW6.out]; exact CB.cell r7_s 1
      have f7_s2 : (w4.alloc (.cells #[.int .i64 3, .int .u8 me, .int .u8 to, .int .i64 (ep + 1), .string ⟨#[]⟩] 37)).cell? ⟨w.heap.size, 2, none⟩ = some (.int .i64 st) := by rw [HW6.out]; exact CB.cell r7_s 2
      have f7_s3 : (w4.alloc (.cells #[.int .i64 3, .int .u8 me, .int .u8 to, .int .i64 (ep + 1), .string ⟨#[]⟩] 37)).cell? ⟨w.heap.size, 3, none⟩ = some (.int .u8 to) := by rw [HW6.out]; exact CB.cell r7_s 3
      have f7_s4 : (w4.alloc (.cells #[.int .i64 3, .int .u8 me, .int .u8 to, .int .i64 (ep + 1), .string ⟨#[]⟩] 37)).cell? ⟨w.heap.size, 4, none⟩ = some (.string cg) := by rw [HW6.out]; exact CB.cell r7_s 4
      have f7_s5 : (w4.alloc (.cells #[.int .i64 3, .int .u8 me, .int .u8 to, .int .i64 (ep + 1), .string ⟨#[]⟩] 37)).cell? ⟨w.heap.size, 5, none⟩ = some (.bool true) := by rw [HW6.out]; exact CB.cell r7_s 5
      have av_m : w.heap.size ≤ w4.heap.size := by have := l5.size; omega
      obtain ⟨W9, hW9⟩ : ∃ V, w4.alloc (.cells #[.int .i64 3, .int .u8 me, .int .u8 to, .int .i64 (ep + 1), .string cg] 37) = V := ⟨_, rfl⟩
      have zW9 : w4.heap.size = w4.heap.size := by rfl
      have nW9 : CB W9 (w4.heap.size) 37 #[.int .i64 3, .int .u8 me, .int .u8 to, .int .i64 (ep + 1), .string cg] := by rw [← zW9, ← hW9]; exact CB.new _ _ _
      have bW9 : Below w4.heap.size w4 W9 := by rw [← hW9]; exact le_al _ _
      have neW9_s : w.heap.size ≠ w4.heap.size := by have := CB.lt r5_s; omega
      have HW9 := Lib.hid hW9
      clear hW9 zW9
      have r10_s := le_on r5_s bW9
      have l10 := le_tr l5 bW9
      clear bW9
      have av_z : w.heap.size ≤ W9.heap.size := by have := l10.size; omega
      obtain ⟨W11, hW11⟩ : ∃ V, W9.alloc (.cells #[.int .i64 3, .int .u8 me, .int .u8 to, .int .i64 (ep + 1), .string cg] 37) = V := ⟨_, rfl⟩
      have zW11 : W9.heap.size = w4.heap.size + 1 := by rw [← HW9.out]; simp
      have nW11 : CB W11 (w4.heap.size + 1) 37 #[.int .i64 3, .int .u8 me, .int .u8 to, .int .i64 (ep + 1), .string cg] := by rw [← zW11, ← hW11]; exact CB.new _ _ _
      have bW11 : Below W9.heap.size W9 W11 := by rw [← hW11]; exact le_al _ _
      have neW11_s : w.heap.size ≠ w4.heap.size + 1 := by have := CB.lt r10_s; omega
      have neW11_m : w4.heap.size ≠ w4.heap.size + 1 := by have := CB.lt nW9; omega
      have HW11 := Lib.hid (show (w4.alloc (.cells #[.int .i64 3, .int .u8 me, .int .u8 to, .int .i64 (ep + 1), .string cg] 37)).alloc (.cells #[.int .i64 3, .int .u8 me, .int .u8 to, .int .i64 (ep + 1), .string cg] 37) = W11 by rw [HW9.out]; exact hW11)
      clear hW11 zW11
      have r12_s := le_on r10_s bW11
      have r12_m := le_on nW9 bW11
      have l12 := le_tr l10 bW11
      clear r10_s nW9 l10
      clear bW11
      have av_z : w.heap.size ≤ w4.heap.size + 1 := by have := av_z; omega
      go_wp2_with fail
      rw [HW11.out]
      go_ret
      exact ⟨_, _, _, rfl, by rw [H.out]; exact RS.of_cb nW11, l12⟩
end Go.Proofs.Ytmghckddofefkaa
