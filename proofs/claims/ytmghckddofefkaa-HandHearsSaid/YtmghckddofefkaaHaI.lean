/-
  The document's layer 12: give. Conditions: the side and the message are valid.
-/
import Derived.Test.YtmghckddofefkaaHaF
set_option linter.unusedVariables false
set_option linter.unusedSimpArgs false
namespace Go.Proofs.Ytmghckddofefkaa
open Go.RowKit

set_option maxRecDepth 100000 in
set_option maxHeartbeats 4000000 in
theorem give_hr (me ep st to : Int) (cg : ByteArray) (kp : Bool) (kd fr t e : Int) (mg : ByteArray) (w : World) (hs : RightS ⟨me, ⟨ep, st, to⟩, cg, kp⟩) (hm : MayM ⟨kd, fr, t, e, mg⟩) : Calls Try.prog 44 #[.agg #[.int .u8 me, .int .i64 ep, .int .i64 st, .int .u8 to, .string cg, .bool kp], .agg #[.int .i64 kd, .int .u8 fr, .int .u8 t, .int .i64 e, .string mg]] w (TdPost w 27 (giveM ⟨me, ⟨ep, st, to⟩, cg, kp⟩ ⟨kd, fr, t, e, mg⟩)) := by
  have he : inEp e = true := by have := hm.2.2.2.2.1; simp only at this; simp [inEp, this]
  have hrt : rightL ⟨ep, st, to⟩ = true := hs.2.1
  have T1 := fun W => take_r ep st to e W
  by_cases hlt : ep < e
  · have hlt' : decide (ep < e) = true := by simp [hlt]
    have hk : eTakeL ⟨ep, st, to⟩ e = 0 := by
      unfold eTakeL
      rw [hrt, he]
      simp only [Bool.true_eq_false, or_self, if_false]
      rw [if_neg (fun h => by have := h.2; omega), if_neg (by omega)]
    have hsl : sTakeL ⟨ep, st, to⟩ e = ⟨e, 1, 0⟩ := by unfold sTakeL; rw [hk]; rfl
    simp only [hk, hsl] at T1
    have H := Lib.hid (show giveM ⟨me, ⟨ep, st, to⟩, cg, kp⟩ ⟨kd, fr, t, e, mg⟩ = ⟨⟨me, ⟨e, 1, 0⟩, mg, false⟩, [⟨4, me, fr, e, ⟨#[]⟩⟩], 0⟩ by unfold giveM; simp [hlt])
    clear hk hsl hlt hrt he hs hm
    obtain ⟨W1, hW1⟩ : ∃ V, ((w.alloc (.cells #[.int .u8 me, .int .i64 ep, .int .i64 st, .int .u8 to, .string cg, .bool kp] 25)).alloc (.cells #[.int .i64 kd, .int .u8 fr, .int .u8 t, .int .i64 e, .string mg] 27)).alloc (.cells #[.int .u8 0, .int .i64 0, .int .i64 0, .int .u8 0, .string ⟨#[]⟩, .bool false, .slice none 0 0, .int .i64 0] 40) = V := ⟨_, rfl⟩
    have nW1_s : CB W1 (w.heap.size) 25 #[.int .u8 me, .int .i64 ep, .int .i64 st, .int .u8 to, .string cg, .bool kp] := by
      rw [← hW1]
      have := (((CB.new w 25 #[.int .u8 me, .int .i64 ep, .int .i64 st, .int .u8 to, .string cg, .bool kp]).alloc (.cells #[.int .i64 kd, .int .u8 fr, .int .u8 t, .int .i64 e, .string mg] 27)).alloc (.cells #[.int .u8 0, .int .i64 0, .int .i64 0, .int .u8 0, .string ⟨#[]⟩, .bool false, .slice none 0 0, .int .i64 0] 40))
      simpa using this
    have nW1_m : CB W1 (w.heap.size + 1) 27 #[.int .i64 kd, .int .u8 fr, .int .u8 t, .int .i64 e, .string mg] := by
      rw [← hW1]
      have := ((CB.new (w.alloc (.cells #[.int .u8 me, .int .i64 ep, .int .i64 st, .int .u8 to, .string cg, .bool kp] 25)) 27 #[.int .i64 kd, .int .u8 fr, .int .u8 t, .int .i64 e, .string mg]).alloc (.cells #[.int .u8 0, .int .i64 0, .int .i64 0, .int .u8 0, .string ⟨#[]⟩, .bool false, .slice none 0 0, .int .i64 0] 40))
      simpa using this
    have nW1_r : CB W1 (w.heap.size + 1 + 1) 40 #[.int .u8 0, .int .i64 0, .int .i64 0, .int .u8 0, .string ⟨#[]⟩, .bool false, .slice none 0 0, .int .i64 0] := by
      rw [← hW1]
      have := (CB.new ((w.alloc (.cells #[.int .u8 me, .int .i64 ep, .int .i64 st, .int .u8 to, .string cg, .bool kp] 25)).alloc (.cells #[.int .i64 kd, .int .u8 fr, .int .u8 t, .int .i64 e, .string mg] 27)) 40 #[.int .u8 0, .int .i64 0, .int .i64 0, .int .u8 0, .string ⟨#[]⟩, .bool false, .slice none 0 0, .int .i64 0])
      simpa using this
    have neW1_01 : w.heap.size ≠ w.heap.size + 1 := by omega
    have neW1_02 : w.heap.size ≠ w.heap.size + 1 + 1 := by omega
    have neW1_12 : w.heap.size + 1 ≠ w.heap.size + 1 + 1 := by omega
    have lW1 : Below w.heap.size w W1 := by rw [← hW1]; exact le_tr (le_tr (le_al _ _) (le_al _ _)) (le_al _ _)
    have HW1 := Lib.hid hW1
    clear hW1
    go_enter Try.func44, Try.ntmps44
    go_wp2_with fail
    rw [HW1.out]
    refine (T1 _).mono ?_
    rintro e w2 ⟨rfl, b2⟩
    have r3_s := le_on nW1_s b2
    have r3_m := le_on nW1_m b2
    have r3_r := le_on nW1_r b2
    have l3 := le_tr lW1 b2
    clear nW1_s nW1_m nW1_r lW1
    clear b2
    have av_g : w.heap.size ≤ w2.heap.size := by have := l3.size; omega
    obtain ⟨W4, hW4⟩ : ∃ V, w2.alloc (.cells #[.int .i64 e, .int .i64 1, .int .u8 0] 23) = V := ⟨_, rfl⟩
    have zW4 : w2.heap.size = w2.heap.size := by rfl
    have nW4 : CB W4 (w2.heap.size) 23 #[.int .i64 e, .int .i64 1, .int .u8 0] := by rw [← zW4, ← hW4]; exact CB.new _ _ _
    have bW4 : Below w2.heap.size w2 W4 := by rw [← hW4]; exact le_al _ _
    have neW4_s : w.heap.size ≠ w2.heap.size := by have := CB.lt r3_s; omega
    have neW4_m : w.heap.size + 1 ≠ w2.heap.size := by have := CB.lt r3_m; omega
    have neW4_r : w.heap.size + 1 + 1 ≠ w2.heap.size := by have := CB.lt r3_r; omega
    have HW4 := Lib.hid hW4
    clear hW4 zW4
    have r5_s := le_on r3_s bW4
    have r5_m := le_on r3_m bW4
    have r5_r := le_on r3_r bW4
    have l5 := le_tr l3 bW4
    clear r3_s r3_m r3_r l3
    clear bW4
    have f5_s0 : (w2.alloc (.cells #[.int .i64 e, .int .i64 1, .int .u8 0] 23)).cell? ⟨w.heap.size, 0, none⟩ = some (.int .u8 me) := by rw [HW4.out]; exact CB.cell r5_s 0
    have f5_s1 : (w2.alloc (.cells #[.int .i64 e, .int .i64 1, .int .u8 0] 23)).cell? ⟨w.heap.size, 1, none⟩ = some (.int .i64 ep) := by rw [HW4.out]; exact CB.cell r5_s 1
    have f5_s2 : (w2.alloc (.cells #[.int .i64 e, .int .i64 1, .int .u8 0] 23)).cell? ⟨w.heap.size, 2, none⟩ = some (.int .i64 st) := by rw [HW4.out]; exact CB.cell r5_s 2
    have f5_s3 : (w2.alloc (.cells #[.int .i64 e, .int .i64 1, .int .u8 0] 23)).cell? ⟨w.heap.size, 3, none⟩ = some (.int .u8 to) := by rw [HW4.out]; exact CB.cell r5_s 3
    have f5_s4 : (w2.alloc (.cells #[.int .i64 e, .int .i64 1, .int .u8 0] 23)).cell? ⟨w.heap.size, 4, none⟩ = some (.string cg) := by rw [HW4.out]; exact CB.cell r5_s 4
    have f5_s5 : (w2.alloc (.cells #[.int .i64 e, .int .i64 1, .int .u8 0] 23)).cell? ⟨w.heap.size, 5, none⟩ = some (.bool kp) := by rw [HW4.out]; exact CB.cell r5_s 5
    have f5_m0 : (w2.alloc (.cells #[.int .i64 e, .int .i64 1, .int .u8 0] 23)).cell? ⟨w.heap.size + 1, 0, none⟩ = some (.int .i64 kd) := by rw [HW4.out]; exact CB.cell r5_m 0
    have f5_m1 : (w2.alloc (.cells #[.int .i64 e, .int .i64 1, .int .u8 0] 23)).cell? ⟨w.heap.size + 1, 1, none⟩ = some (.int .u8 fr) := by rw [HW4.out]; exact CB.cell r5_m 1
    have f5_m2 : (w2.alloc (.cells #[.int .i64 e, .int .i64 1, .int .u8 0] 23)).cell? ⟨w.heap.size + 1, 2, none⟩ = some (.int .u8 t) := by rw [HW4.out]; exact CB.cell r5_m 2
    have f5_m3 : (w2.alloc (.cells #[.int .i64 e, .int .i64 1, .int .u8 0] 23)).cell? ⟨w.heap.size + 1, 3, none⟩ = some (.int .i64 e) := by rw [HW4.out]; exact CB.cell r5_m 3
    have f5_m4 : (w2.alloc (.cells #[.int .i64 e, .int .i64 1, .int .u8 0] 23)).cell? ⟨w.heap.size + 1, 4, none⟩ = some (.string mg) := by rw [HW4.out]; exact CB.cell r5_m 4
    have f5_g0 : (w2.alloc (.cells #[.int .i64 e, .int .i64 1, .int .u8 0] 23)).cell? ⟨w2.heap.size, 0, none⟩ = some (.int .i64 e) := by rw [HW4.out]; exact CB.cell nW4 0
    have f5_g1 : (w2.alloc (.cells #[.int .i64 e, .int .i64 1, .int .u8 0] 23)).cell? ⟨w2.heap.size, 1, none⟩ = some (.int .i64 1) := by rw [HW4.out]; exact CB.cell nW4 1
    have f5_g2 : (w2.alloc (.cells #[.int .i64 e, .int .i64 1, .int .u8 0] 23)).cell? ⟨w2.heap.size, 2, none⟩ = some (.int .u8 0) := by rw [HW4.out]; exact CB.cell nW4 2
    have f5_s0 : (w2.alloc (.cells #[.int .i64 e, .int .i64 1, .int .u8 0] 23)).cell? ⟨w.heap.size, 0, none⟩ = some (.int .u8 me) := by rw [HW4.out]; exact CB.cell r5_s 0
    have z5_s0 : (w2.alloc (.cells #[.int .i64 e, .int .i64 1, .int .u8 0] 23)).frozen? ⟨w.heap.size, 0, none⟩ = false := by rw [HW4.out]; exact CB.frozen r5_s 0
    have f5_s1 : (w2.alloc (.cells #[.int .i64 e, .int .i64 1, .int .u8 0] 23)).cell? ⟨w.heap.size, 1, none⟩ = some (.int .i64 ep) := by rw [HW4.out]; exact CB.cell r5_s 1
    have z5_s1 : (w2.alloc (.cells #[.int .i64 e, .int .i64 1, .int .u8 0] 23)).frozen? ⟨w.heap.size, 1, none⟩ = false := by rw [HW4.out]; exact CB.frozen r5_s 1
    have f5_s2 : (w2.alloc (.cells #[.int .i64 e, .int .i64 1, .int .u8 0] 23)).cell? ⟨w.heap.size, 2, none⟩ = some (.int .i64 st) := by rw [HW4.out]; exact CB.cell r5_s 2
    have z5_s2 : (w2.alloc (.cells #[.int .i64 e, .int .i64 1, .int .u8 0] 23)).frozen? ⟨w.heap.size, 2, none⟩ = false := by rw [HW4.out]; exact CB.frozen r5_s 2
    have f5_s3 : (w2.alloc (.cells #[.int .i64 e, .int .i64 1, .int .u8 0] 23)).cell? ⟨w.heap.size, 3, none⟩ = some (.int .u8 to) := by rw [HW4.out]; exact CB.cell r5_s 3
    have z5_s3 : (w2.alloc (.cells #[.int .i64 e, .int .i64 1, .int .u8 0] 23)).frozen? ⟨w.heap.size, 3, none⟩ = false := by rw [HW4.out]; exact CB.frozen r5_s 3
    have f5_s4 : (w2.alloc (.cells #[.int .i64 e, .int .i64 1, .int .u8 0] 23)).cell? ⟨w.heap.size, 4, none⟩ = some (.string cg) := by rw [HW4.out]; exact CB.cell r5_s 4
    have z5_s4 : (w2.alloc (.cells #[.int .i64 e, .int .i64 1, .int .u8 0] 23)).frozen? ⟨w.heap.size, 4, none⟩ = false := by rw [HW4.out]; exact CB.frozen r5_s 4
    have f5_s5 : (w2.alloc (.cells #[.int .i64 e, .int .i64 1, .int .u8 0] 23)).cell? ⟨w.heap.size, 5, none⟩ = some (.bool kp) := by rw [HW4.out]; exact CB.cell r5_s 5
    have z5_s5 : (w2.alloc (.cells #[.int .i64 e, .int .i64 1, .int .u8 0] 23)).frozen? ⟨w.heap.size, 5, none⟩ = false := by rw [HW4.out]; exact CB.frozen r5_s 5
    obtain ⟨V6, hV6⟩ : ∃ V, ((W4.setCell ⟨w.heap.size, 1, none⟩ (.int .i64 e)).setCell ⟨w.heap.size, 2, none⟩ (.int .i64 1)).setCell ⟨w.heap.size, 3, none⟩ (.int .u8 0) = V := ⟨_, rfl⟩
    have nV6 : CB V6 (w.heap.size) 25 #[.int .u8 me, .int .i64 e, .int .i64 1, .int .u8 0, .string cg, .bool kp] := by rw [← hV6]; exact cb_cast (CB.put (CB.put (CB.put r5_s 1 (.int .i64 e)) 2 (.int .i64 1)) 3 (.int .u8 0)) (by kernel_rfl)
    have mV6_m : CB V6 (w.heap.size + 1) 27 #[.int .i64 kd, .int .u8 fr, .int .u8 t, .int .i64 e, .string mg] := by rw [← hV6]; exact (CB.far (CB.far (CB.far r5_m (p := ⟨w.heap.size, 1, none⟩) (Ne.symm neW1_01) (.int .i64 e)) (p := ⟨w.heap.size, 2, none⟩) (Ne.symm neW1_01) (.int .i64 1)) (p := ⟨w.heap.size, 3, none⟩) (Ne.symm neW1_01) (.int .u8 0))
    have mV6_r : CB V6 (w.heap.size + 1 + 1) 40 #[.int .u8 0, .int .i64 0, .int .i64 0, .int .u8 0, .string ⟨#[]⟩, .bool false, .slice none 0 0, .int .i64 0] := by rw [← hV6]; exact (CB.far (CB.far (CB.far r5_r (p := ⟨w.heap.size, 1, none⟩) (Ne.symm neW1_02) (.int .i64 e)) (p := ⟨w.heap.size, 2, none⟩) (Ne.symm neW1_02) (.int .i64 1)) (p := ⟨w.heap.size, 3, none⟩) (Ne.symm neW1_02) (.int .u8 0))
    have mV6_g : CB V6 (w2.heap.size) 23 #[.int .i64 e, .int .i64 1, .int .u8 0] := by rw [← hV6]; exact (CB.far (CB.far (CB.far nW4 (p := ⟨w.heap.size, 1, none⟩) (Ne.symm neW4_s) (.int .i64 e)) (p := ⟨w.heap.size, 2, none⟩) (Ne.symm neW4_s) (.int .i64 1)) (p := ⟨w.heap.size, 3, none⟩) (Ne.symm neW4_s) (.int .u8 0))
    have oV6 := (Below.setCell (Below.setCell (Below.setCell l5 (p := ⟨w.heap.size, 1, none⟩) (by dsimp only; omega) (.int .i64 e)) (p := ⟨w.heap.size, 2, none⟩) (by dsimp only; omega) (.int .i64 1)) (p := ⟨w.heap.size, 3, none⟩) (by dsimp only; omega) (.int .u8 0))
    rw [hV6] at oV6
    have HV6 := Lib.hid (show (((w2.alloc (.cells #[.int .i64 e, .int .i64 1, .int .u8 0] 23)).setCell ⟨w.heap.size, 1, none⟩ (.int .i64 e)).setCell ⟨w.heap.size, 2, none⟩ (.int .i64 1)).setCell ⟨w.heap.size, 3, none⟩ (.int .u8 0) = V6 by rw [HW4.out]; exact hV6)
    clear hV6
    clear r5_s r5_m r5_r nW4 l5
    have f6_m0 : ((((w2.alloc (.cells #[.int .i64 e, .int .i64 1, .int .u8 0] 23)).setCell ⟨w.heap.size, 1, none⟩ (.int .i64 e)).setCell ⟨w.heap.size, 2, none⟩ (.int .i64 1)).setCell ⟨w.heap.size, 3, none⟩ (.int .u8 0)).cell? ⟨w.heap.size + 1, 0, none⟩ = some (.int .i64 kd) := by rw [HV6.out]; exact CB.cell mV6_m 0
    have f6_m1 : ((((w2.alloc (.cells #[.int .i64 e, .int .i64 1, .int .u8 0] 23)).setCell ⟨w.heap.size, 1, none⟩ (.int .i64 e)).setCell ⟨w.heap.size, 2, none⟩ (.int .i64 1)).setCell ⟨w.heap.size, 3, none⟩ (.int .u8 0)).cell? ⟨w.heap.size + 1, 1, none⟩ = some (.int .u8 fr) := by rw [HV6.out]; exact CB.cell mV6_m 1
    have f6_m2 : ((((w2.alloc (.cells #[.int .i64 e, .int .i64 1, .int .u8 0] 23)).setCell ⟨w.heap.size, 1, none⟩ (.int .i64 e)).setCell ⟨w.heap.size, 2, none⟩ (.int .i64 1)).setCell ⟨w.heap.size, 3, none⟩ (.int .u8 0)).cell? ⟨w.heap.size + 1, 2, none⟩ = some (.int .u8 t) := by rw [HV6.out]; exact CB.cell mV6_m 2
    have f6_m3 : ((((w2.alloc (.cells #[.int .i64 e, .int .i64 1, .int .u8 0] 23)).setCell ⟨w.heap.size, 1, none⟩ (.int .i64 e)).setCell ⟨w.heap.size, 2, none⟩ (.int .i64 1)).setCell ⟨w.heap.size, 3, none⟩ (.int .u8 0)).cell? ⟨w.heap.size + 1, 3, none⟩ = some (.int .i64 e) := by rw [HV6.out]; exact CB.cell mV6_m 3
    have f6_m4 : ((((w2.alloc (.cells #[.int .i64 e, .int .i64 1, .int .u8 0] 23)).setCell ⟨w.heap.size, 1, none⟩ (.int .i64 e)).setCell ⟨w.heap.size, 2, none⟩ (.int .i64 1)).setCell ⟨w.heap.size, 3, none⟩ (.int .u8 0)).cell? ⟨w.heap.size + 1, 4, none⟩ = some (.string mg) := by rw [HV6.out]; exact CB.cell mV6_m 4
    have f6_s0 : ((((w2.alloc (.cells #[.int .i64 e, .int .i64 1, .int .u8 0] 23)).setCell ⟨w.heap.size, 1, none⟩ (.int .i64 e)).setCell ⟨w.heap.size, 2, none⟩ (.int .i64 1)).setCell ⟨w.heap.size, 3, none⟩ (.int .u8 0)).cell? ⟨w.heap.size, 0, none⟩ = some (.int .u8 me) := by rw [HV6.out]; exact CB.cell nV6 0
    have z6_s0 : ((((w2.alloc (.cells #[.int .i64 e, .int .i64 1, .int .u8 0] 23)).setCell ⟨w.heap.size, 1, none⟩ (.int .i64 e)).setCell ⟨w.heap.size, 2, none⟩ (.int .i64 1)).setCell ⟨w.heap.size, 3, none⟩ (.int .u8 0)).frozen? ⟨w.heap.size, 0, none⟩ = false := by rw [HV6.out]; exact CB.frozen nV6 0
    have f6_s1 : ((((w2.alloc (.cells #[.int .i64 e, .int .i64 1, .int .u8 0] 23)).setCell ⟨w.heap.size, 1, none⟩ (.int .i64 e)).setCell ⟨w.heap.size, 2, none⟩ (.int .i64 1)).setCell ⟨w.heap.size, 3, none⟩ (.int .u8 0)).cell? ⟨w.heap.size, 1, none⟩ = some (.int .i64 e) := by rw [HV6.out]; exact CB.cell nV6 1
    have z6_s1 : ((((w2.alloc (.cells #[.int .i64 e, .int .i64 1, .int .u8 0] 23)).setCell ⟨w.heap.size, 1, none⟩ (.int .i64 e)).setCell ⟨w.heap.size, 2, none⟩ (.int .i64 1)).setCell ⟨w.heap.size, 3, none⟩ (.int .u8 0)).frozen? ⟨w.heap.size, 1, none⟩ = false := by rw [HV6.out]; exact CB.frozen nV6 1
    have f6_s2 : ((((w2.alloc (.cells #[.int .i64 e, .int .i64 1, .int .u8 0] 23)).setCell ⟨w.heap.size, 1, none⟩ (.int .i64 e)).setCell ⟨w.heap.size, 2, none⟩ (.int .i64 1)).setCell ⟨w.heap.size, 3, none⟩ (.int .u8 0)).cell? ⟨w.heap.size, 2, none⟩ = some (.int .i64 1) := by rw [HV6.out]; exact CB.cell nV6 2
    have z6_s2 : ((((w2.alloc (.cells #[.int .i64 e, .int .i64 1, .int .u8 0] 23)).setCell ⟨w.heap.size, 1, none⟩ (.int .i64 e)).setCell ⟨w.heap.size, 2, none⟩ (.int .i64 1)).setCell ⟨w.heap.size, 3, none⟩ (.int .u8 0)).frozen? ⟨w.heap.size, 2, none⟩ = false := by rw [HV6.out]; exact CB.frozen nV6 2
    have f6_s3 : ((((w2.alloc (.cells #[.int .i64 e, .int .i64 1, .int .u8 0] 23)).setCell ⟨w.heap.size, 1, none⟩ (.int .i64 e)).setCell ⟨w.heap.size, 2, none⟩ (.int .i64 1)).setCell ⟨w.heap.size, 3, none⟩ (.int .u8 0)).cell? ⟨w.heap.size, 3, none⟩ = some (.int .u8 0) := by rw [HV6.out]; exact CB.cell nV6 3
    have z6_s3 : ((((w2.alloc (.cells #[.int .i64 e, .int .i64 1, .int .u8 0] 23)).setCell ⟨w.heap.size, 1, none⟩ (.int .i64 e)).setCell ⟨w.heap.size, 2, none⟩ (.int .i64 1)).setCell ⟨w.heap.size, 3, none⟩ (.int .u8 0)).frozen? ⟨w.heap.size, 3, none⟩ = false := by rw [HV6.out]; exact CB.frozen nV6 3
    have f6_s4 : ((((w2.alloc (.cells #[.int .i64 e, .int .i64 1, .int .u8 0] 23)).setCell ⟨w.heap.size, 1, none⟩ (.int .i64 e)).setCell ⟨w.heap.size, 2, none⟩ (.int .i64 1)).setCell ⟨w.heap.size, 3, none⟩ (.int .u8 0)).cell? ⟨w.heap.size, 4, none⟩ = some (.string cg) := by rw [HV6.out]; exact CB.cell nV6 4
    have z6_s4 : ((((w2.alloc (.cells #[.int .i64 e, .int .i64 1, .int .u8 0] 23)).setCell ⟨w.heap.size, 1, none⟩ (.int .i64 e)).setCell ⟨w.heap.size, 2, none⟩ (.int .i64 1)).setCell ⟨w.heap.size, 3, none⟩ (.int .u8 0)).frozen? ⟨w.heap.size, 4, none⟩ = false := by rw [HV6.out]; exact CB.frozen nV6 4
    have f6_s5 : ((((w2.alloc (.cells #[.int .i64 e, .int .i64 1, .int .u8 0] 23)).setCell ⟨w.heap.size, 1, none⟩ (.int .i64 e)).setCell ⟨w.heap.size, 2, none⟩ (.int .i64 1)).setCell ⟨w.heap.size, 3, none⟩ (.int .u8 0)).cell? ⟨w.heap.size, 5, none⟩ = some (.bool kp) := by rw [HV6.out]; exact CB.cell nV6 5
    have z6_s5 : ((((w2.alloc (.cells #[.int .i64 e, .int .i64 1, .int .u8 0] 23)).setCell ⟨w.heap.size, 1, none⟩ (.int .i64 e)).setCell ⟨w.heap.size, 2, none⟩ (.int .i64 1)).setCell ⟨w.heap.size, 3, none⟩ (.int .u8 0)).frozen? ⟨w.heap.size, 5, none⟩ = false := by rw [HV6.out]; exact CB.frozen nV6 5
    obtain ⟨V7, hV7⟩ : ∃ V, (V6.setCell ⟨w.heap.size, 4, none⟩ (.string mg)).setCell ⟨w.heap.size, 5, none⟩ (.bool false) = V := ⟨_, rfl⟩
    have nV7 : CB V7 (w.heap.size) 25 #[.int .u8 me, .int .i64 e, .int .i64 1, .int .u8 0, .string mg, .bool false] := by rw [← hV7]; exact cb_cast (CB.put (CB.put nV6 4 (.string mg)) 5 (.bool false)) (by kernel_rfl)
    have mV7_m : CB V7 (w.heap.size + 1) 27 #[.int .i64 kd, .int .u8 fr, .int .u8 t, .int .i64 e, .string mg] := by rw [← hV7]; exact (CB.far (CB.far mV6_m (p := ⟨w.heap.size, 4, none⟩) (Ne.symm neW1_01) (.string mg)) (p := ⟨w.heap.size, 5, none⟩) (Ne.symm neW1_01) (.bool false))
    have mV7_r : CB V7 (w.heap.size + 1 + 1) 40 #[.int .u8 0, .int .i64 0, .int .i64 0, .int .u8 0, .string ⟨#[]⟩, .bool false, .slice none 0 0, .int .i64 0] := by rw [← hV7]; exact (CB.far (CB.far mV6_r (p := ⟨w.heap.size, 4, none⟩) (Ne.symm neW1_02) (.string mg)) (p := ⟨w.heap.size, 5, none⟩) (Ne.symm neW1_02) (.bool false))
    have mV7_g : CB V7 (w2.heap.size) 23 #[.int .i64 e, .int .i64 1, .int .u8 0] := by rw [← hV7]; exact (CB.far (CB.far mV6_g (p := ⟨w.heap.size, 4, none⟩) (Ne.symm neW4_s) (.string mg)) (p := ⟨w.heap.size, 5, none⟩) (Ne.symm neW4_s) (.bool false))
    have oV7 := (Below.setCell (Below.setCell oV6 (p := ⟨w.heap.size, 4, none⟩) (by dsimp only; omega) (.string mg)) (p := ⟨w.heap.size, 5, none⟩) (by dsimp only; omega) (.bool false))
    rw [hV7] at oV7
    have HV7 := Lib.hid (show (((((w2.alloc (.cells #[.int .i64 e, .int .i64 1, .int .u8 0] 23)).setCell ⟨w.heap.size, 1, none⟩ (.int .i64 e)).setCell ⟨w.heap.size, 2, none⟩ (.int .i64 1)).setCell ⟨w.heap.size, 3, none⟩ (.int .u8 0)).setCell ⟨w.heap.size, 4, none⟩ (.string mg)).setCell ⟨w.heap.size, 5, none⟩ (.bool false) = V7 by rw [HV6.out]; exact hV7)
    clear hV7
    clear nV6 mV6_m mV6_r mV6_g oV6
    have f7_s0 : ((((((w2.alloc (.cells #[.int .i64 e, .int .i64 1, .int .u8 0] 23)).setCell ⟨w.heap.size, 1, none⟩ (.int .i64 e)).setCell ⟨w.heap.size, 2, none⟩ (.int .i64 1)).setCell ⟨w.heap.size, 3, none⟩ (.int .u8 0)).setCell ⟨w.heap.size, 4, none⟩ (.string mg)).setCell ⟨w.heap.size, 5, none⟩ (.bool false)).cell? ⟨w.heap.size, 0, none⟩ = some (.int .u8 me) := by rw [HV7.out]; exact CB.cell nV7 0
    have f7_s1 : ((((((w2.alloc (.cells #[.int .i64 e, .int .i64 1, .int .u8 0] 23)).setCell ⟨w.heap.size, 1, none⟩ (.int .i64 e)).setCell ⟨w.heap.size, 2, none⟩ (.int .i64 1)).setCell ⟨w.heap.size, 3, none⟩ (.int .u8 0)).setCell ⟨w.heap.size, 4, none⟩ (.string mg)).setCell ⟨w.heap.size, 5, none⟩ (.bool false)).cell? ⟨w.heap.size, 1, none⟩ = some (.int .i64 e) := by rw [HV7.out]; exact CB.cell nV7 1
    have f7_s2 : ((((((w2.alloc (.cells #[.int .i64 e, .int .i64 1, .int .u8 0] 23)).setCell ⟨w.heap.size, 1, none⟩ (.int .i64 e)).setCell ⟨w.heap.size, 2, none⟩ (.int .i64 1)).setCell ⟨w.heap.size, 3, none⟩ (.int .u8 0)).setCell ⟨w.heap.size, 4, none⟩ (.string mg)).setCell ⟨w.heap.size, 5, none⟩ (.bool false)).cell? ⟨w.heap.size, 2, none⟩ = some (.int .i64 1) := by rw [HV7.out]; exact CB.cell nV7 2
    have f7_s3 : ((((((w2.alloc (.cells #[.int .i64 e, .int .i64 1, .int .u8 0] 23)).setCell ⟨w.heap.size, 1, none⟩ (.int .i64 e)).setCell ⟨w.heap.size, 2, none⟩ (.int .i64 1)).setCell ⟨w.heap.size, 3, none⟩ (.int .u8 0)).setCell ⟨w.heap.size, 4, none⟩ (.string mg)).setCell ⟨w.heap.size, 5, none⟩ (.bool false)).cell? ⟨w.heap.size, 3, none⟩ = some (.int .u8 0) := by rw [HV7.out]; exact CB.cell nV7 3
    have f7_s4 : ((((((w2.alloc (.cells #[.int .i64 e, .int .i64 1, .int .u8 0] 23)).setCell ⟨w.heap.size, 1, none⟩ (.int .i64 e)).setCell ⟨w.heap.size, 2, none⟩ (.int .i64 1)).setCell ⟨w.heap.size, 3, none⟩ (.int .u8 0)).setCell ⟨w.heap.size, 4, none⟩ (.string mg)).setCell ⟨w.heap.size, 5, none⟩ (.bool false)).cell? ⟨w.heap.size, 4, none⟩ = some (.string mg) := by rw [HV7.out]; exact CB.cell nV7 4
    have f7_s5 : ((((((w2.alloc (.cells #[.int .i64 e, .int .i64 1, .int .u8 0] 23)).setCell ⟨w.heap.size, 1, none⟩ (.int .i64 e)).setCell ⟨w.heap.size, 2, none⟩ (.int .i64 1)).setCell ⟨w.heap.size, 3, none⟩ (.int .u8 0)).setCell ⟨w.heap.size, 4, none⟩ (.string mg)).setCell ⟨w.heap.size, 5, none⟩ (.bool false)).cell? ⟨w.heap.size, 5, none⟩ = some (.bool false) := by rw [HV7.out]; exact CB.cell nV7 5
    have f7_m0 : ((((((w2.alloc (.cells #[.int .i64 e, .int .i64 1, .int .u8 0] 23)).setCell ⟨w.heap.size, 1, none⟩ (.int .i64 e)).setCell ⟨w.heap.size, 2, none⟩ (.int .i64 1)).setCell ⟨w.heap.size, 3, none⟩ (.int .u8 0)).setCell ⟨w.heap.size, 4, none⟩ (.string mg)).setCell ⟨w.heap.size, 5, none⟩ (.bool false)).cell? ⟨w.heap.size + 1, 0, none⟩ = some (.int .i64 kd) := by rw [HV7.out]; exact CB.cell mV7_m 0
    have f7_m1 : ((((((w2.alloc (.cells #[.int .i64 e, .int .i64 1, .int .u8 0] 23)).setCell ⟨w.heap.size, 1, none⟩ (.int .i64 e)).setCell ⟨w.heap.size, 2, none⟩ (.int .i64 1)).setCell ⟨w.heap.size, 3, none⟩ (.int .u8 0)).setCell ⟨w.heap.size, 4, none⟩ (.string mg)).setCell ⟨w.heap.size, 5, none⟩ (.bool false)).cell? ⟨w.heap.size + 1, 1, none⟩ = some (.int .u8 fr) := by rw [HV7.out]; exact CB.cell mV7_m 1
    have f7_m2 : ((((((w2.alloc (.cells #[.int .i64 e, .int .i64 1, .int .u8 0] 23)).setCell ⟨w.heap.size, 1, none⟩ (.int .i64 e)).setCell ⟨w.heap.size, 2, none⟩ (.int .i64 1)).setCell ⟨w.heap.size, 3, none⟩ (.int .u8 0)).setCell ⟨w.heap.size, 4, none⟩ (.string mg)).setCell ⟨w.heap.size, 5, none⟩ (.bool false)).cell? ⟨w.heap.size + 1, 2, none⟩ = some (.int .u8 t) := by rw [HV7.out]; exact CB.cell mV7_m 2
    have f7_m3 : ((((((w2.alloc (.cells #[.int .i64 e, .int .i64 1, .int .u8 0] 23)).setCell ⟨w.heap.size, 1, none⟩ (.int .i64 e)).setCell ⟨w.heap.size, 2, none⟩ (.int .i64 1)).setCell ⟨w.heap.size, 3, none⟩ (.int .u8 0)).setCell ⟨w.heap.size, 4, none⟩ (.string mg)).setCell ⟨w.heap.size, 5, none⟩ (.bool false)).cell? ⟨w.heap.size + 1, 3, none⟩ = some (.int .i64 e) := by rw [HV7.out]; exact CB.cell mV7_m 3
    have f7_m4 : ((((((w2.alloc (.cells #[.int .i64 e, .int .i64 1, .int .u8 0] 23)).setCell ⟨w.heap.size, 1, none⟩ (.int .i64 e)).setCell ⟨w.heap.size, 2, none⟩ (.int .i64 1)).setCell ⟨w.heap.size, 3, none⟩ (.int .u8 0)).setCell ⟨w.heap.size, 4, none⟩ (.string mg)).setCell ⟨w.heap.size, 5, none⟩ (.bool false)).cell? ⟨w.heap.size + 1, 4, none⟩ = some (.string mg) := by rw [HV7.out]; exact CB.cell mV7_m 4
    have av_z : w.heap.size ≤ V7.heap.size := by have := oV7.size; omega
    obtain ⟨W8, hW8⟩ : ∃ V, V7.alloc (.cells #[.int .i64 4, .int .u8 me, .int .u8 fr, .int .i64 e, .string ⟨#[]⟩] 27) = V := ⟨_, rfl⟩
    have zW8 : V7.heap.size = w2.heap.size + 1 := by rw [← HV7.out]; simp
    have nW8 : CB W8 (w2.heap.size + 1) 27 #[.int .i64 4, .int .u8 me, .int .u8 fr, .int .i64 e, .string ⟨#[]⟩] := by rw [← zW8, ← hW8]; exact CB.new _ _ _
    have bW8 : Below V7.heap.size V7 W8 := by rw [← hW8]; exact le_al _ _
    have neW8_s : w.heap.size ≠ w2.heap.size + 1 := by have := CB.lt nV7; omega
    have neW8_m : w.heap.size + 1 ≠ w2.heap.size + 1 := by have := CB.lt mV7_m; omega
    have neW8_r : w.heap.size + 1 + 1 ≠ w2.heap.size + 1 := by have := CB.lt mV7_r; omega
    have neW8_g : w2.heap.size ≠ w2.heap.size + 1 := by have := CB.lt mV7_g; omega
    have HW8 := Lib.hid (show ((((((w2.alloc (.cells #[.int .i64 e, .int .i64 1, .int .u8 0] 23)).setCell ⟨w.heap.size, 1, none⟩ (.int .i64 e)).setCell ⟨w.heap.size, 2, none⟩ (.int .i64 1)).setCell ⟨w.heap.size, 3, none⟩ (.int .u8 0)).setCell ⟨w.heap.size, 4, none⟩ (.string mg)).setCell ⟨w.heap.size, 5, none⟩ (.bool false)).alloc (.cells #[.int .i64 4, .int .u8 me, .int .u8 fr, .int .i64 e, .string ⟨#[]⟩] 27) = W8 by rw [HV7.out]; exact hW8)
    clear hW8 zW8
    have r9_s := le_on nV7 bW8
    have r9_m := le_on mV7_m bW8
    have r9_r := le_on mV7_r bW8
    have r9_g := le_on mV7_g bW8
    have l9 := le_tr oV7 bW8
    clear nV7 mV7_m mV7_r mV7_g oV7
    clear bW8
    have av_z : w.heap.size ≤ w2.heap.size + 1 := by have := av_z; omega
    have f9_s0 : (((((((w2.alloc (.cells #[.int .i64 e, .int .i64 1, .int .u8 0] 23)).setCell ⟨w.heap.size, 1, none⟩ (.int .i64 e)).setCell ⟨w.heap.size, 2, none⟩ (.int .i64 1)).setCell ⟨w.heap.size, 3, none⟩ (.int .u8 0)).setCell ⟨w.heap.size, 4, none⟩ (.string mg)).setCell ⟨w.heap.size, 5, none⟩ (.bool false)).alloc (.cells #[.int .i64 4, .int .u8 me, .int .u8 fr, .int .i64 e, .string ⟨#[]⟩] 27)).cell? ⟨w.heap.size, 0, none⟩ = some (.int .u8 me) := by rw [HW8.out]; exact CB.cell r9_s 0
    have f9_s1 : (((((((w2.alloc (.cells #[.int .i64 e, .int .i64 1, .int .u8 0] 23)).setCell ⟨w.heap.size, 1, none⟩ (.int .i64 e)).setCell ⟨w.heap.size, 2, none⟩ (.int .i64 1)).setCell ⟨w.heap.size, 3, none⟩ (.int .u8 0)).setCell ⟨w.heap.size, 4, none⟩ (.string mg)).setCell ⟨w.heap.size, 5, none⟩ (.bool false)).alloc (.cells #[.int .i64 4, .int .u8 me, .int .u8 fr, .int .i64 e, .string ⟨#[]⟩] 27)).cell? ⟨w.heap.size, 1, none⟩ = some (.int .i64 e) := by rw [HW8.out]; exact CB.cell r9_s 1
    have f9_s2 : (((((((w2.alloc (.cells #[.int .i64 e, .int .i64 1, .int .u8 0] 23)).setCell ⟨w.heap.size, 1, none⟩ (.int .i64 e)).setCell ⟨w.heap.size, 2, none⟩ (.int .i64 1)).setCell ⟨w.heap.size, 3, none⟩ (.int .u8 0)).setCell ⟨w.heap.size, 4, none⟩ (.string mg)).setCell ⟨w.heap.size, 5, none⟩ (.bool false)).alloc (.cells #[.int .i64 4, .int .u8 me, .int .u8 fr, .int .i64 e, .string ⟨#[]⟩] 27)).cell? ⟨w.heap.size, 2, none⟩ = some (.int .i64 1) := by rw [HW8.out]; exact CB.cell r9_s 2
    have f9_s3 : (((((((w2.alloc (.cells #[.int .i64 e, .int .i64 1, .int .u8 0] 23)).setCell ⟨w.heap.size, 1, none⟩ (.int .i64 e)).setCell ⟨w.heap.size, 2, none⟩ (.int .i64 1)).setCell ⟨w.heap.size, 3, none⟩ (.int .u8 0)).setCell ⟨w.heap.size, 4, none⟩ (.string mg)).setCell ⟨w.heap.size, 5, none⟩ (.bool false)).alloc (.cells #[.int .i64 4, .int .u8 me, .int .u8 fr, .int .i64 e, .string ⟨#[]⟩] 27)).cell? ⟨w.heap.size, 3, none⟩ = some (.int .u8 0) := by rw [HW8.out]; exact CB.cell r9_s 3
    have f9_s4 : (((((((w2.alloc (.cells #[.int .i64 e, .int .i64 1, .int .u8 0] 23)).setCell ⟨w.heap.size, 1, none⟩ (.int .i64 e)).setCell ⟨w.heap.size, 2, none⟩ (.int .i64 1)).setCell ⟨w.heap.size, 3, none⟩ (.int .u8 0)).setCell ⟨w.heap.size, 4, none⟩ (.string mg)).setCell ⟨w.heap.size, 5, none⟩ (.bool false)).alloc (.cells #[.int .i64 4, .int .u8 me, .int .u8 fr, .int .i64 e, .string ⟨#[]⟩] 27)).cell? ⟨w.heap.size, 4, none⟩ = some (.string mg) := by rw [HW8.out]; exact CB.cell r9_s 4
    have f9_s5 : (((((((w2.alloc (.cells #[.int .i64 e, .int .i64 1, .int .u8 0] 23)).setCell ⟨w.heap.size, 1, none⟩ (.int .i64 e)).setCell ⟨w.heap.size, 2, none⟩ (.int .i64 1)).setCell ⟨w.heap.size, 3, none⟩ (.int .u8 0)).setCell ⟨w.heap.size, 4, none⟩ (.string mg)).setCell ⟨w.heap.size, 5, none⟩ (.bool false)).alloc (.cells #[.int .i64 4, .int .u8 me, .int .u8 fr, .int .i64 e, .string ⟨#[]⟩] 27)).cell? ⟨w.heap.size, 5, none⟩ = some (.bool false) := by rw [HW8.out]; exact CB.cell r9_s 5
    have f9_m0 : (((((((w2.alloc (.cells #[.int .i64 e, .int .i64 1, .int .u8 0] 23)).setCell ⟨w.heap.size, 1, none⟩ (.int .i64 e)).setCell ⟨w.heap.size, 2, none⟩ (.int .i64 1)).setCell ⟨w.heap.size, 3, none⟩ (.int .u8 0)).setCell ⟨w.heap.size, 4, none⟩ (.string mg)).setCell ⟨w.heap.size, 5, none⟩ (.bool false)).alloc (.cells #[.int .i64 4, .int .u8 me, .int .u8 fr, .int .i64 e, .string ⟨#[]⟩] 27)).cell? ⟨w.heap.size + 1, 0, none⟩ = some (.int .i64 kd) := by rw [HW8.out]; exact CB.cell r9_m 0
    have f9_m1 : (((((((w2.alloc (.cells #[.int .i64 e, .int .i64 1, .int .u8 0] 23)).setCell ⟨w.heap.size, 1, none⟩ (.int .i64 e)).setCell ⟨w.heap.size, 2, none⟩ (.int .i64 1)).setCell ⟨w.heap.size, 3, none⟩ (.int .u8 0)).setCell ⟨w.heap.size, 4, none⟩ (.string mg)).setCell ⟨w.heap.size, 5, none⟩ (.bool false)).alloc (.cells #[.int .i64 4, .int .u8 me, .int .u8 fr, .int .i64 e, .string ⟨#[]⟩] 27)).cell? ⟨w.heap.size + 1, 1, none⟩ = some (.int .u8 fr) := by rw [HW8.out]; exact CB.cell r9_m 1
    have f9_m2 : (((((((w2.alloc (.cells #[.int .i64 e, .int .i64 1, .int .u8 0] 23)).setCell ⟨w.heap.size, 1, none⟩ (.int .i64 e)).setCell ⟨w.heap.size, 2, none⟩ (.int .i64 1)).setCell ⟨w.heap.size, 3, none⟩ (.int .u8 0)).setCell ⟨w.heap.size, 4, none⟩ (.string mg)).setCell ⟨w.heap.size, 5, none⟩ (.bool false)).alloc (.cells #[.int .i64 4, .int .u8 me, .int .u8 fr, .int .i64 e, .string ⟨#[]⟩] 27)).cell? ⟨w.heap.size + 1, 2, none⟩ = some (.int .u8 t) := by rw [HW8.out]; exact CB.cell r9_m 2
    have f9_m3 : (((((((w2.alloc (.cells #[.int .i64 e, .int .i64 1, .int .u8 0] 23)).setCell ⟨w.heap.size, 1, none⟩ (.int .i64 e)).setCell ⟨w.heap.size, 2, none⟩ (.int .i64 1)).setCell ⟨w.heap.size, 3, none⟩ (.int .u8 0)).setCell ⟨w.heap.size, 4, none⟩ (.string mg)).setCell ⟨w.heap.size, 5, none⟩ (.bool false)).alloc (.cells #[.int .i64 4, .int .u8 me, .int .u8 fr, .int .i64 e, .string ⟨#[]⟩] 27)).cell? ⟨w.heap.size + 1, 3, none⟩ = some (.int .i64 e) := by rw [HW8.out]; exact CB.cell r9_m 3
    have f9_m4 : (((((((w2.alloc (.cells #[.int .i64 e, .int .i64 1, .int .u8 0] 23)).setCell ⟨w.heap.size, 1, none⟩ (.int .i64 e)).setCell ⟨w.heap.size, 2, none⟩ (.int .i64 1)).setCell ⟨w.heap.size, 3, none⟩ (.int .u8 0)).setCell ⟨w.heap.size, 4, none⟩ (.string mg)).setCell ⟨w.heap.size, 5, none⟩ (.bool false)).alloc (.cells #[.int .i64 4, .int .u8 me, .int .u8 fr, .int .i64 e, .string ⟨#[]⟩] 27)).cell? ⟨w.heap.size + 1, 4, none⟩ = some (.string mg) := by rw [HW8.out]; exact CB.cell r9_m 4
    have f9_r0 : (((((((w2.alloc (.cells #[.int .i64 e, .int .i64 1, .int .u8 0] 23)).setCell ⟨w.heap.size, 1, none⟩ (.int .i64 e)).setCell ⟨w.heap.size, 2, none⟩ (.int .i64 1)).setCell ⟨w.heap.size, 3, none⟩ (.int .u8 0)).setCell ⟨w.heap.size, 4, none⟩ (.string mg)).setCell ⟨w.heap.size, 5, none⟩ (.bool false)).alloc (.cells #[.int .i64 4, .int .u8 me, .int .u8 fr, .int .i64 e, .string ⟨#[]⟩] 27)).cell? ⟨w.heap.size + 1 + 1, 0, none⟩ = some (.int .u8 0) := by rw [HW8.out]; exact CB.cell r9_r 0
    have z9_r0 : (((((((w2.alloc (.cells #[.int .i64 e, .int .i64 1, .int .u8 0] 23)).setCell ⟨w.heap.size, 1, none⟩ (.int .i64 e)).setCell ⟨w.heap.size, 2, none⟩ (.int .i64 1)).setCell ⟨w.heap.size, 3, none⟩ (.int .u8 0)).setCell ⟨w.heap.size, 4, none⟩ (.string mg)).setCell ⟨w.heap.size, 5, none⟩ (.bool false)).alloc (.cells #[.int .i64 4, .int .u8 me, .int .u8 fr, .int .i64 e, .string ⟨#[]⟩] 27)).frozen? ⟨w.heap.size + 1 + 1, 0, none⟩ = false := by rw [HW8.out]; exact CB.frozen r9_r 0
    have f9_r1 : (((((((w2.alloc (.cells #[.int .i64 e, .int .i64 1, .int .u8 0] 23)).setCell ⟨w.heap.size, 1, none⟩ (.int .i64 e)).setCell ⟨w.heap.size, 2, none⟩ (.int .i64 1)).setCell ⟨w.heap.size, 3, none⟩ (.int .u8 0)).setCell ⟨w.heap.size, 4, none⟩ (.string mg)).setCell ⟨w.heap.size, 5, none⟩ (.bool false)).alloc (.cells #[.int .i64 4, .int .u8 me, .int .u8 fr, .int .i64 e, .string ⟨#[]⟩] 27)).cell? ⟨w.heap.size + 1 + 1, 1, none⟩ = some (.int .i64 0) := by rw [HW8.out]; exact CB.cell r9_r 1
    have z9_r1 : (((((((w2.alloc (.cells #[.int .i64 e, .int .i64 1, .int .u8 0] 23)).setCell ⟨w.heap.size, 1, none⟩ (.int .i64 e)).setCell ⟨w.heap.size, 2, none⟩ (.int .i64 1)).setCell ⟨w.heap.size, 3, none⟩ (.int .u8 0)).setCell ⟨w.heap.size, 4, none⟩ (.string mg)).setCell ⟨w.heap.size, 5, none⟩ (.bool false)).alloc (.cells #[.int .i64 4, .int .u8 me, .int .u8 fr, .int .i64 e, .string ⟨#[]⟩] 27)).frozen? ⟨w.heap.size + 1 + 1, 1, none⟩ = false := by rw [HW8.out]; exact CB.frozen r9_r 1
    have f9_r2 : (((((((w2.alloc (.cells #[.int .i64 e, .int .i64 1, .int .u8 0] 23)).setCell ⟨w.heap.size, 1, none⟩ (.int .i64 e)).setCell ⟨w.heap.size, 2, none⟩ (.int .i64 1)).setCell ⟨w.heap.size, 3, none⟩ (.int .u8 0)).setCell ⟨w.heap.size, 4, none⟩ (.string mg)).setCell ⟨w.heap.size, 5, none⟩ (.bool false)).alloc (.cells #[.int .i64 4, .int .u8 me, .int .u8 fr, .int .i64 e, .string ⟨#[]⟩] 27)).cell? ⟨w.heap.size + 1 + 1, 2, none⟩ = some (.int .i64 0) := by rw [HW8.out]; exact CB.cell r9_r 2
    have z9_r2 : (((((((w2.alloc (.cells #[.int .i64 e, .int .i64 1, .int .u8 0] 23)).setCell ⟨w.heap.size, 1, none⟩ (.int .i64 e)).setCell ⟨w.heap.size, 2, none⟩ (.int .i64 1)).setCell ⟨w.heap.size, 3, none⟩ (.int .u8 0)).setCell ⟨w.heap.size, 4, none⟩ (.string mg)).setCell ⟨w.heap.size, 5, none⟩ (.bool false)).alloc (.cells #[.int .i64 4, .int .u8 me, .int .u8 fr, .int .i64 e, .string ⟨#[]⟩] 27)).frozen? ⟨w.heap.size + 1 + 1, 2, none⟩ = false := by rw [HW8.out]; exact CB.frozen r9_r 2
    have f9_r3 : (((((((w2.alloc (.cells #[.int .i64 e, .int .i64 1, .int .u8 0] 23)).setCell ⟨w.heap.size, 1, none⟩ (.int .i64 e)).setCell ⟨w.heap.size, 2, none⟩ (.int .i64 1)).setCell ⟨w.heap.size, 3, none⟩ (.int .u8 0)).setCell ⟨w.heap.size, 4, none⟩ (.string mg)).setCell ⟨w.heap.size, 5, none⟩ (.bool false)).alloc (.cells #[.int .i64 4, .int .u8 me, .int .u8 fr, .int .i64 e, .string ⟨#[]⟩] 27)).cell? ⟨w.heap.size + 1 + 1, 3, none⟩ = some (.int .u8 0) := by rw [HW8.out]; exact CB.cell r9_r 3
    have z9_r3 : (((((((w2.alloc (.cells #[.int .i64 e, .int .i64 1, .int .u8 0] 23)).setCell ⟨w.heap.size, 1, none⟩ (.int .i64 e)).setCell ⟨w.heap.size, 2, none⟩ (.int .i64 1)).setCell ⟨w.heap.size, 3, none⟩ (.int .u8 0)).setCell ⟨w.heap.size, 4, none⟩ (.string mg)).setCell ⟨w.heap.size, 5, none⟩ (.bool false)).alloc (.cells #[.int .i64 4, .int .u8 me, .int .u8 fr, .int .i64 e, .string ⟨#[]⟩] 27)).frozen? ⟨w.heap.size + 1 + 1, 3, none⟩ = false := by rw [HW8.out]; exact CB.frozen r9_r 3
    have f9_r4 : (((((((w2.alloc (.cells #[.int .i64 e, .int .i64 1, .int .u8 0] 23)).setCell ⟨w.heap.size, 1, none⟩ (.int .i64 e)).setCell ⟨w.heap.size, 2, none⟩ (.int .i64 1)).setCell ⟨w.heap.size, 3, none⟩ (.int .u8 0)).setCell ⟨w.heap.size, 4, none⟩ (.string mg)).setCell ⟨w.heap.size, 5, none⟩ (.bool false)).alloc (.cells #[.int .i64 4, .int .u8 me, .int .u8 fr, .int .i64 e, .string ⟨#[]⟩] 27)).cell? ⟨w.heap.size + 1 + 1, 4, none⟩ = some (.string ⟨#[]⟩) := by rw [HW8.out]; exact CB.cell r9_r 4
    have z9_r4 : (((((((w2.alloc (.cells #[.int .i64 e, .int .i64 1, .int .u8 0] 23)).setCell ⟨w.heap.size, 1, none⟩ (.int .i64 e)).setCell ⟨w.heap.size, 2, none⟩ (.int .i64 1)).setCell ⟨w.heap.size, 3, none⟩ (.int .u8 0)).setCell ⟨w.heap.size, 4, none⟩ (.string mg)).setCell ⟨w.heap.size, 5, none⟩ (.bool false)).alloc (.cells #[.int .i64 4, .int .u8 me, .int .u8 fr, .int .i64 e, .string ⟨#[]⟩] 27)).frozen? ⟨w.heap.size + 1 + 1, 4, none⟩ = false := by rw [HW8.out]; exact CB.frozen r9_r 4
    have f9_r5 : (((((((w2.alloc (.cells #[.int .i64 e, .int .i64 1, .int .u8 0] 23)).setCell ⟨w.heap.size, 1, none⟩ (.int .i64 e)).setCell ⟨w.heap.size, 2, none⟩ (.int .i64 1)).setCell ⟨w.heap.size, 3, none⟩ (.int .u8 0)).setCell ⟨w.heap.size, 4, none⟩ (.string mg)).setCell ⟨w.heap.size, 5, none⟩ (.bool false)).alloc (.cells #[.int .i64 4, .int .u8 me, .int .u8 fr, .int .i64 e, .string ⟨#[]⟩] 27)).cell? ⟨w.heap.size + 1 + 1, 5, none⟩ = some (.bool false) := by rw [HW8.out]; exact CB.cell r9_r 5
    have z9_r5 : (((((((w2.alloc (.cells #[.int .i64 e, .int .i64 1, .int .u8 0] 23)).setCell ⟨w.heap.size, 1, none⟩ (.int .i64 e)).setCell ⟨w.heap.size, 2, none⟩ (.int .i64 1)).setCell ⟨w.heap.size, 3, none⟩ (.int .u8 0)).setCell ⟨w.heap.size, 4, none⟩ (.string mg)).setCell ⟨w.heap.size, 5, none⟩ (.bool false)).alloc (.cells #[.int .i64 4, .int .u8 me, .int .u8 fr, .int .i64 e, .string ⟨#[]⟩] 27)).frozen? ⟨w.heap.size + 1 + 1, 5, none⟩ = false := by rw [HW8.out]; exact CB.frozen r9_r 5
    have f9_r6 : (((((((w2.alloc (.cells #[.int .i64 e, .int .i64 1, .int .u8 0] 23)).setCell ⟨w.heap.size, 1, none⟩ (.int .i64 e)).setCell ⟨w.heap.size, 2, none⟩ (.int .i64 1)).setCell ⟨w.heap.size, 3, none⟩ (.int .u8 0)).setCell ⟨w.heap.size, 4, none⟩ (.string mg)).setCell ⟨w.heap.size, 5, none⟩ (.bool false)).alloc (.cells #[.int .i64 4, .int .u8 me, .int .u8 fr, .int .i64 e, .string ⟨#[]⟩] 27)).cell? ⟨w.heap.size + 1 + 1, 6, none⟩ = some (.slice none 0 0) := by rw [HW8.out]; exact CB.cell r9_r 6
    have z9_r6 : (((((((w2.alloc (.cells #[.int .i64 e, .int .i64 1, .int .u8 0] 23)).setCell ⟨w.heap.size, 1, none⟩ (.int .i64 e)).setCell ⟨w.heap.size, 2, none⟩ (.int .i64 1)).setCell ⟨w.heap.size, 3, none⟩ (.int .u8 0)).setCell ⟨w.heap.size, 4, none⟩ (.string mg)).setCell ⟨w.heap.size, 5, none⟩ (.bool false)).alloc (.cells #[.int .i64 4, .int .u8 me, .int .u8 fr, .int .i64 e, .string ⟨#[]⟩] 27)).frozen? ⟨w.heap.size + 1 + 1, 6, none⟩ = false := by rw [HW8.out]; exact CB.frozen r9_r 6
    have f9_r7 : (((((((w2.alloc (.cells #[.int .i64 e, .int .i64 1, .int .u8 0] 23)).setCell ⟨w.heap.size, 1, none⟩ (.int .i64 e)).setCell ⟨w.heap.size, 2, none⟩ (.int .i64 1)).setCell ⟨w.heap.size, 3, none⟩ (.int .u8 0)).setCell ⟨w.heap.size, 4, none⟩ (.string mg)).setCell ⟨w.heap.size, 5, none⟩ (.bool false)).alloc (.cells #[.int .i64 4, .int .u8 me, .int .u8 fr, .int .i64 e, .string ⟨#[]⟩] 27)).cell? ⟨w.heap.size + 1 + 1, 7, none⟩ = some (.int .i64 0) := by rw [HW8.out]; exact CB.cell r9_r 7
    have z9_r7 : (((((((w2.alloc (.cells #[.int .i64 e, .int .i64 1, .int .u8 0] 23)).setCell ⟨w.heap.size, 1, none⟩ (.int .i64 e)).setCell ⟨w.heap.size, 2, none⟩ (.int .i64 1)).setCell ⟨w.heap.size, 3, none⟩ (.int .u8 0)).setCell ⟨w.heap.size, 4, none⟩ (.string mg)).setCell ⟨w.heap.size, 5, none⟩ (.bool false)).alloc (.cells #[.int .i64 4, .int .u8 me, .int .u8 fr, .int .i64 e, .string ⟨#[]⟩] 27)).frozen? ⟨w.heap.size + 1 + 1, 7, none⟩ = false := by rw [HW8.out]; exact CB.frozen r9_r 7
    obtain ⟨V10, hV10⟩ : ∃ V, (((((((W8.setCell ⟨w.heap.size + 1 + 1, 0, none⟩ (.int .u8 me)).setCell ⟨w.heap.size + 1 + 1, 1, none⟩ (.int .i64 e)).setCell ⟨w.heap.size + 1 + 1, 2, none⟩ (.int .i64 1)).setCell ⟨w.heap.size + 1 + 1, 3, none⟩ (.int .u8 0)).setCell ⟨w.heap.size + 1 + 1, 4, none⟩ (.string mg)).setCell ⟨w.heap.size + 1 + 1, 5, none⟩ (.bool false)).setCell ⟨w.heap.size + 1 + 1, 6, none⟩ (.slice (some ⟨w2.heap.size + 1, 0, none⟩) 1 1)).setCell ⟨w.heap.size + 1 + 1, 7, none⟩ (.int .i64 0) = V := ⟨_, rfl⟩
    have nV10 : CB V10 (w.heap.size + 1 + 1) 40 #[.int .u8 me, .int .i64 e, .int .i64 1, .int .u8 0, .string mg, .bool false, .slice (some ⟨w2.heap.size + 1, 0, none⟩) 1 1, .int .i64 0] := by rw [← hV10]; exact cb_cast (CB.put (CB.put (CB.put (CB.put (CB.put (CB.put (CB.put (CB.put r9_r 0 (.int .u8 me)) 1 (.int .i64 e)) 2 (.int .i64 1)) 3 (.int .u8 0)) 4 (.string mg)) 5 (.bool false)) 6 (.slice (some ⟨w2.heap.size + 1, 0, none⟩) 1 1)) 7 (.int .i64 0)) (by kernel_rfl)
    have mV10_s : CB V10 (w.heap.size) 25 #[.int .u8 me, .int .i64 e, .int .i64 1, .int .u8 0, .string mg, .bool false] := by rw [← hV10]; exact (CB.far (CB.far (CB.far (CB.far (CB.far (CB.far (CB.far (CB.far r9_s (p := ⟨w.heap.size + 1 + 1, 0, none⟩) neW1_02 (.int .u8 me)) (p := ⟨w.heap.size + 1 + 1, 1, none⟩) neW1_02 (.int .i64 e)) (p := ⟨w.heap.size + 1 + 1, 2, none⟩) neW1_02 (.int .i64 1)) (p := ⟨w.heap.size + 1 + 1, 3, none⟩) neW1_02 (.int .u8 0)) (p := ⟨w.heap.size + 1 + 1, 4, none⟩) neW1_02 (.string mg)) (p := ⟨w.heap.size + 1 + 1, 5, none⟩) neW1_02 (.bool false)) (p := ⟨w.heap.size + 1 + 1, 6, none⟩) neW1_02 (.slice (some ⟨w2.heap.size + 1, 0, none⟩) 1 1)) (p := ⟨w.heap.size + 1 + 1, 7, none⟩) neW1_02 (.int .i64 0))
    have mV10_m : CB V10 (w.heap.size + 1) 27 #[.int .i64 kd, .int .u8 fr, .int .u8 t, .int .i64 e, .string mg] := by rw [← hV10]; exact (CB.far (CB.far (CB.far (CB.far (CB.far (CB.far (CB.far (CB.far r9_m (p := ⟨w.heap.size + 1 + 1, 0, none⟩) neW1_12 (.int .u8 me)) (p := ⟨w.heap.size + 1 + 1, 1, none⟩) neW1_12 (.int .i64 e)) (p := ⟨w.heap.size + 1 + 1, 2, none⟩) neW1_12 (.int .i64 1)) (p := ⟨w.heap.size + 1 + 1, 3, none⟩) neW1_12 (.int .u8 0)) (p := ⟨w.heap.size + 1 + 1, 4, none⟩) neW1_12 (.string mg)) (p := ⟨w.heap.size + 1 + 1, 5, none⟩) neW1_12 (.bool false)) (p := ⟨w.heap.size + 1 + 1, 6, none⟩) neW1_12 (.slice (some ⟨w2.heap.size + 1, 0, none⟩) 1 1)) (p := ⟨w.heap.size + 1 + 1, 7, none⟩) neW1_12 (.int .i64 0))
    have mV10_g : CB V10 (w2.heap.size) 23 #[.int .i64 e, .int .i64 1, .int .u8 0] := by rw [← hV10]; exact (CB.far (CB.far (CB.far (CB.far (CB.far (CB.far (CB.far (CB.far r9_g (p := ⟨w.heap.size + 1 + 1, 0, none⟩) (Ne.symm neW4_r) (.int .u8 me)) (p := ⟨w.heap.size + 1 + 1, 1, none⟩) (Ne.symm neW4_r) (.int .i64 e)) (p := ⟨w.heap.size + 1 + 1, 2, none⟩) (Ne.symm neW4_r) (.int .i64 1)) (p := ⟨w.heap.size + 1 + 1, 3, none⟩) (Ne.symm neW4_r) (.int .u8 0)) (p := ⟨w.heap.size + 1 + 1, 4, none⟩) (Ne.symm neW4_r) (.string mg)) (p := ⟨w.heap.size + 1 + 1, 5, none⟩) (Ne.symm neW4_r) (.bool false)) (p := ⟨w.heap.size + 1 + 1, 6, none⟩) (Ne.symm neW4_r) (.slice (some ⟨w2.heap.size + 1, 0, none⟩) 1 1)) (p := ⟨w.heap.size + 1 + 1, 7, none⟩) (Ne.symm neW4_r) (.int .i64 0))
    have mV10_z : CB V10 (w2.heap.size + 1) 27 #[.int .i64 4, .int .u8 me, .int .u8 fr, .int .i64 e, .string ⟨#[]⟩] := by rw [← hV10]; exact (CB.far (CB.far (CB.far (CB.far (CB.far (CB.far (CB.far (CB.far nW8 (p := ⟨w.heap.size + 1 + 1, 0, none⟩) (Ne.symm neW8_r) (.int .u8 me)) (p := ⟨w.heap.size + 1 + 1, 1, none⟩) (Ne.symm neW8_r) (.int .i64 e)) (p := ⟨w.heap.size + 1 + 1, 2, none⟩) (Ne.symm neW8_r) (.int .i64 1)) (p := ⟨w.heap.size + 1 + 1, 3, none⟩) (Ne.symm neW8_r) (.int .u8 0)) (p := ⟨w.heap.size + 1 + 1, 4, none⟩) (Ne.symm neW8_r) (.string mg)) (p := ⟨w.heap.size + 1 + 1, 5, none⟩) (Ne.symm neW8_r) (.bool false)) (p := ⟨w.heap.size + 1 + 1, 6, none⟩) (Ne.symm neW8_r) (.slice (some ⟨w2.heap.size + 1, 0, none⟩) 1 1)) (p := ⟨w.heap.size + 1 + 1, 7, none⟩) (Ne.symm neW8_r) (.int .i64 0))
    have oV10 := (Below.setCell (Below.setCell (Below.setCell (Below.setCell (Below.setCell (Below.setCell (Below.setCell (Below.setCell l9 (p := ⟨w.heap.size + 1 + 1, 0, none⟩) (by dsimp only; omega) (.int .u8 me)) (p := ⟨w.heap.size + 1 + 1, 1, none⟩) (by dsimp only; omega) (.int .i64 e)) (p := ⟨w.heap.size + 1 + 1, 2, none⟩) (by dsimp only; omega) (.int .i64 1)) (p := ⟨w.heap.size + 1 + 1, 3, none⟩) (by dsimp only; omega) (.int .u8 0)) (p := ⟨w.heap.size + 1 + 1, 4, none⟩) (by dsimp only; omega) (.string mg)) (p := ⟨w.heap.size + 1 + 1, 5, none⟩) (by dsimp only; omega) (.bool false)) (p := ⟨w.heap.size + 1 + 1, 6, none⟩) (by dsimp only; omega) (.slice (some ⟨w2.heap.size + 1, 0, none⟩) 1 1)) (p := ⟨w.heap.size + 1 + 1, 7, none⟩) (by dsimp only; omega) (.int .i64 0))
    rw [hV10] at oV10
    have HV10 := Lib.hid (show ((((((((((((((w2.alloc (.cells #[.int .i64 e, .int .i64 1, .int .u8 0] 23)).setCell ⟨w.heap.size, 1, none⟩ (.int .i64 e)).setCell ⟨w.heap.size, 2, none⟩ (.int .i64 1)).setCell ⟨w.heap.size, 3, none⟩ (.int .u8 0)).setCell ⟨w.heap.size, 4, none⟩ (.string mg)).setCell ⟨w.heap.size, 5, none⟩ (.bool false)).alloc (.cells #[.int .i64 4, .int .u8 me, .int .u8 fr, .int .i64 e, .string ⟨#[]⟩] 27)).setCell ⟨w.heap.size + 1 + 1, 0, none⟩ (.int .u8 me)).setCell ⟨w.heap.size + 1 + 1, 1, none⟩ (.int .i64 e)).setCell ⟨w.heap.size + 1 + 1, 2, none⟩ (.int .i64 1)).setCell ⟨w.heap.size + 1 + 1, 3, none⟩ (.int .u8 0)).setCell ⟨w.heap.size + 1 + 1, 4, none⟩ (.string mg)).setCell ⟨w.heap.size + 1 + 1, 5, none⟩ (.bool false)).setCell ⟨w.heap.size + 1 + 1, 6, none⟩ (.slice (some ⟨w2.heap.size + 1, 0, none⟩) 1 1)).setCell ⟨w.heap.size + 1 + 1, 7, none⟩ (.int .i64 0) = V10 by rw [HW8.out]; exact hV10)
    clear hV10
    clear r9_r r9_s r9_m r9_g nW8 l9
    go_wp2_with fail
    rw [HV10.out]
    have x_r0 : V10.cell? ⟨w.heap.size + 1 + 1, 0, none⟩ = some (.int .u8 me) := CB.cell nV10 0
    have x_r1 : V10.cell? ⟨w.heap.size + 1 + 1, 1, none⟩ = some (.int .i64 e) := CB.cell nV10 1
    have x_r2 : V10.cell? ⟨w.heap.size + 1 + 1, 2, none⟩ = some (.int .i64 1) := CB.cell nV10 2
    have x_r3 : V10.cell? ⟨w.heap.size + 1 + 1, 3, none⟩ = some (.int .u8 0) := CB.cell nV10 3
    have x_r4 : V10.cell? ⟨w.heap.size + 1 + 1, 4, none⟩ = some (.string mg) := CB.cell nV10 4
    have x_r5 : V10.cell? ⟨w.heap.size + 1 + 1, 5, none⟩ = some (.bool false) := CB.cell nV10 5
    have x_r6 : V10.cell? ⟨w.heap.size + 1 + 1, 6, none⟩ = some (.slice (some ⟨w2.heap.size + 1, 0, none⟩) 1 1) := CB.cell nV10 6
    have x_r7 : V10.cell? ⟨w.heap.size + 1 + 1, 7, none⟩ = some (.int .i64 0) := CB.cell nV10 7
    exact bodyPost_ret (v := .agg #[.int .u8 me, .int .i64 e, .int .i64 1, .int .u8 0, .string mg, .bool false, .slice (some ⟨w2.heap.size + 1, 0, none⟩) 1 1, .int .i64 0]) (by simp [results, Try.results44, go_sem, x_r0, x_r1, x_r2, x_r3, x_r4, x_r5, x_r6, x_r7]) rfl (TdPost.mk' (me) (e) (1) (0) (mg) (false) 0 _ H.out (RS.of_cb mV10_z) oV10)
  · have hlt' : decide (ep < e) = false := by simp; omega
    have H := Lib.hid (show giveM ⟨me, ⟨ep, st, to⟩, cg, kp⟩ ⟨kd, fr, t, e, mg⟩ = ⟨⟨me, ⟨ep, st, to⟩, cg, kp⟩, [⟨4, me, fr, e, ⟨#[]⟩⟩], 0⟩ by unfold giveM; simp [hlt])
    clear hlt hrt he hs hm
    obtain ⟨W1, hW1⟩ : ∃ V, ((w.alloc (.cells #[.int .u8 me, .int .i64 ep, .int .i64 st, .int .u8 to, .string cg, .bool kp] 25)).alloc (.cells #[.int .i64 kd, .int .u8 fr, .int .u8 t, .int .i64 e, .string mg] 27)).alloc (.cells #[.int .u8 me, .int .i64 ep, .int .i64 st, .int .u8 to, .string cg, .bool kp, .slice (some ⟨w.heap.size + 1 + 1 + 1, 0, none⟩) 1 1, .int .i64 0] 40) = V := ⟨_, rfl⟩
    have nW1_s : CB W1 (w.heap.size) 25 #[.int .u8 me, .int .i64 ep, .int .i64 st, .int .u8 to, .string cg, .bool kp] := by
      rw [← hW1]
      have := (((CB.new w 25 #[.int .u8 me, .int .i64 ep, .int .i64 st, .int .u8 to, .string cg, .bool kp]).alloc (.cells #[.int .i64 kd, .int .u8 fr, .int .u8 t, .int .i64 e, .string mg] 27)).alloc (.cells #[.int .u8 me, .int .i64 ep, .int .i64 st, .int .u8 to, .string cg, .bool kp, .slice (some ⟨w.heap.size + 1 + 1 + 1, 0, none⟩) 1 1, .int .i64 0] 40))
      simpa using this
    have nW1_m : CB W1 (w.heap.size + 1) 27 #[.int .i64 kd, .int .u8 fr, .int .u8 t, .int .i64 e, .string mg] := by
      rw [← hW1]
      have := ((CB.new (w.alloc (.cells #[.int .u8 me, .int .i64 ep, .int .i64 st, .int .u8 to, .string cg, .bool kp] 25)) 27 #[.int .i64 kd, .int .u8 fr, .int .u8 t, .int .i64 e, .string mg]).alloc (.cells #[.int .u8 me, .int .i64 ep, .int .i64 st, .int .u8 to, .string cg, .bool kp, .slice (some ⟨w.heap.size + 1 + 1 + 1, 0, none⟩) 1 1, .int .i64 0] 40))
      simpa using this
    have nW1_r : CB W1 (w.heap.size + 1 + 1) 40 #[.int .u8 me, .int .i64 ep, .int .i64 st, .int .u8 to, .string cg, .bool kp, .slice (some ⟨w.heap.size + 1 + 1 + 1, 0, none⟩) 1 1, .int .i64 0] := by
      rw [← hW1]
      have := (CB.new ((w.alloc (.cells #[.int .u8 me, .int .i64 ep, .int .i64 st, .int .u8 to, .string cg, .bool kp] 25)).alloc (.cells #[.int .i64 kd, .int .u8 fr, .int .u8 t, .int .i64 e, .string mg] 27)) 40 #[.int .u8 me, .int .i64 ep, .int .i64 st, .int .u8 to, .string cg, .bool kp, .slice (some ⟨w.heap.size + 1 + 1 + 1, 0, none⟩) 1 1, .int .i64 0])
      simpa using this
    have neW1_01 : w.heap.size ≠ w.heap.size + 1 := by omega
    have neW1_02 : w.heap.size ≠ w.heap.size + 1 + 1 := by omega
    have neW1_12 : w.heap.size + 1 ≠ w.heap.size + 1 + 1 := by omega
    have lW1 : Below w.heap.size w W1 := by rw [← hW1]; exact le_tr (le_tr (le_al _ _) (le_al _ _)) (le_al _ _)
    have HW1 := Lib.hid hW1
    clear hW1
    have av_z : w.heap.size ≤ W1.heap.size := by have := lW1.size; omega
    obtain ⟨W2, hW2⟩ : ∃ V, W1.alloc (.cells #[.int .i64 4, .int .u8 me, .int .u8 fr, .int .i64 e, .string ⟨#[]⟩] 27) = V := ⟨_, rfl⟩
    have zW2 : W1.heap.size = w.heap.size + 1 + 1 + 1 := by rw [← HW1.out]; simp
    have nW2 : CB W2 (w.heap.size + 1 + 1 + 1) 27 #[.int .i64 4, .int .u8 me, .int .u8 fr, .int .i64 e, .string ⟨#[]⟩] := by rw [← zW2, ← hW2]; exact CB.new _ _ _
    have bW2 : Below W1.heap.size W1 W2 := by rw [← hW2]; exact le_al _ _
    have neW2_s : w.heap.size ≠ w.heap.size + 1 + 1 + 1 := by have := CB.lt nW1_s; omega
    have neW2_m : w.heap.size + 1 ≠ w.heap.size + 1 + 1 + 1 := by have := CB.lt nW1_m; omega
    have neW2_r : w.heap.size + 1 + 1 ≠ w.heap.size + 1 + 1 + 1 := by have := CB.lt nW1_r; omega
    have HW2 := Lib.hid (show (((w.alloc (.cells #[.int .u8 me, .int .i64 ep, .int .i64 st, .int .u8 to, .string cg, .bool kp] 25)).alloc (.cells #[.int .i64 kd, .int .u8 fr, .int .u8 t, .int .i64 e, .string mg] 27)).alloc (.cells #[.int .u8 me, .int .i64 ep, .int .i64 st, .int .u8 to, .string cg, .bool kp, .slice (some ⟨w.heap.size + 1 + 1 + 1, 0, none⟩) 1 1, .int .i64 0] 40)).alloc (.cells #[.int .i64 4, .int .u8 me, .int .u8 fr, .int .i64 e, .string ⟨#[]⟩] 27) = W2 by rw [HW1.out]; exact hW2)
    clear hW2 zW2
    have r3_s := le_on nW1_s bW2
    have r3_m := le_on nW1_m bW2
    have r3_r := le_on nW1_r bW2
    have l3 := le_tr lW1 bW2
    clear nW1_s nW1_m nW1_r lW1
    clear bW2
    have av_z : w.heap.size ≤ w.heap.size + 1 + 1 + 1 := by have := av_z; omega
    go_enter Try.func44, Try.ntmps44
    go_wp2_with fail
    rw [HW2.out]
    have x_r0 : W2.cell? ⟨w.heap.size + 1 + 1, 0, none⟩ = some (.int .u8 me) := CB.cell r3_r 0
    have x_r1 : W2.cell? ⟨w.heap.size + 1 + 1, 1, none⟩ = some (.int .i64 ep) := CB.cell r3_r 1
    have x_r2 : W2.cell? ⟨w.heap.size + 1 + 1, 2, none⟩ = some (.int .i64 st) := CB.cell r3_r 2
    have x_r3 : W2.cell? ⟨w.heap.size + 1 + 1, 3, none⟩ = some (.int .u8 to) := CB.cell r3_r 3
    have x_r4 : W2.cell? ⟨w.heap.size + 1 + 1, 4, none⟩ = some (.string cg) := CB.cell r3_r 4
    have x_r5 : W2.cell? ⟨w.heap.size + 1 + 1, 5, none⟩ = some (.bool kp) := CB.cell r3_r 5
    have x_r6 : W2.cell? ⟨w.heap.size + 1 + 1, 6, none⟩ = some (.slice (some ⟨w.heap.size + 1 + 1 + 1, 0, none⟩) 1 1) := CB.cell r3_r 6
    have x_r7 : W2.cell? ⟨w.heap.size + 1 + 1, 7, none⟩ = some (.int .i64 0) := CB.cell r3_r 7
    exact bodyPost_ret (v := .agg #[.int .u8 me, .int .i64 ep, .int .i64 st, .int .u8 to, .string cg, .bool kp, .slice (some ⟨w.heap.size + 1 + 1 + 1, 0, none⟩) 1 1, .int .i64 0]) (by simp [results, Try.results44, go_sem, x_r0, x_r1, x_r2, x_r3, x_r4, x_r5, x_r6, x_r7]) rfl (TdPost.mk' me ep st to cg kp 0 _ H.out (RS.of_cb nW2) l3)
end Go.Proofs.Ytmghckddofefkaa
