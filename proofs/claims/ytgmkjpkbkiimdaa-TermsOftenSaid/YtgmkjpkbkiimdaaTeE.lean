/-
  alive of layer 13's laws: it returns true. No condition.
-/
import Derived.Test.YtgmkjpkbkiimdaaTeC
set_option linter.unusedVariables false
set_option linter.unusedSimpArgs false
namespace Go.Proofs.Ytgmkjpkbkiimdaa
open Go.RowKit

theorem RR.of_cb2 {W : World} {T : TypeId} {g : Nat} {x y : Int} (h : CB W g T #[.int .i64 x, .int .i64 y]) : RR W ic 1 (some ⟨g, 0, none⟩) 2 2 [x, y] := by
  refine RR.of_at rfl (Nat.le_refl _) (by decide) fun k z hz i v hv => ?_
  have hi : i = 0 := by
    obtain ⟨h1, _⟩ := List.getElem?_eq_some_iff.1 hv
    simp [ic] at h1
    exact h1
  subst hi
  simp [ic] at hv
  subst hv
  match k, hz with
  | 0, hz => simp at hz; subst hz; exact CB.cell h 0
  | 1, hz => simp at hz; subst hz; exact CB.cell h 1
  | k + 2, hz => simp at hz

set_option maxRecDepth 100000 in
set_option maxHeartbeats 4000000 in
theorem alive_c (w : World) : Calls Try.prog 10 #[] w fun r w' => r = .returned (.bool true) ∧ Below w.heap.size w w' := by
  have N1 := fun W => new_c 10 5 2 W
  have E1 := fun W => extend_c 15 5 0 2 14 W
  have E2 := fun W => extend_c 15 5 0 2 15 W
  have A1 := fun g W h => agree_c (some ⟨g, 0, none⟩) 2 2 [3, 900] 5 100 W h
  have L1 := fun W => last_c 15 5 0 2 W
  have O1 := fun W => over_c 15 5 0 2 15 W
  have O2 := fun W => over_c 15 5 0 2 14 W
  have R1 := fun W => right_c 20 5 1 2 W
  simp only [show sNew 10 5 2 = ⟨15, 5, 0, 2⟩ from rfl, show eNew 10 5 2 = 0 from rfl] at N1
  simp only [show sExt ⟨15, 5, 0, 2⟩ 14 = ⟨20, 5, 1, 2⟩ from rfl, show eExt ⟨15, 5, 0, 2⟩ 14 = 0 from rfl] at E1
  simp only [show sExt ⟨15, 5, 0, 2⟩ 15 = ⟨15, 5, 0, 2⟩ from rfl, show eExt ⟨15, 5, 0, 2⟩ 15 = 11 from rfl] at E2
  simp only [show vAgr [3, 900] 5 100 = 100 from rfl, show eAgr [3, 900] 5 100 = 0 from rfl] at A1
  simp only [show lastR ⟨15, 5, 0, 2⟩ = 25 from rfl] at L1
  simp only [show overT ⟨15, 5, 0, 2⟩ 15 = true from rfl] at O1
  simp only [show overT ⟨15, 5, 0, 2⟩ 14 = false from rfl] at O2
  simp only [show rightT ⟨20, 5, 1, 2⟩ = true from rfl] at R1
  go_enter Try.func10, Try.ntmps10
  go_wp2_with fail
  refine (N1 _).mono ?_
  rintro e w1 ⟨rfl, b1⟩
  have l2 := b1
  clear b1
  have av_t : w.heap.size ≤ w1.heap.size := by have := l2.size; omega
  obtain ⟨W3, hW3⟩ : ∃ V, w1.alloc (.cells #[.int .i64 15, .int .i64 5, .int .i64 0, .int .i64 2] 25) = V := ⟨_, rfl⟩
  have zW3 : w1.heap.size = w1.heap.size := by rfl
  have nW3 : CB W3 (w1.heap.size) 25 #[.int .i64 15, .int .i64 5, .int .i64 0, .int .i64 2] := by rw [← zW3, ← hW3]; exact CB.new _ _ _
  have bW3 : Below w1.heap.size w1 W3 := by rw [← hW3]; exact le_al _ _
  have HW3 := Lib.hid hW3
  clear hW3 zW3
  have l4 := le_tr l2 bW3
  clear l2
  clear bW3
  have f4_t0 : (w1.alloc (.cells #[.int .i64 15, .int .i64 5, .int .i64 0, .int .i64 2] 25)).cell? ⟨w1.heap.size, 0, none⟩ = some (.int .i64 15) := by rw [HW3.out]; exact CB.cell nW3 0
  have f4_t1 : (w1.alloc (.cells #[.int .i64 15, .int .i64 5, .int .i64 0, .int .i64 2] 25)).cell? ⟨w1.heap.size, 1, none⟩ = some (.int .i64 5) := by rw [HW3.out]; exact CB.cell nW3 1
  have f4_t2 : (w1.alloc (.cells #[.int .i64 15, .int .i64 5, .int .i64 0, .int .i64 2] 25)).cell? ⟨w1.heap.size, 2, none⟩ = some (.int .i64 0) := by rw [HW3.out]; exact CB.cell nW3 2
  have f4_t3 : (w1.alloc (.cells #[.int .i64 15, .int .i64 5, .int .i64 0, .int .i64 2] 25)).cell? ⟨w1.heap.size, 3, none⟩ = some (.int .i64 2) := by rw [HW3.out]; exact CB.cell nW3 3
  go_wp2_with fail
  rw [HW3.out]
  refine (E1 _).mono ?_
  rintro e w5 ⟨rfl, b5⟩
  clear f4_t0 f4_t1 f4_t2 f4_t3
  have r6_t := le_on nW3 b5
  have l6 := le_tr l4 b5
  clear nW3 l4
  clear b5
  have av_u : w.heap.size ≤ w5.heap.size := by have := l6.size; omega
  obtain ⟨W7, hW7⟩ : ∃ V, w5.alloc (.cells #[.int .i64 20, .int .i64 5, .int .i64 1, .int .i64 2] 25) = V := ⟨_, rfl⟩
  have zW7 : w5.heap.size = w5.heap.size := by rfl
  have nW7 : CB W7 (w5.heap.size) 25 #[.int .i64 20, .int .i64 5, .int .i64 1, .int .i64 2] := by rw [← zW7, ← hW7]; exact CB.new _ _ _
  have bW7 : Below w5.heap.size w5 W7 := by rw [← hW7]; exact le_al _ _
  have neW7_t : w1.heap.size ≠ w5.heap.size := by have := CB.lt r6_t; omega
  have HW7 := Lib.hid hW7
  clear hW7 zW7
  have r8_t := le_on r6_t bW7
  have l8 := le_tr l6 bW7
  clear r6_t l6
  clear bW7
  have f8_t0 : (w5.alloc (.cells #[.int .i64 20, .int .i64 5, .int .i64 1, .int .i64 2] 25)).cell? ⟨w1.heap.size, 0, none⟩ = some (.int .i64 15) := by rw [HW7.out]; exact CB.cell r8_t 0
  have f8_t1 : (w5.alloc (.cells #[.int .i64 20, .int .i64 5, .int .i64 1, .int .i64 2] 25)).cell? ⟨w1.heap.size, 1, none⟩ = some (.int .i64 5) := by rw [HW7.out]; exact CB.cell r8_t 1
  have f8_t2 : (w5.alloc (.cells #[.int .i64 20, .int .i64 5, .int .i64 1, .int .i64 2] 25)).cell? ⟨w1.heap.size, 2, none⟩ = some (.int .i64 0) := by rw [HW7.out]; exact CB.cell r8_t 2
  have f8_t3 : (w5.alloc (.cells #[.int .i64 20, .int .i64 5, .int .i64 1, .int .i64 2] 25)).cell? ⟨w1.heap.size, 3, none⟩ = some (.int .i64 2) := by rw [HW7.out]; exact CB.cell r8_t 3
  go_wp2_with fail
  rw [HW7.out]
  refine (E2 _).mono ?_
  rintro e w9 ⟨rfl, b9⟩
  clear f8_t0 f8_t1 f8_t2 f8_t3
  have r10_t := le_on r8_t b9
  have r10_u := le_on nW7 b9
  have l10 := le_tr l8 b9
  clear r8_t nW7 l8
  clear b9
  have av_v : w.heap.size ≤ w9.heap.size := by have := l10.size; omega
  obtain ⟨W11, hW11⟩ : ∃ V, w9.alloc (.cells #[.int .i64 15, .int .i64 5, .int .i64 0, .int .i64 2] 25) = V := ⟨_, rfl⟩
  have zW11 : w9.heap.size = w9.heap.size := by rfl
  have nW11 : CB W11 (w9.heap.size) 25 #[.int .i64 15, .int .i64 5, .int .i64 0, .int .i64 2] := by rw [← zW11, ← hW11]; exact CB.new _ _ _
  have bW11 : Below w9.heap.size w9 W11 := by rw [← hW11]; exact le_al _ _
  have neW11_t : w1.heap.size ≠ w9.heap.size := by have := CB.lt r10_t; omega
  have neW11_u : w5.heap.size ≠ w9.heap.size := by have := CB.lt r10_u; omega
  have HW11 := Lib.hid hW11
  clear hW11 zW11
  have r12_t := le_on r10_t bW11
  have r12_u := le_on r10_u bW11
  have l12 := le_tr l10 bW11
  clear r10_t r10_u l10
  clear bW11
  have av_a : w.heap.size ≤ W11.heap.size := by have := l12.size; omega
  obtain ⟨W13, hW13⟩ : ∃ V, W11.alloc (.cells #[.int .i64 3, .int .i64 900] 2) = V := ⟨_, rfl⟩
  have zW13 : W11.heap.size = w9.heap.size + 1 := by rw [← HW11.out]; simp
  have nW13 : CB W13 (w9.heap.size + 1) 2 #[.int .i64 3, .int .i64 900] := by rw [← zW13, ← hW13]; exact CB.new _ _ _
  have bW13 : Below W11.heap.size W11 W13 := by rw [← hW13]; exact le_al _ _
  have neW13_t : w1.heap.size ≠ w9.heap.size + 1 := by have := CB.lt r12_t; omega
  have neW13_u : w5.heap.size ≠ w9.heap.size + 1 := by have := CB.lt r12_u; omega
  have neW13_v : w9.heap.size ≠ w9.heap.size + 1 := by have := CB.lt nW11; omega
  have HW13 := Lib.hid (show (w9.alloc (.cells #[.int .i64 15, .int .i64 5, .int .i64 0, .int .i64 2] 25)).alloc (.cells #[.int .i64 3, .int .i64 900] 2) = W13 by rw [HW11.out]; exact hW13)
  clear hW13 zW13
  have r14_t := le_on r12_t bW13
  have r14_u := le_on r12_u bW13
  have r14_v := le_on nW11 bW13
  have l14 := le_tr l12 bW13
  clear r12_t r12_u nW11 l12
  clear bW13
  have av_a : w.heap.size ≤ w9.heap.size + 1 := by have := av_a; omega
  go_wp2_with fail
  rw [HW13.out]
  refine (A1 _ _ (RR.of_cb2 nW13)).mono ?_
  rintro e w15 ⟨rfl, b15⟩
  have r16_t := le_on r14_t b15
  have r16_u := le_on r14_u b15
  have r16_v := le_on r14_v b15
  have r16_a := le_on nW13 b15
  have l16 := le_tr l14 b15
  clear r14_t r14_u r14_v nW13 l14
  clear b15
  have f16_t0 : w15.cell? ⟨w1.heap.size, 0, none⟩ = some (.int .i64 15) := CB.cell r16_t 0
  have f16_t1 : w15.cell? ⟨w1.heap.size, 1, none⟩ = some (.int .i64 5) := CB.cell r16_t 1
  have f16_t2 : w15.cell? ⟨w1.heap.size, 2, none⟩ = some (.int .i64 0) := CB.cell r16_t 2
  have f16_t3 : w15.cell? ⟨w1.heap.size, 3, none⟩ = some (.int .i64 2) := CB.cell r16_t 3
  have f16_u0 : w15.cell? ⟨w5.heap.size, 0, none⟩ = some (.int .i64 20) := CB.cell r16_u 0
  have f16_u1 : w15.cell? ⟨w5.heap.size, 1, none⟩ = some (.int .i64 5) := CB.cell r16_u 1
  have f16_u2 : w15.cell? ⟨w5.heap.size, 2, none⟩ = some (.int .i64 1) := CB.cell r16_u 2
  have f16_u3 : w15.cell? ⟨w5.heap.size, 3, none⟩ = some (.int .i64 2) := CB.cell r16_u 3
  go_wp2_with fail
  refine (L1 _).mono ?_
  rintro e w17 ⟨rfl, b17⟩
  clear f16_t0 f16_t1 f16_t2 f16_t3 f16_u0 f16_u1 f16_u2 f16_u3
  have r18_t := le_on r16_t b17
  have r18_u := le_on r16_u b17
  have r18_v := le_on r16_v b17
  have r18_a := le_on r16_a b17
  have l18 := le_tr l16 b17
  clear r16_t r16_u r16_v r16_a l16
  clear b17
  have f18_t0 : w17.cell? ⟨w1.heap.size, 0, none⟩ = some (.int .i64 15) := CB.cell r18_t 0
  have f18_t1 : w17.cell? ⟨w1.heap.size, 1, none⟩ = some (.int .i64 5) := CB.cell r18_t 1
  have f18_t2 : w17.cell? ⟨w1.heap.size, 2, none⟩ = some (.int .i64 0) := CB.cell r18_t 2
  have f18_t3 : w17.cell? ⟨w1.heap.size, 3, none⟩ = some (.int .i64 2) := CB.cell r18_t 3
  have f18_u0 : w17.cell? ⟨w5.heap.size, 0, none⟩ = some (.int .i64 20) := CB.cell r18_u 0
  have f18_u1 : w17.cell? ⟨w5.heap.size, 1, none⟩ = some (.int .i64 5) := CB.cell r18_u 1
  have f18_u2 : w17.cell? ⟨w5.heap.size, 2, none⟩ = some (.int .i64 1) := CB.cell r18_u 2
  have f18_u3 : w17.cell? ⟨w5.heap.size, 3, none⟩ = some (.int .i64 2) := CB.cell r18_u 3
  go_wp2_with fail
  refine (O1 _).mono ?_
  rintro e w19 ⟨rfl, b19⟩
  clear f18_t0 f18_t1 f18_t2 f18_t3 f18_u0 f18_u1 f18_u2 f18_u3
  have r20_t := le_on r18_t b19
  have r20_u := le_on r18_u b19
  have r20_v := le_on r18_v b19
  have r20_a := le_on r18_a b19
  have l20 := le_tr l18 b19
  clear r18_t r18_u r18_v r18_a l18
  clear b19
  have f20_t0 : w19.cell? ⟨w1.heap.size, 0, none⟩ = some (.int .i64 15) := CB.cell r20_t 0
  have f20_t1 : w19.cell? ⟨w1.heap.size, 1, none⟩ = some (.int .i64 5) := CB.cell r20_t 1
  have f20_t2 : w19.cell? ⟨w1.heap.size, 2, none⟩ = some (.int .i64 0) := CB.cell r20_t 2
  have f20_t3 : w19.cell? ⟨w1.heap.size, 3, none⟩ = some (.int .i64 2) := CB.cell r20_t 3
  have f20_u0 : w19.cell? ⟨w5.heap.size, 0, none⟩ = some (.int .i64 20) := CB.cell r20_u 0
  have f20_u1 : w19.cell? ⟨w5.heap.size, 1, none⟩ = some (.int .i64 5) := CB.cell r20_u 1
  have f20_u2 : w19.cell? ⟨w5.heap.size, 2, none⟩ = some (.int .i64 1) := CB.cell r20_u 2
  have f20_u3 : w19.cell? ⟨w5.heap.size, 3, none⟩ = some (.int .i64 2) := CB.cell r20_u 3
  go_wp2_with fail
  refine (O2 _).mono ?_
  rintro e w21 ⟨rfl, b21⟩
  clear f20_t0 f20_t1 f20_t2 f20_t3 f20_u0 f20_u1 f20_u2 f20_u3
  have r22_t := le_on r20_t b21
  have r22_u := le_on r20_u b21
  have r22_v := le_on r20_v b21
  have r22_a := le_on r20_a b21
  have l22 := le_tr l20 b21
  clear r20_t r20_u r20_v r20_a l20
  clear b21
  have f22_t0 : w21.cell? ⟨w1.heap.size, 0, none⟩ = some (.int .i64 15) := CB.cell r22_t 0
  have f22_t1 : w21.cell? ⟨w1.heap.size, 1, none⟩ = some (.int .i64 5) := CB.cell r22_t 1
  have f22_t2 : w21.cell? ⟨w1.heap.size, 2, none⟩ = some (.int .i64 0) := CB.cell r22_t 2
  have f22_t3 : w21.cell? ⟨w1.heap.size, 3, none⟩ = some (.int .i64 2) := CB.cell r22_t 3
  have f22_u0 : w21.cell? ⟨w5.heap.size, 0, none⟩ = some (.int .i64 20) := CB.cell r22_u 0
  have f22_u1 : w21.cell? ⟨w5.heap.size, 1, none⟩ = some (.int .i64 5) := CB.cell r22_u 1
  have f22_u2 : w21.cell? ⟨w5.heap.size, 2, none⟩ = some (.int .i64 1) := CB.cell r22_u 2
  have f22_u3 : w21.cell? ⟨w5.heap.size, 3, none⟩ = some (.int .i64 2) := CB.cell r22_u 3
  go_wp2_with fail
  refine (R1 _).mono ?_
  rintro e w23 ⟨rfl, b23⟩
  clear f22_t0 f22_t1 f22_t2 f22_t3 f22_u0 f22_u1 f22_u2 f22_u3
  have r24_t := le_on r22_t b23
  have r24_u := le_on r22_u b23
  have r24_v := le_on r22_v b23
  have r24_a := le_on r22_a b23
  have l24 := le_tr l22 b23
  clear r22_t r22_u r22_v r22_a l22
  clear b23
  go_wp2_with fail
  go_ret
  exact ⟨rfl, l24⟩
end Go.Proofs.Ytgmkjpkbkiimdaa
