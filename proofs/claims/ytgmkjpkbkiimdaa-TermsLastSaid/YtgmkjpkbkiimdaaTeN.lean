/-
  The walk of the law TermsLast: it returns true and leaves all memory that was there. Condition: the numbers are in the range of their types.
-/
import Derived.Test.YtgmkjpkbkiimdaaTeB
import Derived.Test.YtgmkjpkbkiimdaaTeE
set_option linter.unusedVariables false
set_option linter.unusedSimpArgs false
namespace Go.Proofs.Ytgmkjpkbkiimdaa
open Go.RowKit

set_option maxRecDepth 100000 in
set_option maxHeartbeats 8000000 in
theorem last_walk (a s0 m0 : Int) (w : World) (ha : 0 ≤ a ∧ a ≤ 4294967295) (hs0 : 0 ≤ s0 ∧ s0 ≤ 65535) (hm0 : 0 ≤ m0 ∧ m0 ≤ 255) : Calls Try.prog 9 #[.int .u32 a, .int .u16 s0, .int .u8 m0] w fun r w' => r = .returned (.bool true) ∧ Below w.heap.size w w' := by
  obtain ⟨m, hm⟩ : ∃ m : Int, m0.tmod 101 = m := ⟨_, rfl⟩
  have hmm : m0.tmod 101 = m0 % 101 := Int.tmod_eq_emod_of_nonneg hm0.1
  obtain ⟨S, hS⟩ : ∃ S : Int, s0 + 1 = S := ⟨_, rfl⟩
  obtain ⟨D, hD⟩ : ∃ D : Int, a + S = D := ⟨_, rfl⟩
  have m1 : 0 ≤ m ∧ m ≤ 100 := by omega
  clear hmm
  have m2 : 1 ≤ S ∧ S ≤ 65536 := by omega
  have Ek : eNew a S m = 0 := new_small ha m2 m1
  obtain ⟨_, Es, Rt, La⟩ := right_new Ek
  rw [hD] at Es Rt La
  have N1 := fun W => new_c a S m W
  simp only [Es, Ek] at N1
  have c1 : IntKind.i64.wrap a = a := IntWalk.i64_in _ (by omega)
  have c2 : IntKind.i64.wrap s0 = s0 := IntWalk.i64_in _ (by omega)
  have c3 : IntKind.i64.wrap (s0 + 1) = S := by rw [hS]; exact IntWalk.i64_in _ (by omega)
  have c4 : IntKind.i64.wrap m = m := IntWalk.i64_in _ (by omega)
  have q := mul_in (a := m) (s := S) m1.1 m1.2 m2.1 (by omega)
  have hd : (m + 1) * S = m * S + S := by rw [Int.add_mul, Int.one_mul]
  obtain ⟨z, hz⟩ : ∃ z : Int, a + (m + 1) * S = z := ⟨_, rfl⟩
  have c5 : IntKind.i64.wrap (m + 1) = m + 1 := IntWalk.i64_in _ (by omega)
  have c6 : IntKind.i64.wrap ((m + 1) * S) = (m + 1) * S := IntWalk.i64_in _ (by omega)
  have c7 : IntKind.i64.wrap (a + (m + 1) * S) = z := by rw [hz]; exact IntWalk.i64_in _ (by omega)
  have Rt' := right_iff.2 Rt
  rw [hz] at La
  have L0 : lastR ⟨D, S, 0, m⟩ = z := by unfold lastR; rw [if_pos Rt', La]
  have O0 : overT ⟨D, S, 0, m⟩ a = false := by unfold overT; rw [Rt']; simp; omega
  have O9 : overT ⟨D, S, 0, m⟩ z = true := by unfold overT; rw [Rt']; simp; omega
  have L1 := fun W => last_c D S 0 m W
  have O1 := fun W => over_c D S 0 m a W
  have O2 := fun W => over_c D S 0 m z W
  have R1 := fun W => right_c D S 0 m W
  simp only [L0] at L1
  simp only [O0] at O1
  simp only [O9] at O2
  simp only [Rt'] at R1
  have e1 : ((z : Int) == z) = true := beq_self_eq_true _
  clear La L0 O0 O9 Rt Rt' Es Ek hz hd q ha hs0 hm0 m1 m2 hD hS
  go_enter Try.func9, Try.ntmps9
  go_wp2_with fail
  refine (alive_c _).mono ?_
  rintro e w1 ⟨rfl, b1⟩
  have l2 := b1
  clear b1
  go_wp2_with fail
  refine (N1 _).mono ?_
  rintro e w3 ⟨rfl, b3⟩
  have l4 := le_tr l2 b3
  clear l2
  clear b3
  have av_t : w.heap.size ≤ w3.heap.size := by have := l4.size; omega
  obtain ⟨W5, hW5⟩ : ∃ V, w3.alloc (.cells #[.int .i64 D, .int .i64 S, .int .i64 0, .int .i64 m] 25) = V := ⟨_, rfl⟩
  have zW5 : w3.heap.size = w3.heap.size := by rfl
  have nW5 : CB W5 (w3.heap.size) 25 #[.int .i64 D, .int .i64 S, .int .i64 0, .int .i64 m] := by rw [← zW5, ← hW5]; exact CB.new _ _ _
  have bW5 : Below w3.heap.size w3 W5 := by rw [← hW5]; exact le_al _ _
  have HW5 := Lib.hid hW5
  clear hW5 zW5
  have l6 := le_tr l4 bW5
  clear l4
  clear bW5
  go_wp2_with fail
  rw [HW5.out]
  have y7_0 := Lib.hid (show (fun V : World => V.cell? ⟨w3.heap.size, 0, none⟩ = some (.int .i64 D) ∧ V.cell? ⟨w3.heap.size, 1, none⟩ = some (.int .i64 S) ∧ V.cell? ⟨w3.heap.size, 2, none⟩ = some (.int .i64 0) ∧ V.cell? ⟨w3.heap.size, 3, none⟩ = some (.int .i64 m)) W5 from ⟨CB.cell nW5 0, CB.cell nW5 1, CB.cell nW5 2, CB.cell nW5 3⟩)
  go_region_held3 (fun V : World => V.cell? ⟨w3.heap.size, 0, none⟩ = some (.int .i64 D) ∧ V.cell? ⟨w3.heap.size, 1, none⟩ = some (.int .i64 S) ∧ V.cell? ⟨w3.heap.size, 2, none⟩ = some (.int .i64 0) ∧ V.cell? ⟨w3.heap.size, 3, none⟩ = some (.int .i64 m)) (first | exact y7_0.out | exact y7_1.out | exact y7_2.out | exact y7_3.out | exact y7_4.out | exact y7_5.out) (first
    | (go_at_call 17; (with_reducible refine (L1 W5.drew).mono ?_); rintro e u7_1 ⟨rfl, b7_1⟩; have y7_1 := Lib.hid (show (fun V : World => V.cell? ⟨w3.heap.size, 0, none⟩ = some (.int .i64 D) ∧ V.cell? ⟨w3.heap.size, 1, none⟩ = some (.int .i64 S) ∧ V.cell? ⟨w3.heap.size, 2, none⟩ = some (.int .i64 0) ∧ V.cell? ⟨w3.heap.size, 3, none⟩ = some (.int .i64 m)) u7_1 from ⟨CB.cell (le_on (nW5).drew b7_1) 0, CB.cell (le_on (nW5).drew b7_1) 1, CB.cell (le_on (nW5).drew b7_1) 2, CB.cell (le_on (nW5).drew b7_1) 3⟩))
    | (go_at_call 15; (with_reducible refine (O1 u7_1).mono ?_); rintro e u7_2 ⟨rfl, b7_2⟩; have y7_2 := Lib.hid (show (fun V : World => V.cell? ⟨w3.heap.size, 0, none⟩ = some (.int .i64 D) ∧ V.cell? ⟨w3.heap.size, 1, none⟩ = some (.int .i64 S) ∧ V.cell? ⟨w3.heap.size, 2, none⟩ = some (.int .i64 0) ∧ V.cell? ⟨w3.heap.size, 3, none⟩ = some (.int .i64 m)) u7_2 from ⟨CB.cell (le_on (le_on (nW5).drew b7_1) b7_2) 0, CB.cell (le_on (le_on (nW5).drew b7_1) b7_2) 1, CB.cell (le_on (le_on (nW5).drew b7_1) b7_2) 2, CB.cell (le_on (le_on (nW5).drew b7_1) b7_2) 3⟩))
    | (go_at_call 17; (with_reducible refine (L1 u7_2).mono ?_); rintro e u7_3 ⟨rfl, b7_3⟩; have y7_3 := Lib.hid (show (fun V : World => V.cell? ⟨w3.heap.size, 0, none⟩ = some (.int .i64 D) ∧ V.cell? ⟨w3.heap.size, 1, none⟩ = some (.int .i64 S) ∧ V.cell? ⟨w3.heap.size, 2, none⟩ = some (.int .i64 0) ∧ V.cell? ⟨w3.heap.size, 3, none⟩ = some (.int .i64 m)) u7_3 from ⟨CB.cell (le_on (le_on (le_on (nW5).drew b7_1) b7_2) b7_3) 0, CB.cell (le_on (le_on (le_on (nW5).drew b7_1) b7_2) b7_3) 1, CB.cell (le_on (le_on (le_on (nW5).drew b7_1) b7_2) b7_3) 2, CB.cell (le_on (le_on (le_on (nW5).drew b7_1) b7_2) b7_3) 3⟩))
    | (go_at_call 15; (with_reducible refine (O2 u7_3).mono ?_); rintro e u7_4 ⟨rfl, b7_4⟩; have y7_4 := Lib.hid (show (fun V : World => V.cell? ⟨w3.heap.size, 0, none⟩ = some (.int .i64 D) ∧ V.cell? ⟨w3.heap.size, 1, none⟩ = some (.int .i64 S) ∧ V.cell? ⟨w3.heap.size, 2, none⟩ = some (.int .i64 0) ∧ V.cell? ⟨w3.heap.size, 3, none⟩ = some (.int .i64 m)) u7_4 from ⟨CB.cell (le_on (le_on (le_on (le_on (nW5).drew b7_1) b7_2) b7_3) b7_4) 0, CB.cell (le_on (le_on (le_on (le_on (nW5).drew b7_1) b7_2) b7_3) b7_4) 1, CB.cell (le_on (le_on (le_on (le_on (nW5).drew b7_1) b7_2) b7_3) b7_4) 2, CB.cell (le_on (le_on (le_on (le_on (nW5).drew b7_1) b7_2) b7_3) b7_4) 3⟩))
    | (go_at_call 13; (with_reducible refine (R1 u7_4).mono ?_); rintro e u7_5 ⟨rfl, b7_5⟩; have y7_5 := Lib.hid (show (fun V : World => V.cell? ⟨w3.heap.size, 0, none⟩ = some (.int .i64 D) ∧ V.cell? ⟨w3.heap.size, 1, none⟩ = some (.int .i64 S) ∧ V.cell? ⟨w3.heap.size, 2, none⟩ = some (.int .i64 0) ∧ V.cell? ⟨w3.heap.size, 3, none⟩ = some (.int .i64 m)) u7_5 from ⟨CB.cell (le_on (le_on (le_on (le_on (le_on (nW5).drew b7_1) b7_2) b7_3) b7_4) b7_5) 0, CB.cell (le_on (le_on (le_on (le_on (le_on (nW5).drew b7_1) b7_2) b7_3) b7_4) b7_5) 1, CB.cell (le_on (le_on (le_on (le_on (le_on (nW5).drew b7_1) b7_2) b7_3) b7_4) b7_5) 2, CB.cell (le_on (le_on (le_on (le_on (le_on (nW5).drew b7_1) b7_2) b7_3) b7_4) b7_5) 3⟩)))
  have b7 := le_tr (le_tr (le_tr (le_tr (le_dr (W := W5) b7_1) b7_2) b7_3) b7_4) b7_5
  have r8_t := le_on nW5 b7
  have l8 := le_tr l6 b7
  clear nW5 l6
  go_wp2_with fail
  go_ret
  exact ⟨rfl, l8⟩
end Go.Proofs.Ytgmkjpkbkiimdaa
