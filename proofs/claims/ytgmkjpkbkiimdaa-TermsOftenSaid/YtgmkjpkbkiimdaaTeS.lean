/-
  The walk of the law TermsOften: it returns true and leaves all memory that was there. Condition: the numbers are in the range of their types.
-/
import Derived.Test.YtgmkjpkbkiimdaaTeB
import Derived.Test.YtgmkjpkbkiimdaaTeE
set_option linter.unusedVariables false
set_option linter.unusedSimpArgs false
namespace Go.Proofs.Ytgmkjpkbkiimdaa
open Go.RowKit

set_option maxRecDepth 100000 in
set_option maxHeartbeats 8000000 in
theorem often_walk (a s0 m0 : Int) (w : World) (ha : 0 ≤ a ∧ a ≤ 4294967295) (hs0 : 0 ≤ s0 ∧ s0 ≤ 65535) (hm0 : 0 ≤ m0 ∧ m0 ≤ 255) : Calls Try.prog 8 #[.int .u32 a, .int .u16 s0, .int .u8 m0] w fun r w' => r = .returned (.bool true) ∧ Below w.heap.size w w' := by
  obtain ⟨m, hm⟩ : ∃ m : Int, m0.tmod 101 = m := ⟨_, rfl⟩
  have hmm : m0.tmod 101 = m0 % 101 := Int.tmod_eq_emod_of_nonneg hm0.1
  obtain ⟨S, hS⟩ : ∃ S : Int, s0 + 1 = S := ⟨_, rfl⟩
  obtain ⟨D, hD⟩ : ∃ D : Int, a + S = D := ⟨_, rfl⟩
  have m1 : 0 ≤ m ∧ m ≤ 100 := by omega
  clear hmm
  have m2 : 1 ≤ S ∧ S ≤ 65536 := by omega
  have Ek : eNew a S m = 0 := new_small ha m2 m1
  obtain ⟨_, Es, Rt, La⟩ := right_new Ek
  rw [hD] at Es Rt La
  have N1 := fun W => new_c a S m W
  simp only [Es, Ek] at N1
  have c1 : IntKind.i64.wrap a = a := IntWalk.i64_in _ (by omega)
  have c2 : IntKind.i64.wrap s0 = s0 := IntWalk.i64_in _ (by omega)
  have c3 : IntKind.i64.wrap (s0 + 1) = S := by rw [hS]; exact IntWalk.i64_in _ (by omega)
  have c4 : IntKind.i64.wrap m = m := IntWalk.i64_in _ (by omega)
  have HR := Lib.hid Rt
  have HS1 := Lib.hid m2
  have HM1 := Lib.hid m1
  clear La Rt Es Ek ha hs0 hm0 m1 m2 hD hS
  go_enter Try.func8, Try.ntmps8
  go_wp2_with fail
  refine (alive_c _).mono ?_
  rintro e w1 ⟨rfl, b1⟩
  have l2 := b1
  clear b1
  go_wp2_with fail
  refine (N1 _).mono ?_
  rintro e w3 ⟨rfl, b3⟩
  have l4 := le_tr l2 b3
  clear l2
  clear b3
  have av_t : w.heap.size ≤ w3.heap.size := by have := l4.size; omega
  obtain ⟨W5, hW5⟩ : ∃ V, w3.alloc (.cells #[.int .i64 D, .int .i64 S, .int .i64 0, .int .i64 m] 25) = V := ⟨_, rfl⟩
  have zW5 : w3.heap.size = w3.heap.size := by rfl
  have nW5 : CB W5 (w3.heap.size) 25 #[.int .i64 D, .int .i64 S, .int .i64 0, .int .i64 m] := by rw [← zW5, ← hW5]; exact CB.new _ _ _
  have bW5 : Below w3.heap.size w3 W5 := by rw [← hW5]; exact le_al _ _
  have HW5 := Lib.hid hW5
  clear hW5 zW5
  have l6 := le_tr l4 bW5
  clear l4
  clear bW5
  go_wp2_with fail
  rw [HW5.out]
  go_loopw [9] (fun iv wr => ∃ (u d : Int), 0 ≤ u ∧ u ≤ m ∧ iv = .int .i64 u ∧ Hid (RightT ⟨d, S, u, m⟩) ∧ CB wr (w3.heap.size) 25 #[.int .i64 d, .int .i64 S, .int .i64 u, .int .i64 m] ∧ Below w.heap.size w wr) (fun iv _ => (101 - intOf iv).toNat)
  case atStart => exact ⟨0, D, by omega, HM1.out.1, rfl, HR, nW5, l6⟩
  case round =>
    clear nW5 l6 HR
    obtain ⟨u, d, hu0, hu1, rfl, HQ, ht', hb'⟩ := hrel
    have hF := HQ.out.1
    obtain ⟨⟨⟨z1, z2⟩, z3, z4⟩, ⟨z5, z6⟩, z7, z8⟩ := hF
    simp only at z1 z2 z3 z4 z5 z6 z7 z8
    have hrt := right_iff.2 HQ.out
    have x0 : decide (u ≤ 101) = true := by simp; omega
    have x1 : IntKind.i64.wrap (d - 1) = d - 1 := IntWalk.i64_in _ (by omega)
    have hv : ¬ d ≤ d - 1 := by omega
    have E1 := fun W => extend_c d S u m (d - 1) W
    by_cases hu : u = m
    · have He := eExt_12 (t := ⟨d, S, u, m⟩) (x := d - 1) hrt hv hu
      have Hs := sExt_n (t := ⟨d, S, u, m⟩) (x := d - 1) (by rw [He]; decide)
      simp only [He, Hs] at E1
      have L1 := fun W => last_c d S u m W
      have hl2 : lastR ⟨d, S, u, m⟩ = d := by
        unfold lastR lastT restT
        rw [if_pos hrt]
        simp only
        rw [hu, Int.sub_self, Int.zero_mul, Int.add_zero]
      simp only [hl2] at L1
      have e1 : (u == m) = true := by simp [hu]
      have e2 : (d == d) = true := by simp
      have Hu := Lib.hid hu
      clear He Hs hl2 hrt hv z1 z2 z3 z4 z5 z6 z7 z8 hu hu0 hu1
      have f212_t0 : wr.cell? ⟨w3.heap.size, 0, none⟩ = some (.int .i64 d) := CB.cell ht' 0
      have f212_t1 : wr.cell? ⟨w3.heap.size, 1, none⟩ = some (.int .i64 S) := CB.cell ht' 1
      have f212_t2 : wr.cell? ⟨w3.heap.size, 2, none⟩ = some (.int .i64 u) := CB.cell ht' 2
      have f212_t3 : wr.cell? ⟨w3.heap.size, 3, none⟩ = some (.int .i64 m) := CB.cell ht' 3
      go_wp2_with fail
      refine (E1 _).mono ?_
      rintro e w213 ⟨rfl, b213⟩
      clear f212_t0 f212_t1 f212_t2 f212_t3
      have r214_t := le_on ht' b213
      have l214 := le_tr hb' b213
      clear ht' hb'
      clear b213
      have av_x : w.heap.size ≤ w213.heap.size := by have := l214.size; omega
      obtain ⟨W215, hW215⟩ : ∃ V, w213.alloc (.cells #[.int .i64 d, .int .i64 S, .int .i64 u, .int .i64 m] 25) = V := ⟨_, rfl⟩
      have zW215 : w213.heap.size = w213.heap.size := by rfl
      have nW215 : CB W215 (w213.heap.size) 25 #[.int .i64 d, .int .i64 S, .int .i64 u, .int .i64 m] := by rw [← zW215, ← hW215]; exact CB.new _ _ _
      have bW215 : Below w213.heap.size w213 W215 := by rw [← hW215]; exact le_al _ _
      have neW215_t : w3.heap.size ≠ w213.heap.size := by have := CB.lt r214_t; omega
      have HW215 := Lib.hid hW215
      clear hW215 zW215
      have r216_t := le_on r214_t bW215
      have l216 := le_tr l214 bW215
      clear r214_t l214
      clear bW215
      go_wp2_with fail
      rw [HW215.out]
      have y217_0 := Lib.hid (show (fun V : World => V.cell? ⟨w3.heap.size, 0, none⟩ = some (.int .i64 d) ∧ V.cell? ⟨w3.heap.size, 1, none⟩ = some (.int .i64 S) ∧ V.cell? ⟨w3.heap.size, 2, none⟩ = some (.int .i64 u) ∧ V.cell? ⟨w3.heap.size, 3, none⟩ = some (.int .i64 m) ∧ V.cell? ⟨w213.heap.size, 0, none⟩ = some (.int .i64 d) ∧ V.cell? ⟨w213.heap.size, 1, none⟩ = some (.int .i64 S) ∧ V.cell? ⟨w213.heap.size, 2, none⟩ = some (.int .i64 u) ∧ V.cell? ⟨w213.heap.size, 3, none⟩ = some (.int .i64 m)) W215 from ⟨CB.cell r216_t 0, CB.cell r216_t 1, CB.cell r216_t 2, CB.cell r216_t 3, CB.cell nW215 0, CB.cell nW215 1, CB.cell nW215 2, CB.cell nW215 3⟩)
      go_region_held3 (fun V : World => V.cell? ⟨w3.heap.size, 0, none⟩ = some (.int .i64 d) ∧ V.cell? ⟨w3.heap.size, 1, none⟩ = some (.int .i64 S) ∧ V.cell? ⟨w3.heap.size, 2, none⟩ = some (.int .i64 u) ∧ V.cell? ⟨w3.heap.size, 3, none⟩ = some (.int .i64 m) ∧ V.cell? ⟨w213.heap.size, 0, none⟩ = some (.int .i64 d) ∧ V.cell? ⟨w213.heap.size, 1, none⟩ = some (.int .i64 S) ∧ V.cell? ⟨w213.heap.size, 2, none⟩ = some (.int .i64 u) ∧ V.cell? ⟨w213.heap.size, 3, none⟩ = some (.int .i64 m)) (first | exact y217_0.out | exact y217_1.out) (first
        | (go_at_call 17; (with_reducible refine (L1 W215.drew).mono ?_); rintro e u217_1 ⟨rfl, b217_1⟩; have y217_1 := Lib.hid (show (fun V : World => V.cell? ⟨w3.heap.size, 0, none⟩ = some (.int .i64 d) ∧ V.cell? ⟨w3.heap.size, 1, none⟩ = some (.int .i64 S) ∧ V.cell? ⟨w3.heap.size, 2, none⟩ = some (.int .i64 u) ∧ V.cell? ⟨w3.heap.size, 3, none⟩ = some (.int .i64 m) ∧ V.cell? ⟨w213.heap.size, 0, none⟩ = some (.int .i64 d) ∧ V.cell? ⟨w213.heap.size, 1, none⟩ = some (.int .i64 S) ∧ V.cell? ⟨w213.heap.size, 2, none⟩ = some (.int .i64 u) ∧ V.cell? ⟨w213.heap.size, 3, none⟩ = some (.int .i64 m)) u217_1 from ⟨CB.cell (le_on (r216_t).drew b217_1) 0, CB.cell (le_on (r216_t).drew b217_1) 1, CB.cell (le_on (r216_t).drew b217_1) 2, CB.cell (le_on (r216_t).drew b217_1) 3, CB.cell (le_on (nW215).drew b217_1) 0, CB.cell (le_on (nW215).drew b217_1) 1, CB.cell (le_on (nW215).drew b217_1) 2, CB.cell (le_on (nW215).drew b217_1) 3⟩)))
      have b217 := le_dr (W := W215) b217_1
      have r218_t := le_on r216_t b217
      have r218_x := le_on nW215 b217
      have l218 := le_tr l216 b217
      clear r216_t nW215 l216
      go_wp2_with fail
      go_ret
      exact ⟨rfl, l218⟩
    have He := eExt_0 (t := ⟨d, S, u, m⟩) (x := d - 1) hrt hv hu
    have Hs := sExt_z He
    have HN := Lib.hid (right_next HQ.out hu)
    simp only [He, Hs] at E1
    have x2 : IntKind.i64.wrap (u + 1) = u + 1 := IntWalk.i64_in _ (by omega)
    have hlt : u + 1 ≤ m := by omega
    clear He Hs hrt hv z1 z2 z3 z4 z5 z6 z7 z8 hu
    have f200_t0 : wr.cell? ⟨w3.heap.size, 0, none⟩ = some (.int .i64 d) := CB.cell ht' 0
    have f200_t1 : wr.cell? ⟨w3.heap.size, 1, none⟩ = some (.int .i64 S) := CB.cell ht' 1
    have f200_t2 : wr.cell? ⟨w3.heap.size, 2, none⟩ = some (.int .i64 u) := CB.cell ht' 2
    have f200_t3 : wr.cell? ⟨w3.heap.size, 3, none⟩ = some (.int .i64 m) := CB.cell ht' 3
    go_wp2_with fail
    refine (E1 _).mono ?_
    rintro e w201 ⟨rfl, b201⟩
    clear f200_t0 f200_t1 f200_t2 f200_t3
    have r202_t := le_on ht' b201
    have l202 := le_tr hb' b201
    clear ht' hb'
    clear b201
    have av_x : w.heap.size ≤ w201.heap.size := by have := l202.size; omega
    obtain ⟨W203, hW203⟩ : ∃ V, w201.alloc (.cells #[.int .i64 (d + S), .int .i64 S, .int .i64 (u + 1), .int .i64 m] 25) = V := ⟨_, rfl⟩
    have zW203 : w201.heap.size = w201.heap.size := by rfl
    have nW203 : CB W203 (w201.heap.size) 25 #[.int .i64 (d + S), .int .i64 S, .int .i64 (u + 1), .int .i64 m] := by rw [← zW203, ← hW203]; exact CB.new _ _ _
    have bW203 : Below w201.heap.size w201 W203 := by rw [← hW203]; exact le_al _ _
    have neW203_t : w3.heap.size ≠ w201.heap.size := by have := CB.lt r202_t; omega
    have HW203 := Lib.hid hW203
    clear hW203 zW203
    have r204_t := le_on r202_t bW203
    have l204 := le_tr l202 bW203
    clear r202_t l202
    clear bW203
    have f204_t0 : (w201.alloc (.cells #[.int .i64 (d + S), .int .i64 S, .int .i64 (u + 1), .int .i64 m] 25)).cell? ⟨w3.heap.size, 0, none⟩ = some (.int .i64 d) := by rw [HW203.out]; exact CB.cell r204_t 0
    have f204_t1 : (w201.alloc (.cells #[.int .i64 (d + S), .int .i64 S, .int .i64 (u + 1), .int .i64 m] 25)).cell? ⟨w3.heap.size, 1, none⟩ = some (.int .i64 S) := by rw [HW203.out]; exact CB.cell r204_t 1
    have f204_t2 : (w201.alloc (.cells #[.int .i64 (d + S), .int .i64 S, .int .i64 (u + 1), .int .i64 m] 25)).cell? ⟨w3.heap.size, 2, none⟩ = some (.int .i64 u) := by rw [HW203.out]; exact CB.cell r204_t 2
    have f204_t3 : (w201.alloc (.cells #[.int .i64 (d + S), .int .i64 S, .int .i64 (u + 1), .int .i64 m] 25)).cell? ⟨w3.heap.size, 3, none⟩ = some (.int .i64 m) := by rw [HW203.out]; exact CB.cell r204_t 3
    have f204_x0 : (w201.alloc (.cells #[.int .i64 (d + S), .int .i64 S, .int .i64 (u + 1), .int .i64 m] 25)).cell? ⟨w201.heap.size, 0, none⟩ = some (.int .i64 (d + S)) := by rw [HW203.out]; exact CB.cell nW203 0
    have f204_x1 : (w201.alloc (.cells #[.int .i64 (d + S), .int .i64 S, .int .i64 (u + 1), .int .i64 m] 25)).cell? ⟨w201.heap.size, 1, none⟩ = some (.int .i64 S) := by rw [HW203.out]; exact CB.cell nW203 1
    have f204_x2 : (w201.alloc (.cells #[.int .i64 (d + S), .int .i64 S, .int .i64 (u + 1), .int .i64 m] 25)).cell? ⟨w201.heap.size, 2, none⟩ = some (.int .i64 (u + 1)) := by rw [HW203.out]; exact CB.cell nW203 2
    have f204_x3 : (w201.alloc (.cells #[.int .i64 (d + S), .int .i64 S, .int .i64 (u + 1), .int .i64 m] 25)).cell? ⟨w201.heap.size, 3, none⟩ = some (.int .i64 m) := by rw [HW203.out]; exact CB.cell nW203 3
    have z204_t0 : (w201.alloc (.cells #[.int .i64 (d + S), .int .i64 S, .int .i64 (u + 1), .int .i64 m] 25)).frozen? ⟨w3.heap.size, 0, none⟩ = false := by rw [HW203.out]; exact CB.frozen r204_t 0
    have z204_t1 : (w201.alloc (.cells #[.int .i64 (d + S), .int .i64 S, .int .i64 (u + 1), .int .i64 m] 25)).frozen? ⟨w3.heap.size, 1, none⟩ = false := by rw [HW203.out]; exact CB.frozen r204_t 1
    have z204_t2 : (w201.alloc (.cells #[.int .i64 (d + S), .int .i64 S, .int .i64 (u + 1), .int .i64 m] 25)).frozen? ⟨w3.heap.size, 2, none⟩ = false := by rw [HW203.out]; exact CB.frozen r204_t 2
    have z204_t3 : (w201.alloc (.cells #[.int .i64 (d + S), .int .i64 S, .int .i64 (u + 1), .int .i64 m] 25)).frozen? ⟨w3.heap.size, 3, none⟩ = false := by rw [HW203.out]; exact CB.frozen r204_t 3
    obtain ⟨V205, hV205⟩ : ∃ V, (((W203.setCell ⟨w3.heap.size, 0, none⟩ (.int .i64 (d + S))).setCell ⟨w3.heap.size, 1, none⟩ (.int .i64 S)).setCell ⟨w3.heap.size, 2, none⟩ (.int .i64 (u + 1))).setCell ⟨w3.heap.size, 3, none⟩ (.int .i64 m) = V := ⟨_, rfl⟩
    have nV205 : CB V205 (w3.heap.size) 25 #[.int .i64 (d + S), .int .i64 S, .int .i64 (u + 1), .int .i64 m] := by rw [← hV205]; exact cb_cast (CB.put (CB.put (CB.put (CB.put r204_t 0 (.int .i64 (d + S))) 1 (.int .i64 S)) 2 (.int .i64 (u + 1))) 3 (.int .i64 m)) (by kernel_rfl)
    have mV205_x : CB V205 (w201.heap.size) 25 #[.int .i64 (d + S), .int .i64 S, .int .i64 (u + 1), .int .i64 m] := by rw [← hV205]; exact (CB.far (CB.far (CB.far (CB.far nW203 (p := ⟨w3.heap.size, 0, none⟩) (Ne.symm neW203_t) (.int .i64 (d + S))) (p := ⟨w3.heap.size, 1, none⟩) (Ne.symm neW203_t) (.int .i64 S)) (p := ⟨w3.heap.size, 2, none⟩) (Ne.symm neW203_t) (.int .i64 (u + 1))) (p := ⟨w3.heap.size, 3, none⟩) (Ne.symm neW203_t) (.int .i64 m))
    have oV205 := (Below.setCell (Below.setCell (Below.setCell (Below.setCell l204 (p := ⟨w3.heap.size, 0, none⟩) (by have := av_t; dsimp only; omega) (.int .i64 (d + S))) (p := ⟨w3.heap.size, 1, none⟩) (by have := av_t; dsimp only; omega) (.int .i64 S)) (p := ⟨w3.heap.size, 2, none⟩) (by have := av_t; dsimp only; omega) (.int .i64 (u + 1))) (p := ⟨w3.heap.size, 3, none⟩) (by have := av_t; dsimp only; omega) (.int .i64 m))
    rw [hV205] at oV205
    have HV205 := Lib.hid (show ((((w201.alloc (.cells #[.int .i64 (d + S), .int .i64 S, .int .i64 (u + 1), .int .i64 m] 25)).setCell ⟨w3.heap.size, 0, none⟩ (.int .i64 (d + S))).setCell ⟨w3.heap.size, 1, none⟩ (.int .i64 S)).setCell ⟨w3.heap.size, 2, none⟩ (.int .i64 (u + 1))).setCell ⟨w3.heap.size, 3, none⟩ (.int .i64 m) = V205 by rw [HW203.out]; exact hV205)
    clear hV205
    clear r204_t nW203 l204
    go_wp2_with fail
    rw [HV205.out]
    go_roundw
    case rel => exact ⟨u + 1, d + S, by omega, hlt, by go_num, HN, nV205, oV205⟩
    case measure => have := HM1.out; simp [intOf]; omega
end Go.Proofs.Ytgmkjpkbkiimdaa
