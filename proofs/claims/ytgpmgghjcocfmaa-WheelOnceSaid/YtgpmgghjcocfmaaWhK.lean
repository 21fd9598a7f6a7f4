/-
  alive of layer 6's laws: it returns true. No condition.
-/
import Derived.Test.YtgpmgghjcocfmaaWhJ
set_option linter.unusedVariables false
set_option linter.unusedSimpArgs false
namespace Go.Proofs.Ytgpmgghjcocfmaa
open Go.RowKit

theorem al_1 : eSet 0 [] 7 5 = 0 ∧ sSet 0 [] 7 5 = [(7, 5)] := by decide
theorem al_2 : eSet 0 [(7, 5)] 8 3 = 0 ∧ sSet 0 [(7, 5)] 8 3 = [(8, 3), (7, 5)] := by decide
theorem al_3 : xNext 0 [(8, 3), (7, 5)] = 3 ∧ bNext 0 [(8, 3), (7, 5)] = true := by decide
theorem al_4 : eTick 0 [(8, 3), (7, 5)] 4 = 0 ∧ sTick 0 [(8, 3), (7, 5)] 4 = [(7, 5)] ∧ nTick 0 [(8, 3), (7, 5)] 4 = 4 ∧ rTick 0 [(8, 3), (7, 5)] 4 = [8] := by decide
theorem al_5 : eTick 4 [(7, 5)] 1 = 0 ∧ rTick 4 [(7, 5)] 1 = [7] := by decide
theorem al_6 : eSet 4 [(7, 5)] 9 4 = 10 := by decide
theorem al_7 : rightB 0 [(8, 3), (7, 5)] = true := by decide
theorem is_new (w : World) (x : Int) : IS (w.alloc (.cells #[.int .i64 x] 3)) (some ⟨w.heap.size, 0, none⟩) 1 1 [x] :=
  ⟨some w.heap.size, by simp [ic], Nat.le_refl _, by simp [maxLen], .inr ⟨w.heap.size, 0, #[.int .i64 x], rfl, rfl, CB.new _ _ _, by simp, fun j u hu => by simpa [ic] using hu⟩⟩

set_option maxRecDepth 100000 in
set_option maxHeartbeats 4000000 in
theorem alive_c (w : World) : Calls Try.prog 10 #[] w fun e w' => e = .returned (.bool true) ∧ Below w.heap.size w w' := by
  have wf7 : (Lit.int .i64 7).wf = true := by decide
  have wf5 : (Lit.int .i64 5).wf = true := by decide
  have wf8 : (Lit.int .i64 8).wf = true := by decide
  have wf3 : (Lit.int .i64 3).wf = true := by decide
  have wf9 : (Lit.int .i64 9).wf = true := by decide
  have wf4 : (Lit.int .i64 4).wf = true := by decide
  go_enter Try.func10, Try.ntmps10
  go_wp2_with fail
  refine (set_w 0 none 0 0 7 5 [] w (TR.nil w) (by omega) wf7 wf5).mono ?_
  rw [al_1.1, al_1.2]
  rintro e w1 ⟨A1, n1, c1, rfl, hx1, hb1⟩
  obtain rfl : n1 = 1 := hx1.len.symm
  go_wp2_with fail
  obtain ⟨W1, hW1, bx1, kW1⟩ := boxed w1 28 0 A1 1 c1
  rw [hW1]
  have hw1 : w.heap.size ≤ w1.heap.size := hb1.size
  have hxW := hx1.on kW1
  have hbW := bel2 hb1 kW1
  clear hW1 hx1 hb1 kW1
  generalize w1.heap.size = b1 at *
  refine (set_w 0 A1 1 c1 8 3 [(7, 5)] W1 hxW.tr (by omega) wf8 wf3).mono ?_
  rw [al_2.1, al_2.2]
  rintro e w2 ⟨A2, n2, c2, rfl, hx2, hb2⟩
  obtain rfl : n2 = 2 := hx2.len.symm
  have bx2 := bx1.on hb2 bx1.lt
  have hbl2 := bel2 hbW hb2
  clear hxW hbW hb2 bx1
  obtain ⟨z0, z1⟩ := bx2.cells
  obtain ⟨f0, f1⟩ := bx2.froz
  obtain ⟨w3, hw3, bx3, _, _, kb, _, kt, _, _⟩ := store_end bx2 0 A2 2 c2
  have hx3 := kt _ _ _ _ _ (by decide) hx2
  have hb3 := kb _ _ hbl2 hw1
  have Hw3 := Lib.hid hw3
  clear hw3 kb kt hx2 hbl2 bx2
  go_wp2_with fail
  rw [Hw3.out]
  clear Hw3 z0 z1 f0 f1
  have hnx := next_w 0 A2 2 c2 _ w3 hx3.tr (by omega)
  rw [al_3.1, al_3.2] at hnx
  refine hnx.mono ?_
  rintro e w4 ⟨rfl, hb4⟩
  have bx4 := bx3.on hb4 bx3.lt
  have hx4 := hx3.on hb4
  have hbl4 := bel2 hb3 hb4
  clear hnx bx3 hx3 hb3 hb4
  obtain ⟨z0, z1⟩ := bx4.cells
  go_wp2_with fail
  refine (tick_w 0 A2 2 c2 4 _ w4 hx4.tr (by omega)).mono ?_
  rw [al_4.1, al_4.2.1, al_4.2.2.1, al_4.2.2.2]
  rintro e w5 ⟨A5, n5, c5, A6, n6, c6, rfl, hx5, hi5, hb5⟩
  obtain rfl : n5 = 1 := hx5.len.symm
  have bx5 := bx4.on hb5 bx4.lt
  have hy5 := hx4.on hb5
  have hbl5 := bel2 hbl4 hb5
  have hlt5 := bx5.lt
  clear bx4 hx4 hbl4 hb5 z0 z1
  go_wp2_with fail
  obtain ⟨W5, hW5, cx5, kW5⟩ := boxed w5 28 4 A5 1 c5
  rw [hW5]
  have bx6 := bx5.on kW5 bx5.lt
  have hx6 := hx5.on kW5
  have hy6 := hy5.on kW5
  have hi6 := hi5.on kW5
  have hbl6 := bel2 hbl5 kW5
  clear hW5 bx5 hx5 hy5 hi5 hbl5 kW5
  generalize w5.heap.size = b5 at *
  refine (tick_w 4 A5 1 c5 1 _ W5 hx6.tr (by omega)).mono ?_
  rw [al_5.1, al_5.2]
  rintro e w7 ⟨A7, n7, c7, A8, n8, c8, rfl, hx7, hi7, hb7⟩
  have bx7 := bx6.on hb7 bx6.lt
  have cx7 := cx5.on hb7 cx5.lt
  have hy7 := hy6.on hb7
  have hz7 := hx6.on hb7
  have hj7 := hi6.on hb7
  have hbl7 := bel2 hbl6 hb7
  have hlt7 := cx7.lt
  clear bx6 cx5 hy6 hx6 hi6 hbl6 hb7 hx7
  obtain ⟨z0, z1⟩ := cx7.cells
  go_wp2_with fail
  clear z0 z1
  obtain ⟨W7, hW7, _, kW7⟩ := boxed w7 28 (nTick 4 [(7, 5)] 1) A7 n7 c7
  rw [hW7]
  have bx8 := bx7.on kW7 bx7.lt
  have hy8 := hy7.on kW7
  have hz8 := hz7.on kW7
  have hi8 := hi7.on kW7
  have hj8 := hj7.on kW7
  have hbl8 := bel2 hbl7 kW7
  clear hW7 bx7 cx7 hy7 hz7 hi7 hj7 hbl7 kW7 hlt7
  generalize w7.heap.size = b7 at *
  generalize nTick 4 [(7, 5)] 1 = q7 at *
  refine (set_w 4 A5 1 c5 9 4 _ W7 hz8.tr (by omega) wf9 wf4).mono ?_
  rw [al_6]
  rintro e w9 ⟨A9, n9, c9, rfl, hx9, hb9⟩
  have bx9 := bx8.on hb9 bx8.lt
  have hy9 := hy8.on hb9
  have hi9 := hi8.on hb9
  have hj9 := hj8.on hb9
  have hbl9 := bel2 hbl8 hb9
  have hlt9 := bx9.lt
  clear bx8 hy8 hz8 hi8 hj8 hbl8 hb9 hx9
  obtain ⟨V, hV⟩ : ∃ V, (w9.alloc (.cells #[.int .i64 4, .slice A9 n9 c9] 28)).alloc (.cells #[.int .i64 8] 3) = V := ⟨_, rfl⟩
  have HV := Lib.hid hV
  have kV : Below w9.heap.size w9 V := by rw [← hV]; exact ((Below.refl _ _).alloc (Nat.le_refl _) _).alloc (by simp) _
  have isV : IS V (some ⟨w9.heap.size + 1, 0, none⟩) 1 1 [8] := by
    have := is_new (w9.alloc (.cells #[.int .i64 4, .slice A9 n9 c9] 28)) 8
    rw [hV] at this
    simpa using this
  have bxV := bx9.on kV bx9.lt
  have hyV := hy9.on kV
  have hiV := hi9.on kV
  have hjV := hj9.on kV
  have hblV := bel2 hbl9 kV
  clear hV bx9 hy9 hi9 hj9 hbl9 kV
  go_wp2_with fail
  rw [HV.out]
  refine (same_i _ _ _ _ _ _ _ V hjV isV).mono ?_
  rintro e v1 ⟨rfl, k1⟩
  have bxA := bxV.on k1 bxV.lt
  have hyA := hyV.on k1
  have hiA := hiV.on k1
  have hblA := bel2 hblV k1
  have isB := is_new v1 7
  have kB : Below v1.heap.size v1 (v1.alloc (.cells #[.int .i64 7] 3)) := (Below.refl _ _).alloc (Nat.le_refl _) _
  have bxB := bxA.on kB bxA.lt
  have hyB := hyA.on kB
  have hiB := hiA.on kB
  have hblB := bel2 hblA kB
  have hltA := bxA.lt
  clear bxA hyA hiA hblA kB k1 bxV hyV hiV hjV hblV isV HV
  go_wp2_with fail
  refine (same_i _ _ _ _ _ _ _ _ hiB isB).mono ?_
  rintro e v2 ⟨rfl, k2⟩
  have bxC := bxB.on k2 bxB.lt
  have hyC := hyB.on k2
  have hblC := bel2 hblB k2
  clear bxB hyB hiB hblB k2 isB
  obtain ⟨z0, z1⟩ := bxC.cells
  have hr := right_w 0 A2 2 c2 _ v2 hyC.tr (by omega)
  rw [al_7] at hr
  go_wp2_with fail
  refine hr.mono ?_
  rintro e v3 ⟨rfl, k3⟩
  have hblD := bel2 hblC k3
  clear bxC hyC hblC k3 z0 z1 hr
  go_wp2_with fail
  go_ret
  exact ⟨rfl, hblD⟩
end Go.Proofs.Ytgpmgghjcocfmaa
