/-
  The law TallyOld, walked. No condition.
-/
import Derived.Test.YtjooceaclfdjjaaTyL
set_option linter.unusedVariables false
set_option linter.unusedSimpArgs false
namespace Go.Proofs.Ytjooceaclfdjjaa
open Go.RowKit

set_option maxRecDepth 100000 in
set_option maxHeartbeats 4000000 in
theorem old_walk (S : Ty) (a : Ay) (w : World) : Calls Try.prog 6 #[.agg (tA S), .agg (aA a)] w fun r w' => r = .returned (.bool true) ∧ Below w.heap.size w w' := by
  have R1 := fun W => right_r S W
  cases hr : rightY S with
  | false =>
    rw [hr] at R1
    have O1 := fun W => out_c S W
    rw [out_no hr] at O1
    clear hr
    go_enter Try.func6, Try.ntmps6
    go_wp2_with (first | ((with_reducible refine st_box 25 _ (tA S) ?_ ?_); exact rfl))
    refine ⟨fun V1 g1 n1 f1 => ?_⟩
    have up1 : w.heap.size ≤ g1 := Nat.le_of_eq f1.at_
    have bl1 := f1.bel
    clear f1
    have l2 := le_tr (Below.refl _ _) bl1
    clear bl1
    go_wp2_with (first | ((with_reducible refine st_box 27 _ (aA a) ?_ ?_); exact rfl))
    refine ⟨fun V3 g3 n3 f3 => ?_⟩
    have ne3_p := f3.ne n1
    have up3 : w.heap.size ≤ g3 := f3.up l2
    have bl3 := f3.bel
    clear f3
    have r4_p := le_on n1 bl3
    have l4 := le_tr l2 bl3
    clear n1 l2
    clear bl3
    go_wp2_with fail
    refine (alive_c _).mono ?_
    rintro e w5 ⟨rfl, b5⟩
    have r6_p := le_on r4_p b5
    have r6_a := le_on n3 b5
    have l6 := le_tr l4 b5
    clear r4_p n3 l4
    clear b5
    go_wp2_with (first | (first | ((with_reducible refine st_load 25 _ g1 ?_ r6_p Try.underlying25 ?_ ?_ ?_); exact rfl; exact rfl; exact Try.zTr) | ((with_reducible refine st_loadG 25 _ g1 ?_ r6_p Try.underlying25 ?_ ?_ ?_ ?_); exact rfl; exact rfl; exact Try.zTr; exact rfl)))
    refine (R1 _).mono ?_
    rintro e w7 ⟨rfl, b7⟩
    have r8_p := le_on r6_p b7
    have r8_a := le_on r6_a b7
    have l8 := le_tr l6 b7
    clear r6_p r6_a l6
    clear b7
    go_wp2_with (first | (first | ((with_reducible refine st_load 25 _ g1 ?_ r8_p Try.underlying25 ?_ ?_ ?_); exact rfl; exact rfl; exact Try.zTr) | ((with_reducible refine st_loadG 25 _ g1 ?_ r8_p Try.underlying25 ?_ ?_ ?_ ?_); exact rfl; exact rfl; exact Try.zTr; exact rfl)))
    refine (O1 _).mono ?_
    rintro e w9 ⟨rfl, b9⟩
    have r10_p := le_on r8_p b9
    have r10_a := le_on r8_a b9
    have l10 := le_tr l8 b9
    clear r8_p r8_a l8
    clear b9
    go_wp2_with fail
    go_ret
    exact ⟨rfl, l10⟩
  | true =>
    rw [hr] at R1
    have D1 := fun W => does_c S a W
    have hE : ∀ U V, (Op.equalIn 10000 30 (.agg (tA U)) (.agg (tA U))).run Try.prog V = .ok true V := fun U V => by have := eq_tc U U V; rw [eqY_refl] at this; exact this
    by_cases h8 : 8 ≤ a.who
    · have q1 : decide (a.who < 8) = false := by simp; omega
      have q2 : decide ((a.who : Int) < 8) = false := by simp; omega
      have q3 : decide (8 ≤ a.who) = true := by simp; omega
      have q4 : decide ((8 : Int) ≤ (a.who : Int)) = true := by simp; omega
      have hb : ¬ eDo S a = 0 := fun h => by have := (do_z h).lt; omega
      obtain ⟨m, hm⟩ : ∃ m : Nat, eDo S a = m := ⟨_, rfl⟩
      rw [do_n hb, hm] at D1
      rw [hm] at hb
      have q5 : ((m : Int) != 0) = true := by simp [hb]
      have q6 : (m != 0) = true := by simp [hb]
      clear hm hb
      clear h8
      clear hr
      go_enter Try.func6, Try.ntmps6
      go_wp2_with (first | ((with_reducible refine st_box 25 _ (tA S) ?_ ?_); exact rfl))
      refine ⟨fun V1 g1 n1 f1 => ?_⟩
      have up1 : w.heap.size ≤ g1 := Nat.le_of_eq f1.at_
      have bl1 := f1.bel
      clear f1
      have l2 := le_tr (Below.refl _ _) bl1
      clear bl1
      go_wp2_with (first | ((with_reducible refine st_box 27 _ (aA a) ?_ ?_); exact rfl))
      refine ⟨fun V3 g3 n3 f3 => ?_⟩
      have ne3_p := f3.ne n1
      have up3 : w.heap.size ≤ g3 := f3.up l2
      have bl3 := f3.bel
      clear f3
      have r4_p := le_on n1 bl3
      have l4 := le_tr l2 bl3
      clear n1 l2
      clear bl3
      go_wp2_with fail
      refine (alive_c _).mono ?_
      rintro e w5 ⟨rfl, b5⟩
      have r6_p := le_on r4_p b5
      have r6_a := le_on n3 b5
      have l6 := le_tr l4 b5
      clear r4_p n3 l4
      clear b5
      go_wp2_with (first | (first | ((with_reducible refine st_load 25 _ g1 ?_ r6_p Try.underlying25 ?_ ?_ ?_); exact rfl; exact rfl; exact Try.zTr) | ((with_reducible refine st_loadG 25 _ g1 ?_ r6_p Try.underlying25 ?_ ?_ ?_ ?_); exact rfl; exact rfl; exact Try.zTr; exact rfl)))
      refine (R1 _).mono ?_
      rintro e w7 ⟨rfl, b7⟩
      have r8_p := le_on r6_p b7
      have r8_a := le_on r6_a b7
      have l8 := le_tr l6 b7
      clear r6_p r6_a l6
      clear b7
      go_wp2_with (first | (first | ((with_reducible refine st_load 25 _ g1 ?_ r8_p Try.underlying25 ?_ ?_ ?_); exact rfl; exact rfl; exact Try.zTr) | ((with_reducible refine st_loadG 25 _ g1 ?_ r8_p Try.underlying25 ?_ ?_ ?_ ?_); exact rfl; exact rfl; exact Try.zTr; exact rfl)) | ((with_reducible refine st_alloc 30 (tA zeroY) ?_ ?_); exact zero_c))
      refine ⟨fun V9 g9 n9 f9 => ?_⟩
      have ne9_p := f9.ne r8_p
      have ne9_a := f9.ne r8_a
      have up9 : w.heap.size ≤ g9 := f9.up l8
      have bl9 := f9.bel
      clear f9
      have r10_p := le_on r8_p bl9
      have r10_a := le_on r8_a bl9
      have l10 := le_tr l8 bl9
      clear r8_p r8_a l8
      clear bl9
      go_wp2_with (first | ((with_reducible refine st_store 30 _ _ g9 (tA S) ?_ ?_ n9 ?_ ?_ ?_ ?_); exact rfl; exact rfl; exact Try.zTc; exact rfl; exact tA_one _))
      refine ⟨fun V11 n11 k11 => ?_⟩
      have m11_p := k11.on r10_p ne9_p
      have m11_a := k11.on r10_a ne9_a
      have o11 := k11.bel _ _ l10 up9
      clear k11
      clear n9 r10_p r10_a l10
      go_wp2_with (first | (first | ((with_reducible refine st_load 30 _ g9 ?_ n11 Try.underlying30 ?_ ?_ ?_); exact rfl; exact rfl; exact Try.zTc) | ((with_reducible refine st_loadG 30 _ g9 ?_ n11 Try.underlying30 ?_ ?_ ?_ ?_); exact rfl; exact rfl; exact Try.zTc; exact rfl)) | (first | ((with_reducible refine st_load 27 _ g3 ?_ m11_a Try.underlying27 ?_ ?_ ?_); exact rfl; exact rfl; exact Try.zAct) | ((with_reducible refine st_loadG 27 _ g3 ?_ m11_a Try.underlying27 ?_ ?_ ?_ ?_); exact rfl; exact rfl; exact Try.zAct; exact rfl)))
      refine (D1 _).mono ?_
      rintro e w12 ⟨rfl, b12⟩
      have r13_p := le_on m11_p b12
      have r13_a := le_on m11_a b12
      have r13_x := le_on n11 b12
      have l13 := le_tr o11 b12
      clear m11_p m11_a n11 o11
      clear b12
      go_wp2_with (first | ((with_reducible refine st_alloc 30 (tA zeroY) ?_ ?_); exact zero_c))
      refine ⟨fun V14 g14 n14 f14 => ?_⟩
      have ne14_p := f14.ne r13_p
      have ne14_a := f14.ne r13_a
      have ne14_x := f14.ne r13_x
      have up14 : w.heap.size ≤ g14 := f14.up l13
      have bl14 := f14.bel
      clear f14
      have r15_p := le_on r13_p bl14
      have r15_a := le_on r13_a bl14
      have r15_x := le_on r13_x bl14
      have l15 := le_tr l13 bl14
      clear r13_p r13_a r13_x l13
      clear bl14
      go_wp2_with (first | ((with_reducible refine st_store 30 _ _ g14 (tA S) ?_ ?_ n14 ?_ ?_ ?_ ?_); exact rfl; exact rfl; exact Try.zTc; exact rfl; exact tA_one _))
      refine ⟨fun V16 n16 k16 => ?_⟩
      have m16_p := k16.on r15_p ne14_p
      have m16_a := k16.on r15_a ne14_a
      have m16_x := k16.on r15_x ne14_x
      have o16 := k16.bel _ _ l15 up14
      clear k16
      clear n14 r15_p r15_a r15_x l15
      go_wp2_with fail
      have y17 := Lib.hid (show (fun V : World => CB V g1 25 (tA S) ∧ CB V g3 27 (aA a)) V16 from ⟨m16_p, m16_a⟩)
      refine wp_region_held_drew (S := (fun V : World => CB V g1 25 (tA S) ∧ CB V g3 27 (aA a))) (by kernel_rfl) y17.out (fun hHeld => ?_)
      obtain ⟨D17, hD17⟩ : ∃ V, V16.drew = V := ⟨_, rfl⟩
      have b17 : Below V16.heap.size V16 D17 := by rw [← hD17]; exact le_dr (Below.refl _ _)
      rw [hD17] at hHeld ⊢
      clear hD17
      have r18_p := le_on m16_p b17
      have r18_a := le_on m16_a b17
      have r18_x := le_on m16_x b17
      have r18_y := le_on n16 b17
      have l18 := le_tr o16 b17
      clear m16_p m16_a m16_x n16 o16
      clear b17
      refine wpAnyH_takeL (i := 0) (d := some 23) (v := .pointer (some ⟨g3, 1, none⟩)) rfl rfl (by kernel_rfl) (by kernel_rfl) (by kernel_rfl) (fun _ _ _ h => h) (Or.inl ⟨by rfl, ?_⟩) hHeld ?_
      · intro w hSw; (try dsimp only at hSw); go_simp
      try simp only [Act.put, List.setIfInBounds_toArray, List.set_cons_zero, List.set_cons_succ]
      refine wpAnyH_takeL (i := 1) (d := some 24) (v := .int .u8 (a.who : Int)) rfl rfl (by kernel_rfl) (by kernel_rfl) (by kernel_rfl) (fun _ _ _ h => h) (Or.inl ⟨by rfl, ?_⟩) hHeld ?_
      · intro w hSw; (try dsimp only at hSw); have hcc : w.cell? ⟨g3, 1, none⟩ = some (.int .u8 (a.who : Int)) := CB.cell hSw.2 1; go_simp
      try simp only [Act.put, List.setIfInBounds_toArray, List.set_cons_zero, List.set_cons_succ]
      refine wpAnyH_takeL (i := 2) (d := some 25) (v := .bool false) rfl rfl (by kernel_rfl) (by kernel_rfl) (by kernel_rfl) (fun _ _ _ h => h) (Or.inl ⟨by rfl, ?_⟩) hHeld ?_
      · intro w hSw; (try dsimp only at hSw); go_simp
      try simp only [Act.put, List.setIfInBounds_toArray, List.set_cons_zero, List.set_cons_succ]
      refine wpAnyH_takeL (i := 3) (d := some 26) (v := .bool false) rfl rfl (by kernel_rfl) (by kernel_rfl) (by kernel_rfl) (fun _ _ _ h => h) (Or.inl ⟨by rfl, ?_⟩) hHeld ?_
      · intro w hSw; (try dsimp only at hSw); go_simp
      try simp only [Act.put, List.setIfInBounds_toArray, List.set_cons_zero, List.set_cons_succ]
      refine wpAnyH_takeL (i := 4) (d := some 27) (v := undef) rfl rfl (by kernel_rfl) (by kernel_rfl) (by kernel_rfl) (fun _ _ _ h => h) (Or.inr ⟨by kernel_rfl, rfl⟩) hHeld ?_
      try simp only [Act.put, List.setIfInBounds_toArray, List.set_cons_zero, List.set_cons_succ]
      refine wpAnyH_takeL (i := 5) (d := some 28) (v := undef) rfl rfl (by kernel_rfl) (by kernel_rfl) (by kernel_rfl) (fun _ _ _ h => h) (Or.inr ⟨by kernel_rfl, rfl⟩) hHeld ?_
      try simp only [Act.put, List.setIfInBounds_toArray, List.set_cons_zero, List.set_cons_succ]
      refine wpAnyH_takeL (i := 6) (d := some 29) (v := undef) rfl rfl (by kernel_rfl) (by kernel_rfl) (by kernel_rfl) (fun _ _ _ h => h) (Or.inr ⟨by kernel_rfl, rfl⟩) hHeld ?_
      try simp only [Act.put, List.setIfInBounds_toArray, List.set_cons_zero, List.set_cons_succ]
      refine wpAnyH_takeL (i := 7) (d := some 30) (v := undef) rfl rfl (by kernel_rfl) (by kernel_rfl) (by kernel_rfl) (fun _ _ _ h => h) (Or.inr ⟨by kernel_rfl, rfl⟩) hHeld ?_
      try simp only [Act.put, List.setIfInBounds_toArray, List.set_cons_zero, List.set_cons_succ]
      refine wpAnyH_takeL (i := 8) (d := some 31) (v := undef) rfl rfl (by kernel_rfl) (by kernel_rfl) (by kernel_rfl) (fun _ _ _ h => h) (Or.inr ⟨by kernel_rfl, rfl⟩) hHeld ?_
      try simp only [Act.put, List.setIfInBounds_toArray, List.set_cons_zero, List.set_cons_succ]
      refine wpAnyH_takeL (i := 9) (d := some 32) (v := .bool false) rfl rfl (by kernel_rfl) (by kernel_rfl) (by kernel_rfl) (fun _ _ _ h => h) (Or.inl ⟨by rfl, ?_⟩) hHeld ?_
      · intro w hSw; (try dsimp only at hSw); go_simp
      try simp only [Act.put, List.setIfInBounds_toArray, List.set_cons_zero, List.set_cons_succ]
      refine wpAnyH_takeL (i := 10) (d := some 33) (v := .bool false) rfl rfl (by kernel_rfl) (by kernel_rfl) (by kernel_rfl) (fun _ _ _ h => h) (Or.inl ⟨by rfl, ?_⟩) hHeld ?_
      · intro w hSw; (try dsimp only at hSw); go_simp
      try simp only [Act.put, List.setIfInBounds_toArray, List.set_cons_zero, List.set_cons_succ]
      refine wpAnyH_takeL (i := 11) (d := some 34) (v := undef) rfl rfl (by kernel_rfl) (by kernel_rfl) (by kernel_rfl) (fun _ _ _ h => h) (Or.inr ⟨by kernel_rfl, rfl⟩) hHeld ?_
      try simp only [Act.put, List.setIfInBounds_toArray, List.set_cons_zero, List.set_cons_succ]
      refine wpAnyH_takeL (i := 12) (d := some 35) (v := undef) rfl rfl (by kernel_rfl) (by kernel_rfl) (by kernel_rfl) (fun _ _ _ h => h) (Or.inr ⟨by kernel_rfl, rfl⟩) hHeld ?_
      try simp only [Act.put, List.setIfInBounds_toArray, List.set_cons_zero, List.set_cons_succ]
      refine wpAnyH_takeL (i := 13) (d := some 36) (v := undef) rfl rfl (by kernel_rfl) (by kernel_rfl) (by kernel_rfl) (fun _ _ _ h => h) (Or.inr ⟨by kernel_rfl, rfl⟩) hHeld ?_
      try simp only [Act.put, List.setIfInBounds_toArray, List.set_cons_zero, List.set_cons_succ]
      refine wpAnyH_takeL (i := 14) (d := some 37) (v := undef) rfl rfl (by kernel_rfl) (by kernel_rfl) (by kernel_rfl) (fun _ _ _ h => h) (Or.inr ⟨by kernel_rfl, rfl⟩) hHeld ?_
      try simp only [Act.put, List.setIfInBounds_toArray, List.set_cons_zero, List.set_cons_succ]
      refine wpAnyH_takeL (i := 15) (d := some 38) (v := undef) rfl rfl (by kernel_rfl) (by kernel_rfl) (by kernel_rfl) (fun _ _ _ h => h) (Or.inr ⟨by kernel_rfl, rfl⟩) hHeld ?_
      try simp only [Act.put, List.setIfInBounds_toArray, List.set_cons_zero, List.set_cons_succ]
      refine wpAnyH_takeL (i := 16) (d := some 39) (v := undef) rfl rfl (by kernel_rfl) (by kernel_rfl) (by kernel_rfl) (fun _ _ _ h => h) (Or.inr ⟨by kernel_rfl, rfl⟩) hHeld ?_
      try simp only [Act.put, List.setIfInBounds_toArray, List.set_cons_zero, List.set_cons_succ]
      refine wpAnyH_takeL (i := 17) (d := some 40) (v := undef) rfl rfl (by kernel_rfl) (by kernel_rfl) (by kernel_rfl) (fun _ _ _ h => h) (Or.inr ⟨by kernel_rfl, rfl⟩) hHeld ?_
      try simp only [Act.put, List.setIfInBounds_toArray, List.set_cons_zero, List.set_cons_succ]
      refine wpAnyH_takeL (i := 18) (d := some 41) (v := undef) rfl rfl (by kernel_rfl) (by kernel_rfl) (by kernel_rfl) (fun _ _ _ h => h) (Or.inr ⟨by kernel_rfl, rfl⟩) hHeld ?_
      try simp only [Act.put, List.setIfInBounds_toArray, List.set_cons_zero, List.set_cons_succ]
      refine wpAnyH_takeL (i := 19) (d := some 42) (v := .bool false) rfl rfl (by kernel_rfl) (by kernel_rfl) (by kernel_rfl) (fun _ _ _ h => h) (Or.inl ⟨by rfl, ?_⟩) hHeld ?_
      · intro w hSw; (try dsimp only at hSw); go_simp
      try simp only [Act.put, List.setIfInBounds_toArray, List.set_cons_zero, List.set_cons_succ]
      refine wpAnyH_takeL (i := 20) (d := some 43) (v := .bool false) rfl rfl (by kernel_rfl) (by kernel_rfl) (by kernel_rfl) (fun _ _ _ h => h) (Or.inl ⟨by rfl, ?_⟩) hHeld ?_
      · intro w hSw; (try dsimp only at hSw); go_simp
      try simp only [Act.put, List.setIfInBounds_toArray, List.set_cons_zero, List.set_cons_succ]
      refine wpAnyH_takeL (i := 21) (d := some 44) (v := .pointer (some ⟨g3, 1, none⟩)) rfl rfl (by kernel_rfl) (by kernel_rfl) (by kernel_rfl) (fun _ _ _ h => h) (Or.inl ⟨by rfl, ?_⟩) hHeld ?_
      · intro w hSw; (try dsimp only at hSw); go_simp
      try simp only [Act.put, List.setIfInBounds_toArray, List.set_cons_zero, List.set_cons_succ]
      refine wpAnyH_takeL (i := 22) (d := some 45) (v := .int .u8 (a.who : Int)) rfl rfl (by kernel_rfl) (by kernel_rfl) (by kernel_rfl) (fun _ _ _ h => h) (Or.inl ⟨by rfl, ?_⟩) hHeld ?_
      · intro w hSw; (try dsimp only at hSw); have hcc : w.cell? ⟨g3, 1, none⟩ = some (.int .u8 (a.who : Int)) := CB.cell hSw.2 1; go_simp
      try simp only [Act.put, List.setIfInBounds_toArray, List.set_cons_zero, List.set_cons_succ]
      refine wpAnyH_takeL (i := 23) (d := some 46) (v := .bool true) rfl rfl (by kernel_rfl) (by kernel_rfl) (by kernel_rfl) (fun _ _ _ h => h) (Or.inl ⟨by rfl, ?_⟩) hHeld ?_
      · intro w hSw; (try dsimp only at hSw); go_simp
      try simp only [Act.put, List.setIfInBounds_toArray, List.set_cons_zero, List.set_cons_succ]
      refine wpAnyH_takeL (i := 24) (d := some 47) (v := .bool true) rfl rfl (by kernel_rfl) (by kernel_rfl) (by kernel_rfl) (fun _ _ _ h => h) (Or.inl ⟨by rfl, ?_⟩) hHeld ?_
      · intro w hSw; (try dsimp only at hSw); go_simp
      try simp only [Act.put, List.setIfInBounds_toArray, List.set_cons_zero, List.set_cons_succ]
      refine wpAnyH_takeL (i := 25) (d := some 48) (v := .bool true) rfl rfl (by kernel_rfl) (by kernel_rfl) (by kernel_rfl) (fun _ _ _ h => h) (Or.inl ⟨by rfl, ?_⟩) hHeld ?_
      · intro w hSw; (try dsimp only at hSw); go_simp
      try simp only [Act.put, List.setIfInBounds_toArray, List.set_cons_zero, List.set_cons_succ]
      refine wpAnyH_takeL (i := 26) (d := some 49) (v := undef) rfl rfl (by kernel_rfl) (by kernel_rfl) (by kernel_rfl) (fun _ _ _ h => h) (Or.inr ⟨by kernel_rfl, rfl⟩) hHeld ?_
      try simp only [Act.put, List.setIfInBounds_toArray, List.set_cons_zero, List.set_cons_succ]
      refine wpAnyH_takeL (i := 27) (d := some 50) (v := undef) rfl rfl (by kernel_rfl) (by kernel_rfl) (by kernel_rfl) (fun _ _ _ h => h) (Or.inr ⟨by kernel_rfl, rfl⟩) hHeld ?_
      try simp only [Act.put, List.setIfInBounds_toArray, List.set_cons_zero, List.set_cons_succ]
      refine wpAnyH_takeL (i := 28) (d := some 51) (v := undef) rfl rfl (by kernel_rfl) (by kernel_rfl) (by kernel_rfl) (fun _ _ _ h => h) (Or.inr ⟨by kernel_rfl, rfl⟩) hHeld ?_
      try simp only [Act.put, List.setIfInBounds_toArray, List.set_cons_zero, List.set_cons_succ]
      refine wpAnyH_takeL (i := 29) (d := some 52) (v := undef) rfl rfl (by kernel_rfl) (by kernel_rfl) (by kernel_rfl) (fun _ _ _ h => h) (Or.inr ⟨by kernel_rfl, rfl⟩) hHeld ?_
      try simp only [Act.put, List.setIfInBounds_toArray, List.set_cons_zero, List.set_cons_succ]
      refine wpAnyH_takeL (i := 30) (d := some 53) (v := undef) rfl rfl (by kernel_rfl) (by kernel_rfl) (by kernel_rfl) (fun _ _ _ h => h) (Or.inr ⟨by kernel_rfl, rfl⟩) hHeld ?_
      try simp only [Act.put, List.setIfInBounds_toArray, List.set_cons_zero, List.set_cons_succ]
      refine wpAnyH_takeL (i := 31) (d := some 54) (v := undef) rfl rfl (by kernel_rfl) (by kernel_rfl) (by kernel_rfl) (fun _ _ _ h => h) (Or.inr ⟨by kernel_rfl, rfl⟩) hHeld ?_
      try simp only [Act.put, List.setIfInBounds_toArray, List.set_cons_zero, List.set_cons_succ]
      refine wpAnyH_takeL (i := 32) (d := some 55) (v := undef) rfl rfl (by kernel_rfl) (by kernel_rfl) (by kernel_rfl) (fun _ _ _ h => h) (Or.inr ⟨by kernel_rfl, rfl⟩) hHeld ?_
      try simp only [Act.put, List.setIfInBounds_toArray, List.set_cons_zero, List.set_cons_succ]
      refine wpAnyH_takeL (i := 33) (d := some 56) (v := .bool true) rfl rfl (by kernel_rfl) (by kernel_rfl) (by kernel_rfl) (fun _ _ _ h => h) (Or.inl ⟨by rfl, ?_⟩) hHeld ?_
      · intro w hSw; (try dsimp only at hSw); go_simp
      try simp only [Act.put, List.setIfInBounds_toArray, List.set_cons_zero, List.set_cons_succ]
      refine wpAnyH_done (by kernel_rfl) ?_ _
      go_wp2_with (first | (first | ((with_reducible refine st_load 30 _ g14 ?_ r18_y Try.underlying30 ?_ ?_ ?_); exact rfl; exact rfl; exact Try.zTc) | ((with_reducible refine st_loadG 30 _ g14 ?_ r18_y Try.underlying30 ?_ ?_ ?_ ?_); exact rfl; exact rfl; exact Try.zTc; exact rfl)) | (first | ((with_reducible refine st_load 30 _ g9 ?_ r18_x Try.underlying30 ?_ ?_ ?_); exact rfl; exact rfl; exact Try.zTc) | ((with_reducible refine st_loadG 30 _ g9 ?_ r18_x Try.underlying30 ?_ ?_ ?_ ?_); exact rfl; exact rfl; exact Try.zTc; exact rfl)))
      go_ret
      exact ⟨rfl, l18⟩
    have hlt : a.who < 8 := by omega
    have q1 : decide (a.who < 8) = true := by simp; omega
    have q2 : decide ((a.who : Int) < 8) = true := by simp; omega
    have q3 : decide (8 ≤ a.who) = false := by simp; omega
    have q4 : decide ((8 : Int) ≤ (a.who : Int)) = false := by simp; omega
    have j1 : (a.who : Int) < 8 := by omega
    have j2 : (0 : Int) ≤ (a.who : Int) := by omega
    have htm : (a.who : Int).tmod 8 = (a.who : Int) := by rw [Int.tmod_eq_emod_of_nonneg j2]; omega
    clear h8
    cases hin : S.wh a.who with
    | false =>
      have hb : ¬ eDo S a = 0 := fun h => by have := (do_z h).in_; rw [hin] at this; cases this
      obtain ⟨m, hm⟩ : ∃ m : Nat, eDo S a = m := ⟨_, rfl⟩
      rw [do_n hb, hm] at D1
      rw [hm] at hb
      have q5 : ((m : Int) != 0) = true := by simp [hb]
      have q6 : (m != 0) = true := by simp [hb]
      clear hm hb
      clear hr
      go_enter Try.func6, Try.ntmps6
      go_wp2_with (first | ((with_reducible refine st_box 25 _ (tA S) ?_ ?_); exact rfl))
      refine ⟨fun V1 g1 n1 f1 => ?_⟩
      have up1 : w.heap.size ≤ g1 := Nat.le_of_eq f1.at_
      have bl1 := f1.bel
      clear f1
      have l2 := le_tr (Below.refl _ _) bl1
      clear bl1
      go_wp2_with (first | ((with_reducible refine st_box 27 _ (aA a) ?_ ?_); exact rfl))
      refine ⟨fun V3 g3 n3 f3 => ?_⟩
      have ne3_p := f3.ne n1
      have up3 : w.heap.size ≤ g3 := f3.up l2
      have bl3 := f3.bel
      clear f3
      have r4_p := le_on n1 bl3
      have l4 := le_tr l2 bl3
      clear n1 l2
      clear bl3
      go_wp2_with fail
      refine (alive_c _).mono ?_
      rintro e w5 ⟨rfl, b5⟩
      have r6_p := le_on r4_p b5
      have r6_a := le_on n3 b5
      have l6 := le_tr l4 b5
      clear r4_p n3 l4
      clear b5
      go_wp2_with (first | (first | ((with_reducible refine st_load 25 _ g1 ?_ r6_p Try.underlying25 ?_ ?_ ?_); exact rfl; exact rfl; exact Try.zTr) | ((with_reducible refine st_loadG 25 _ g1 ?_ r6_p Try.underlying25 ?_ ?_ ?_ ?_); exact rfl; exact rfl; exact Try.zTr; exact rfl)))
      refine (R1 _).mono ?_
      rintro e w7 ⟨rfl, b7⟩
      have r8_p := le_on r6_p b7
      have r8_a := le_on r6_a b7
      have l8 := le_tr l6 b7
      clear r6_p r6_a l6
      clear b7
      go_wp2_with (first | (first | ((with_reducible refine st_load 25 _ g1 ?_ r8_p Try.underlying25 ?_ ?_ ?_); exact rfl; exact rfl; exact Try.zTr) | ((with_reducible refine st_loadG 25 _ g1 ?_ r8_p Try.underlying25 ?_ ?_ ?_ ?_); exact rfl; exact rfl; exact Try.zTr; exact rfl)) | ((with_reducible refine st_alloc 30 (tA zeroY) ?_ ?_); exact zero_c))
      refine ⟨fun V9 g9 n9 f9 => ?_⟩
      have ne9_p := f9.ne r8_p
      have ne9_a := f9.ne r8_a
      have up9 : w.heap.size ≤ g9 := f9.up l8
      have bl9 := f9.bel
      clear f9
      have r10_p := le_on r8_p bl9
      have r10_a := le_on r8_a bl9
      have l10 := le_tr l8 bl9
      clear r8_p r8_a l8
      clear bl9
      go_wp2_with (first | ((with_reducible refine st_store 30 _ _ g9 (tA S) ?_ ?_ n9 ?_ ?_ ?_ ?_); exact rfl; exact rfl; exact Try.zTc; exact rfl; exact tA_one _))
      refine ⟨fun V11 n11 k11 => ?_⟩
      have m11_p := k11.on r10_p ne9_p
      have m11_a := k11.on r10_a ne9_a
      have o11 := k11.bel _ _ l10 up9
      clear k11
      clear n9 r10_p r10_a l10
      go_wp2_with (first | (first | ((with_reducible refine st_load 30 _ g9 ?_ n11 Try.underlying30 ?_ ?_ ?_); exact rfl; exact rfl; exact Try.zTc) | ((with_reducible refine st_loadG 30 _ g9 ?_ n11 Try.underlying30 ?_ ?_ ?_ ?_); exact rfl; exact rfl; exact Try.zTc; exact rfl)) | (first | ((with_reducible refine st_load 27 _ g3 ?_ m11_a Try.underlying27 ?_ ?_ ?_); exact rfl; exact rfl; exact Try.zAct) | ((with_reducible refine st_loadG 27 _ g3 ?_ m11_a Try.underlying27 ?_ ?_ ?_ ?_); exact rfl; exact rfl; exact Try.zAct; exact rfl)))
      refine (D1 _).mono ?_
      rintro e w12 ⟨rfl, b12⟩
      have r13_p := le_on m11_p b12
      have r13_a := le_on m11_a b12
      have r13_x := le_on n11 b12
      have l13 := le_tr o11 b12
      clear m11_p m11_a n11 o11
      clear b12
      go_wp2_with (first | ((with_reducible refine st_alloc 30 (tA zeroY) ?_ ?_); exact zero_c))
      refine ⟨fun V14 g14 n14 f14 => ?_⟩
      have ne14_p := f14.ne r13_p
      have ne14_a := f14.ne r13_a
      have ne14_x := f14.ne r13_x
      have up14 : w.heap.size ≤ g14 := f14.up l13
      have bl14 := f14.bel
      clear f14
      have r15_p := le_on r13_p bl14
      have r15_a := le_on r13_a bl14
      have r15_x := le_on r13_x bl14
      have l15 := le_tr l13 bl14
      clear r13_p r13_a r13_x l13
      clear bl14
      go_wp2_with (first | ((with_reducible refine st_store 30 _ _ g14 (tA S) ?_ ?_ n14 ?_ ?_ ?_ ?_); exact rfl; exact rfl; exact Try.zTc; exact rfl; exact tA_one _))
      refine ⟨fun V16 n16 k16 => ?_⟩
      have m16_p := k16.on r15_p ne14_p
      have m16_a := k16.on r15_a ne14_a
      have m16_x := k16.on r15_x ne14_x
      have o16 := k16.bel _ _ l15 up14
      clear k16
      clear n14 r15_p r15_a r15_x l15
      go_wp2_with fail
      have y17 := Lib.hid (show (fun V : World => CB V g1 25 (tA S) ∧ CB V g3 27 (aA a)) V16 from ⟨m16_p, m16_a⟩)
      refine wp_region_held_drew (S := (fun V : World => CB V g1 25 (tA S) ∧ CB V g3 27 (aA a))) (by kernel_rfl) y17.out (fun hHeld => ?_)
      obtain ⟨D17, hD17⟩ : ∃ V, V16.drew = V := ⟨_, rfl⟩
      have b17 : Below V16.heap.size V16 D17 := by rw [← hD17]; exact le_dr (Below.refl _ _)
      rw [hD17] at hHeld ⊢
      clear hD17
      have r18_p := le_on m16_p b17
      have r18_a := le_on m16_a b17
      have r18_x := le_on m16_x b17
      have r18_y := le_on n16 b17
      have l18 := le_tr o16 b17
      clear m16_p m16_a m16_x n16 o16
      clear b17
      refine wpAnyH_takeL (i := 0) (d := some 23) (v := .pointer (some ⟨g3, 1, none⟩)) rfl rfl (by kernel_rfl) (by kernel_rfl) (by kernel_rfl) (fun _ _ _ h => h) (Or.inl ⟨by rfl, ?_⟩) hHeld ?_
      · intro w hSw; (try dsimp only at hSw); go_simp
      try simp only [Act.put, List.setIfInBounds_toArray, List.set_cons_zero, List.set_cons_succ]
      refine wpAnyH_takeL (i := 1) (d := some 24) (v := .int .u8 (a.who : Int)) rfl rfl (by kernel_rfl) (by kernel_rfl) (by kernel_rfl) (fun _ _ _ h => h) (Or.inl ⟨by rfl, ?_⟩) hHeld ?_
      · intro w hSw; (try dsimp only at hSw); have hcc : w.cell? ⟨g3, 1, none⟩ = some (.int .u8 (a.who : Int)) := CB.cell hSw.2 1; go_simp
      try simp only [Act.put, List.setIfInBounds_toArray, List.set_cons_zero, List.set_cons_succ]
      refine wpAnyH_takeL (i := 2) (d := some 25) (v := .bool true) rfl rfl (by kernel_rfl) (by kernel_rfl) (by kernel_rfl) (fun _ _ _ h => h) (Or.inl ⟨by rfl, ?_⟩) hHeld ?_
      · intro w hSw; (try dsimp only at hSw); go_simp
      try simp only [Act.put, List.setIfInBounds_toArray, List.set_cons_zero, List.set_cons_succ]
      refine wpAnyH_takeL (i := 3) (d := some 26) (v := .bool true) rfl rfl (by kernel_rfl) (by kernel_rfl) (by kernel_rfl) (fun _ _ _ h => h) (Or.inl ⟨by rfl, ?_⟩) hHeld ?_
      · intro w hSw; (try dsimp only at hSw); go_simp
      try simp only [Act.put, List.setIfInBounds_toArray, List.set_cons_zero, List.set_cons_succ]
      refine wpAnyH_takeL (i := 4) (d := some 27) (v := .pointer (some ⟨g3, 1, none⟩)) rfl rfl (by kernel_rfl) (by kernel_rfl) (by kernel_rfl) (fun _ _ _ h => h) (Or.inl ⟨by rfl, ?_⟩) hHeld ?_
      · intro w hSw; (try dsimp only at hSw); go_simp
      try simp only [Act.put, List.setIfInBounds_toArray, List.set_cons_zero, List.set_cons_succ]
      refine wpAnyH_takeL (i := 5) (d := some 28) (v := .int .u8 (a.who : Int)) rfl rfl (by kernel_rfl) (by kernel_rfl) (by kernel_rfl) (fun _ _ _ h => h) (Or.inl ⟨by rfl, ?_⟩) hHeld ?_
      · intro w hSw; (try dsimp only at hSw); have hcc : w.cell? ⟨g3, 1, none⟩ = some (.int .u8 (a.who : Int)) := CB.cell hSw.2 1; go_simp
      try simp only [Act.put, List.setIfInBounds_toArray, List.set_cons_zero, List.set_cons_succ]
      refine wpAnyH_takeL (i := 6) (d := some 29) (v := .pointer (some ⟨g1, 0, none⟩)) rfl rfl (by kernel_rfl) (by kernel_rfl) (by kernel_rfl) (fun _ _ _ h => h) (Or.inl ⟨by rfl, ?_⟩) hHeld ?_
      · intro w hSw; (try dsimp only at hSw); go_simp
      try simp only [Act.put, List.setIfInBounds_toArray, List.set_cons_zero, List.set_cons_succ]
      refine wpAnyH_takeL (i := 7) (d := some 30) (v := .pointer (some ⟨g1, a.who, none⟩)) rfl rfl (by kernel_rfl) (by kernel_rfl) (by kernel_rfl) (fun _ _ _ h => h) (Or.inl ⟨by rfl, ?_⟩) hHeld ?_
      · intro w hSw; (try dsimp only at hSw); go_simp
      try simp only [Act.put, List.setIfInBounds_toArray, List.set_cons_zero, List.set_cons_succ]
      refine wpAnyH_takeL (i := 8) (d := some 31) (v := .bool false) rfl rfl (by kernel_rfl) (by kernel_rfl) (by kernel_rfl) (fun _ _ _ h => h) (Or.inl ⟨by rfl, ?_⟩) hHeld ?_
      · intro w hSw; (try dsimp only at hSw); have hcc := (CB.cell hSw.1 (a.who)).trans (tA_wh S hlt); go_simp
      try simp only [Act.put, List.setIfInBounds_toArray, List.set_cons_zero, List.set_cons_succ]
      refine wpAnyH_takeL (i := 9) (d := some 32) (v := .bool false) rfl rfl (by kernel_rfl) (by kernel_rfl) (by kernel_rfl) (fun _ _ _ h => h) (Or.inl ⟨by rfl, ?_⟩) hHeld ?_
      · intro w hSw; (try dsimp only at hSw); go_simp
      try simp only [Act.put, List.setIfInBounds_toArray, List.set_cons_zero, List.set_cons_succ]
      refine wpAnyH_takeL (i := 10) (d := some 33) (v := .bool false) rfl rfl (by kernel_rfl) (by kernel_rfl) (by kernel_rfl) (fun _ _ _ h => h) (Or.inl ⟨by rfl, ?_⟩) hHeld ?_
      · intro w hSw; (try dsimp only at hSw); go_simp
      try simp only [Act.put, List.setIfInBounds_toArray, List.set_cons_zero, List.set_cons_succ]
      refine wpAnyH_takeL (i := 11) (d := some 34) (v := undef) rfl rfl (by kernel_rfl) (by kernel_rfl) (by kernel_rfl) (fun _ _ _ h => h) (Or.inr ⟨by kernel_rfl, rfl⟩) hHeld ?_
      try simp only [Act.put, List.setIfInBounds_toArray, List.set_cons_zero, List.set_cons_succ]
      refine wpAnyH_takeL (i := 12) (d := some 35) (v := undef) rfl rfl (by kernel_rfl) (by kernel_rfl) (by kernel_rfl) (fun _ _ _ h => h) (Or.inr ⟨by kernel_rfl, rfl⟩) hHeld ?_
      try simp only [Act.put, List.setIfInBounds_toArray, List.set_cons_zero, List.set_cons_succ]
      refine wpAnyH_takeL (i := 13) (d := some 36) (v := undef) rfl rfl (by kernel_rfl) (by kernel_rfl) (by kernel_rfl) (fun _ _ _ h => h) (Or.inr ⟨by kernel_rfl, rfl⟩) hHeld ?_
      try simp only [Act.put, List.setIfInBounds_toArray, List.set_cons_zero, List.set_cons_succ]
      refine wpAnyH_takeL (i := 14) (d := some 37) (v := undef) rfl rfl (by kernel_rfl) (by kernel_rfl) (by kernel_rfl) (fun _ _ _ h => h) (Or.inr ⟨by kernel_rfl, rfl⟩) hHeld ?_
      try simp only [Act.put, List.setIfInBounds_toArray, List.set_cons_zero, List.set_cons_succ]
      refine wpAnyH_takeL (i := 15) (d := some 38) (v := undef) rfl rfl (by kernel_rfl) (by kernel_rfl) (by kernel_rfl) (fun _ _ _ h => h) (Or.inr ⟨by kernel_rfl, rfl⟩) hHeld ?_
      try simp only [Act.put, List.setIfInBounds_toArray, List.set_cons_zero, List.set_cons_succ]
      refine wpAnyH_takeL (i := 16) (d := some 39) (v := undef) rfl rfl (by kernel_rfl) (by kernel_rfl) (by kernel_rfl) (fun _ _ _ h => h) (Or.inr ⟨by kernel_rfl, rfl⟩) hHeld ?_
      try simp only [Act.put, List.setIfInBounds_toArray, List.set_cons_zero, List.set_cons_succ]
      refine wpAnyH_takeL (i := 17) (d := some 40) (v := undef) rfl rfl (by kernel_rfl) (by kernel_rfl) (by kernel_rfl) (fun _ _ _ h => h) (Or.inr ⟨by kernel_rfl, rfl⟩) hHeld ?_
      try simp only [Act.put, List.setIfInBounds_toArray, List.set_cons_zero, List.set_cons_succ]
      refine wpAnyH_takeL (i := 18) (d := some 41) (v := undef) rfl rfl (by kernel_rfl) (by kernel_rfl) (by kernel_rfl) (fun _ _ _ h => h) (Or.inr ⟨by kernel_rfl, rfl⟩) hHeld ?_
      try simp only [Act.put, List.setIfInBounds_toArray, List.set_cons_zero, List.set_cons_succ]
      refine wpAnyH_takeL (i := 19) (d := some 42) (v := .bool false) rfl rfl (by kernel_rfl) (by kernel_rfl) (by kernel_rfl) (fun _ _ _ h => h) (Or.inl ⟨by rfl, ?_⟩) hHeld ?_
      · intro w hSw; (try dsimp only at hSw); go_simp
      try simp only [Act.put, List.setIfInBounds_toArray, List.set_cons_zero, List.set_cons_succ]
      refine wpAnyH_takeL (i := 20) (d := some 43) (v := .bool false) rfl rfl (by kernel_rfl) (by kernel_rfl) (by kernel_rfl) (fun _ _ _ h => h) (Or.inl ⟨by rfl, ?_⟩) hHeld ?_
      · intro w hSw; (try dsimp only at hSw); go_simp
      try simp only [Act.put, List.setIfInBounds_toArray, List.set_cons_zero, List.set_cons_succ]
      refine wpAnyH_takeL (i := 21) (d := some 44) (v := .pointer (some ⟨g3, 1, none⟩)) rfl rfl (by kernel_rfl) (by kernel_rfl) (by kernel_rfl) (fun _ _ _ h => h) (Or.inl ⟨by rfl, ?_⟩) hHeld ?_
      · intro w hSw; (try dsimp only at hSw); go_simp
      try simp only [Act.put, List.setIfInBounds_toArray, List.set_cons_zero, List.set_cons_succ]
      refine wpAnyH_takeL (i := 22) (d := some 45) (v := .int .u8 (a.who : Int)) rfl rfl (by kernel_rfl) (by kernel_rfl) (by kernel_rfl) (fun _ _ _ h => h) (Or.inl ⟨by rfl, ?_⟩) hHeld ?_
      · intro w hSw; (try dsimp only at hSw); have hcc : w.cell? ⟨g3, 1, none⟩ = some (.int .u8 (a.who : Int)) := CB.cell hSw.2 1; go_simp
      try simp only [Act.put, List.setIfInBounds_toArray, List.set_cons_zero, List.set_cons_succ]
      refine wpAnyH_takeL (i := 23) (d := some 46) (v := .bool false) rfl rfl (by kernel_rfl) (by kernel_rfl) (by kernel_rfl) (fun _ _ _ h => h) (Or.inl ⟨by rfl, ?_⟩) hHeld ?_
      · intro w hSw; (try dsimp only at hSw); go_simp
      try simp only [Act.put, List.setIfInBounds_toArray, List.set_cons_zero, List.set_cons_succ]
      refine wpAnyH_takeL (i := 24) (d := some 47) (v := .bool false) rfl rfl (by kernel_rfl) (by kernel_rfl) (by kernel_rfl) (fun _ _ _ h => h) (Or.inl ⟨by rfl, ?_⟩) hHeld ?_
      · intro w hSw; (try dsimp only at hSw); go_simp
      try simp only [Act.put, List.setIfInBounds_toArray, List.set_cons_zero, List.set_cons_succ]
      refine wpAnyH_takeL (i := 25) (d := some 48) (v := .bool false) rfl rfl (by kernel_rfl) (by kernel_rfl) (by kernel_rfl) (fun _ _ _ h => h) (Or.inl ⟨by rfl, ?_⟩) hHeld ?_
      · intro w hSw; (try dsimp only at hSw); go_simp
      try simp only [Act.put, List.setIfInBounds_toArray, List.set_cons_zero, List.set_cons_succ]
      refine wpAnyH_takeL (i := 26) (d := some 49) (v := .pointer (some ⟨g3, 1, none⟩)) rfl rfl (by kernel_rfl) (by kernel_rfl) (by kernel_rfl) (fun _ _ _ h => h) (Or.inl ⟨by rfl, ?_⟩) hHeld ?_
      · intro w hSw; (try dsimp only at hSw); go_simp
      try simp only [Act.put, List.setIfInBounds_toArray, List.set_cons_zero, List.set_cons_succ]
      refine wpAnyH_takeL (i := 27) (d := some 50) (v := .int .u8 (a.who : Int)) rfl rfl (by kernel_rfl) (by kernel_rfl) (by kernel_rfl) (fun _ _ _ h => h) (Or.inl ⟨by rfl, ?_⟩) hHeld ?_
      · intro w hSw; (try dsimp only at hSw); have hcc : w.cell? ⟨g3, 1, none⟩ = some (.int .u8 (a.who : Int)) := CB.cell hSw.2 1; go_simp
      try simp only [Act.put, List.setIfInBounds_toArray, List.set_cons_zero, List.set_cons_succ]
      refine wpAnyH_takeL (i := 28) (d := some 51) (v := .int .u8 (a.who : Int)) rfl rfl (by kernel_rfl) (by kernel_rfl) (by kernel_rfl) (fun _ _ _ h => h) (Or.inl ⟨by rfl, ?_⟩) hHeld ?_
      · intro w hSw; (try dsimp only at hSw); go_simp
      try simp only [Act.put, List.setIfInBounds_toArray, List.set_cons_zero, List.set_cons_succ]
      refine wpAnyH_takeL (i := 29) (d := some 52) (v := .pointer (some ⟨g1, 0, none⟩)) rfl rfl (by kernel_rfl) (by kernel_rfl) (by kernel_rfl) (fun _ _ _ h => h) (Or.inl ⟨by rfl, ?_⟩) hHeld ?_
      · intro w hSw; (try dsimp only at hSw); go_simp
      try simp only [Act.put, List.setIfInBounds_toArray, List.set_cons_zero, List.set_cons_succ]
      refine wpAnyH_takeL (i := 30) (d := some 53) (v := .pointer (some ⟨g1, a.who, none⟩)) rfl rfl (by kernel_rfl) (by kernel_rfl) (by kernel_rfl) (fun _ _ _ h => h) (Or.inl ⟨by rfl, ?_⟩) hHeld ?_
      · intro w hSw; (try dsimp only at hSw); go_simp
      try simp only [Act.put, List.setIfInBounds_toArray, List.set_cons_zero, List.set_cons_succ]
      refine wpAnyH_takeL (i := 31) (d := some 54) (v := .bool false) rfl rfl (by kernel_rfl) (by kernel_rfl) (by kernel_rfl) (fun _ _ _ h => h) (Or.inl ⟨by rfl, ?_⟩) hHeld ?_
      · intro w hSw; (try dsimp only at hSw); have hcc := (CB.cell hSw.1 (a.who)).trans (tA_wh S hlt); go_simp
      try simp only [Act.put, List.setIfInBounds_toArray, List.set_cons_zero, List.set_cons_succ]
      refine wpAnyH_takeL (i := 32) (d := some 55) (v := .bool true) rfl rfl (by kernel_rfl) (by kernel_rfl) (by kernel_rfl) (fun _ _ _ h => h) (Or.inl ⟨by rfl, ?_⟩) hHeld ?_
      · intro w hSw; (try dsimp only at hSw); go_simp
      try simp only [Act.put, List.setIfInBounds_toArray, List.set_cons_zero, List.set_cons_succ]
      refine wpAnyH_takeL (i := 33) (d := some 56) (v := .bool true) rfl rfl (by kernel_rfl) (by kernel_rfl) (by kernel_rfl) (fun _ _ _ h => h) (Or.inl ⟨by rfl, ?_⟩) hHeld ?_
      · intro w hSw; (try dsimp only at hSw); go_simp
      try simp only [Act.put, List.setIfInBounds_toArray, List.set_cons_zero, List.set_cons_succ]
      refine wpAnyH_done (by kernel_rfl) ?_ _
      go_wp2_with (first | (first | ((with_reducible refine st_load 30 _ g14 ?_ r18_y Try.underlying30 ?_ ?_ ?_); exact rfl; exact rfl; exact Try.zTc) | ((with_reducible refine st_loadG 30 _ g14 ?_ r18_y Try.underlying30 ?_ ?_ ?_ ?_); exact rfl; exact rfl; exact Try.zTc; exact rfl)) | (first | ((with_reducible refine st_load 30 _ g9 ?_ r18_x Try.underlying30 ?_ ?_ ?_); exact rfl; exact rfl; exact Try.zTc) | ((with_reducible refine st_loadG 30 _ g9 ?_ r18_x Try.underlying30 ?_ ?_ ?_ ?_); exact rfl; exact rfl; exact Try.zTc; exact rfl)))
      go_ret
      exact ⟨rfl, l18⟩
    | true =>
      obtain ⟨y, hy⟩ : ∃ y, S.ep a.who = y := ⟨_, rfl⟩
      by_cases ho : a.ep < y
      · have q7 : decide (a.ep < y) = true := by simp; omega
        have hb : ¬ eDo S a = 0 := fun h => by have := (do_z h).up; omega
        obtain ⟨m, hm⟩ : ∃ m : Nat, eDo S a = m := ⟨_, rfl⟩
        rw [do_n hb, hm] at D1
        rw [hm] at hb
        have q5 : ((m : Int) != 0) = true := by simp [hb]
        have q6 : (m != 0) = true := by simp [hb]
        clear hm hb
        clear ho
        clear hr
        go_enter Try.func6, Try.ntmps6
        go_wp2_with (first | ((with_reducible refine st_box 25 _ (tA S) ?_ ?_); exact rfl))
        refine ⟨fun V1 g1 n1 f1 => ?_⟩
        have up1 : w.heap.size ≤ g1 := Nat.le_of_eq f1.at_
        have bl1 := f1.bel
        clear f1
        have l2 := le_tr (Below.refl _ _) bl1
        clear bl1
        go_wp2_with (first | ((with_reducible refine st_box 27 _ (aA a) ?_ ?_); exact rfl))
        refine ⟨fun V3 g3 n3 f3 => ?_⟩
        have ne3_p := f3.ne n1
        have up3 : w.heap.size ≤ g3 := f3.up l2
        have bl3 := f3.bel
        clear f3
        have r4_p := le_on n1 bl3
        have l4 := le_tr l2 bl3
        clear n1 l2
        clear bl3
        go_wp2_with fail
        refine (alive_c _).mono ?_
        rintro e w5 ⟨rfl, b5⟩
        have r6_p := le_on r4_p b5
        have r6_a := le_on n3 b5
        have l6 := le_tr l4 b5
        clear r4_p n3 l4
        clear b5
        go_wp2_with (first | (first | ((with_reducible refine st_load 25 _ g1 ?_ r6_p Try.underlying25 ?_ ?_ ?_); exact rfl; exact rfl; exact Try.zTr) | ((with_reducible refine st_loadG 25 _ g1 ?_ r6_p Try.underlying25 ?_ ?_ ?_ ?_); exact rfl; exact rfl; exact Try.zTr; exact rfl)))
        refine (R1 _).mono ?_
        rintro e w7 ⟨rfl, b7⟩
        have r8_p := le_on r6_p b7
        have r8_a := le_on r6_a b7
        have l8 := le_tr l6 b7
        clear r6_p r6_a l6
        clear b7
        go_wp2_with (first | (first | ((with_reducible refine st_load 25 _ g1 ?_ r8_p Try.underlying25 ?_ ?_ ?_); exact rfl; exact rfl; exact Try.zTr) | ((with_reducible refine st_loadG 25 _ g1 ?_ r8_p Try.underlying25 ?_ ?_ ?_ ?_); exact rfl; exact rfl; exact Try.zTr; exact rfl)) | ((with_reducible refine st_alloc 30 (tA zeroY) ?_ ?_); exact zero_c))
        refine ⟨fun V9 g9 n9 f9 => ?_⟩
        have ne9_p := f9.ne r8_p
        have ne9_a := f9.ne r8_a
        have up9 : w.heap.size ≤ g9 := f9.up l8
        have bl9 := f9.bel
        clear f9
        have r10_p := le_on r8_p bl9
        have r10_a := le_on r8_a bl9
        have l10 := le_tr l8 bl9
        clear r8_p r8_a l8
        clear bl9
        go_wp2_with (first | ((with_reducible refine st_store 30 _ _ g9 (tA S) ?_ ?_ n9 ?_ ?_ ?_ ?_); exact rfl; exact rfl; exact Try.zTc; exact rfl; exact tA_one _))
        refine ⟨fun V11 n11 k11 => ?_⟩
        have m11_p := k11.on r10_p ne9_p
        have m11_a := k11.on r10_a ne9_a
        have o11 := k11.bel _ _ l10 up9
        clear k11
        clear n9 r10_p r10_a l10
        go_wp2_with (first | (first | ((with_reducible refine st_load 30 _ g9 ?_ n11 Try.underlying30 ?_ ?_ ?_); exact rfl; exact rfl; exact Try.zTc) | ((with_reducible refine st_loadG 30 _ g9 ?_ n11 Try.underlying30 ?_ ?_ ?_ ?_); exact rfl; exact rfl; exact Try.zTc; exact rfl)) | (first | ((with_reducible refine st_load 27 _ g3 ?_ m11_a Try.underlying27 ?_ ?_ ?_); exact rfl; exact rfl; exact Try.zAct) | ((with_reducible refine st_loadG 27 _ g3 ?_ m11_a Try.underlying27 ?_ ?_ ?_ ?_); exact rfl; exact rfl; exact Try.zAct; exact rfl)))
        refine (D1 _).mono ?_
        rintro e w12 ⟨rfl, b12⟩
        have r13_p := le_on m11_p b12
        have r13_a := le_on m11_a b12
        have r13_x := le_on n11 b12
        have l13 := le_tr o11 b12
        clear m11_p m11_a n11 o11
        clear b12
        go_wp2_with (first | ((with_reducible refine st_alloc 30 (tA zeroY) ?_ ?_); exact zero_c))
        refine ⟨fun V14 g14 n14 f14 => ?_⟩
        have ne14_p := f14.ne r13_p
        have ne14_a := f14.ne r13_a
        have ne14_x := f14.ne r13_x
        have up14 : w.heap.size ≤ g14 := f14.up l13
        have bl14 := f14.bel
        clear f14
        have r15_p := le_on r13_p bl14
        have r15_a := le_on r13_a bl14
        have r15_x := le_on r13_x bl14
        have l15 := le_tr l13 bl14
        clear r13_p r13_a r13_x l13
        clear bl14
        go_wp2_with (first | ((with_reducible refine st_store 30 _ _ g14 (tA S) ?_ ?_ n14 ?_ ?_ ?_ ?_); exact rfl; exact rfl; exact Try.zTc; exact rfl; exact tA_one _))
        refine ⟨fun V16 n16 k16 => ?_⟩
        have m16_p := k16.on r15_p ne14_p
        have m16_a := k16.on r15_a ne14_a
        have m16_x := k16.on r15_x ne14_x
        have o16 := k16.bel _ _ l15 up14
        clear k16
        clear n14 r15_p r15_a r15_x l15
        go_wp2_with fail
        have y17 := Lib.hid (show (fun V : World => CB V g1 25 (tA S) ∧ CB V g3 27 (aA a)) V16 from ⟨m16_p, m16_a⟩)
        refine wp_region_held_drew (S := (fun V : World => CB V g1 25 (tA S) ∧ CB V g3 27 (aA a))) (by kernel_rfl) y17.out (fun hHeld => ?_)
        obtain ⟨D17, hD17⟩ : ∃ V, V16.drew = V := ⟨_, rfl⟩
        have b17 : Below V16.heap.size V16 D17 := by rw [← hD17]; exact le_dr (Below.refl _ _)
        rw [hD17] at hHeld ⊢
        clear hD17
        have r18_p := le_on m16_p b17
        have r18_a := le_on m16_a b17
        have r18_x := le_on m16_x b17
        have r18_y := le_on n16 b17
        have l18 := le_tr o16 b17
        clear m16_p m16_a m16_x n16 o16
        clear b17
        refine wpAnyH_takeL (i := 0) (d := some 23) (v := .pointer (some ⟨g3, 1, none⟩)) rfl rfl (by kernel_rfl) (by kernel_rfl) (by kernel_rfl) (fun _ _ _ h => h) (Or.inl ⟨by rfl, ?_⟩) hHeld ?_
        · intro w hSw; (try dsimp only at hSw); go_simp
        try simp only [Act.put, List.setIfInBounds_toArray, List.set_cons_zero, List.set_cons_succ]
        refine wpAnyH_takeL (i := 1) (d := some 24) (v := .int .u8 (a.who : Int)) rfl rfl (by kernel_rfl) (by kernel_rfl) (by kernel_rfl) (fun _ _ _ h => h) (Or.inl ⟨by rfl, ?_⟩) hHeld ?_
        · intro w hSw; (try dsimp only at hSw); have hcc : w.cell? ⟨g3, 1, none⟩ = some (.int .u8 (a.who : Int)) := CB.cell hSw.2 1; go_simp
        try simp only [Act.put, List.setIfInBounds_toArray, List.set_cons_zero, List.set_cons_succ]
        refine wpAnyH_takeL (i := 2) (d := some 25) (v := .bool true) rfl rfl (by kernel_rfl) (by kernel_rfl) (by kernel_rfl) (fun _ _ _ h => h) (Or.inl ⟨by rfl, ?_⟩) hHeld ?_
        · intro w hSw; (try dsimp only at hSw); go_simp
        try simp only [Act.put, List.setIfInBounds_toArray, List.set_cons_zero, List.set_cons_succ]
        refine wpAnyH_takeL (i := 3) (d := some 26) (v := .bool true) rfl rfl (by kernel_rfl) (by kernel_rfl) (by kernel_rfl) (fun _ _ _ h => h) (Or.inl ⟨by rfl, ?_⟩) hHeld ?_
        · intro w hSw; (try dsimp only at hSw); go_simp
        try simp only [Act.put, List.setIfInBounds_toArray, List.set_cons_zero, List.set_cons_succ]
        refine wpAnyH_takeL (i := 4) (d := some 27) (v := .pointer (some ⟨g3, 1, none⟩)) rfl rfl (by kernel_rfl) (by kernel_rfl) (by kernel_rfl) (fun _ _ _ h => h) (Or.inl ⟨by rfl, ?_⟩) hHeld ?_
        · intro w hSw; (try dsimp only at hSw); go_simp
        try simp only [Act.put, List.setIfInBounds_toArray, List.set_cons_zero, List.set_cons_succ]
        refine wpAnyH_takeL (i := 5) (d := some 28) (v := .int .u8 (a.who : Int)) rfl rfl (by kernel_rfl) (by kernel_rfl) (by kernel_rfl) (fun _ _ _ h => h) (Or.inl ⟨by rfl, ?_⟩) hHeld ?_
        · intro w hSw; (try dsimp only at hSw); have hcc : w.cell? ⟨g3, 1, none⟩ = some (.int .u8 (a.who : Int)) := CB.cell hSw.2 1; go_simp
        try simp only [Act.put, List.setIfInBounds_toArray, List.set_cons_zero, List.set_cons_succ]
        refine wpAnyH_takeL (i := 6) (d := some 29) (v := .pointer (some ⟨g1, 0, none⟩)) rfl rfl (by kernel_rfl) (by kernel_rfl) (by kernel_rfl) (fun _ _ _ h => h) (Or.inl ⟨by rfl, ?_⟩) hHeld ?_
        · intro w hSw; (try dsimp only at hSw); go_simp
        try simp only [Act.put, List.setIfInBounds_toArray, List.set_cons_zero, List.set_cons_succ]
        refine wpAnyH_takeL (i := 7) (d := some 30) (v := .pointer (some ⟨g1, a.who, none⟩)) rfl rfl (by kernel_rfl) (by kernel_rfl) (by kernel_rfl) (fun _ _ _ h => h) (Or.inl ⟨by rfl, ?_⟩) hHeld ?_
        · intro w hSw; (try dsimp only at hSw); go_simp
        try simp only [Act.put, List.setIfInBounds_toArray, List.set_cons_zero, List.set_cons_succ]
        refine wpAnyH_takeL (i := 8) (d := some 31) (v := .bool true) rfl rfl (by kernel_rfl) (by kernel_rfl) (by kernel_rfl) (fun _ _ _ h => h) (Or.inl ⟨by rfl, ?_⟩) hHeld ?_
        · intro w hSw; (try dsimp only at hSw); have hcc := (CB.cell hSw.1 (a.who)).trans (tA_wh S hlt); go_simp
        try simp only [Act.put, List.setIfInBounds_toArray, List.set_cons_zero, List.set_cons_succ]
        refine wpAnyH_takeL (i := 9) (d := some 32) (v := .bool true) rfl rfl (by kernel_rfl) (by kernel_rfl) (by kernel_rfl) (fun _ _ _ h => h) (Or.inl ⟨by rfl, ?_⟩) hHeld ?_
        · intro w hSw; (try dsimp only at hSw); go_simp
        try simp only [Act.put, List.setIfInBounds_toArray, List.set_cons_zero, List.set_cons_succ]
        refine wpAnyH_takeL (i := 10) (d := some 33) (v := .bool true) rfl rfl (by kernel_rfl) (by kernel_rfl) (by kernel_rfl) (fun _ _ _ h => h) (Or.inl ⟨by rfl, ?_⟩) hHeld ?_
        · intro w hSw; (try dsimp only at hSw); go_simp
        try simp only [Act.put, List.setIfInBounds_toArray, List.set_cons_zero, List.set_cons_succ]
        refine wpAnyH_takeL (i := 11) (d := some 34) (v := .pointer (some ⟨g3, 2, none⟩)) rfl rfl (by kernel_rfl) (by kernel_rfl) (by kernel_rfl) (fun _ _ _ h => h) (Or.inl ⟨by rfl, ?_⟩) hHeld ?_
        · intro w hSw; (try dsimp only at hSw); go_simp
        try simp only [Act.put, List.setIfInBounds_toArray, List.set_cons_zero, List.set_cons_succ]
        refine wpAnyH_takeL (i := 12) (d := some 35) (v := .int .i64 a.ep) rfl rfl (by kernel_rfl) (by kernel_rfl) (by kernel_rfl) (fun _ _ _ h => h) (Or.inl ⟨by rfl, ?_⟩) hHeld ?_
        · intro w hSw; (try dsimp only at hSw); have hcc : w.cell? ⟨g3, 2, none⟩ = some (.int .i64 a.ep) := CB.cell hSw.2 2; go_simp
        try simp only [Act.put, List.setIfInBounds_toArray, List.set_cons_zero, List.set_cons_succ]
        refine wpAnyH_takeL (i := 13) (d := some 36) (v := .pointer (some ⟨g3, 1, none⟩)) rfl rfl (by kernel_rfl) (by kernel_rfl) (by kernel_rfl) (fun _ _ _ h => h) (Or.inl ⟨by rfl, ?_⟩) hHeld ?_
        · intro w hSw; (try dsimp only at hSw); go_simp
        try simp only [Act.put, List.setIfInBounds_toArray, List.set_cons_zero, List.set_cons_succ]
        refine wpAnyH_takeL (i := 14) (d := some 37) (v := .int .u8 (a.who : Int)) rfl rfl (by kernel_rfl) (by kernel_rfl) (by kernel_rfl) (fun _ _ _ h => h) (Or.inl ⟨by rfl, ?_⟩) hHeld ?_
        · intro w hSw; (try dsimp only at hSw); have hcc : w.cell? ⟨g3, 1, none⟩ = some (.int .u8 (a.who : Int)) := CB.cell hSw.2 1; go_simp
        try simp only [Act.put, List.setIfInBounds_toArray, List.set_cons_zero, List.set_cons_succ]
        refine wpAnyH_takeL (i := 15) (d := some 38) (v := .pointer (some ⟨g1, 16, none⟩)) rfl rfl (by kernel_rfl) (by kernel_rfl) (by kernel_rfl) (fun _ _ _ h => h) (Or.inl ⟨by rfl, ?_⟩) hHeld ?_
        · intro w hSw; (try dsimp only at hSw); go_simp
        try simp only [Act.put, List.setIfInBounds_toArray, List.set_cons_zero, List.set_cons_succ]
        refine wpAnyH_takeL (i := 16) (d := some 39) (v := .pointer (some ⟨g1, 16 + a.who, none⟩)) rfl rfl (by kernel_rfl) (by kernel_rfl) (by kernel_rfl) (fun _ _ _ h => h) (Or.inl ⟨by rfl, ?_⟩) hHeld ?_
        · intro w hSw; (try dsimp only at hSw); go_simp
        try simp only [Act.put, List.setIfInBounds_toArray, List.set_cons_zero, List.set_cons_succ]
        refine wpAnyH_takeL (i := 17) (d := some 40) (v := .int .i64 y) rfl rfl (by kernel_rfl) (by kernel_rfl) (by kernel_rfl) (fun _ _ _ h => h) (Or.inl ⟨by rfl, ?_⟩) hHeld ?_
        · intro w hSw; (try dsimp only at hSw); have hcc := (CB.cell hSw.1 (16 + a.who)).trans (tA_ep S hlt); go_simp
        try simp only [Act.put, List.setIfInBounds_toArray, List.set_cons_zero, List.set_cons_succ]
        refine wpAnyH_takeL (i := 18) (d := some 41) (v := .bool true) rfl rfl (by kernel_rfl) (by kernel_rfl) (by kernel_rfl) (fun _ _ _ h => h) (Or.inl ⟨by rfl, ?_⟩) hHeld ?_
        · intro w hSw; (try dsimp only at hSw); go_simp
        try simp only [Act.put, List.setIfInBounds_toArray, List.set_cons_zero, List.set_cons_succ]
        refine wpAnyH_takeL (i := 19) (d := some 42) (v := .bool true) rfl rfl (by kernel_rfl) (by kernel_rfl) (by kernel_rfl) (fun _ _ _ h => h) (Or.inl ⟨by rfl, ?_⟩) hHeld ?_
        · intro w hSw; (try dsimp only at hSw); go_simp
        try simp only [Act.put, List.setIfInBounds_toArray, List.set_cons_zero, List.set_cons_succ]
        refine wpAnyH_takeL (i := 20) (d := some 43) (v := .bool true) rfl rfl (by kernel_rfl) (by kernel_rfl) (by kernel_rfl) (fun _ _ _ h => h) (Or.inl ⟨by rfl, ?_⟩) hHeld ?_
        · intro w hSw; (try dsimp only at hSw); go_simp
        try simp only [Act.put, List.setIfInBounds_toArray, List.set_cons_zero, List.set_cons_succ]
        refine wpAnyH_takeL (i := 21) (d := some 44) (v := undef) rfl rfl (by kernel_rfl) (by kernel_rfl) (by kernel_rfl) (fun _ _ _ h => h) (Or.inr ⟨by kernel_rfl, rfl⟩) hHeld ?_
        try simp only [Act.put, List.setIfInBounds_toArray, List.set_cons_zero, List.set_cons_succ]
        refine wpAnyH_takeL (i := 22) (d := some 45) (v := undef) rfl rfl (by kernel_rfl) (by kernel_rfl) (by kernel_rfl) (fun _ _ _ h => h) (Or.inr ⟨by kernel_rfl, rfl⟩) hHeld ?_
        try simp only [Act.put, List.setIfInBounds_toArray, List.set_cons_zero, List.set_cons_succ]
        refine wpAnyH_takeL (i := 23) (d := some 46) (v := undef) rfl rfl (by kernel_rfl) (by kernel_rfl) (by kernel_rfl) (fun _ _ _ h => h) (Or.inr ⟨by kernel_rfl, rfl⟩) hHeld ?_
        try simp only [Act.put, List.setIfInBounds_toArray, List.set_cons_zero, List.set_cons_succ]
        refine wpAnyH_takeL (i := 24) (d := some 47) (v := .bool true) rfl rfl (by kernel_rfl) (by kernel_rfl) (by kernel_rfl) (fun _ _ _ h => h) (Or.inl ⟨by rfl, ?_⟩) hHeld ?_
        · intro w hSw; (try dsimp only at hSw); go_simp
        try simp only [Act.put, List.setIfInBounds_toArray, List.set_cons_zero, List.set_cons_succ]
        refine wpAnyH_takeL (i := 25) (d := some 48) (v := .bool true) rfl rfl (by kernel_rfl) (by kernel_rfl) (by kernel_rfl) (fun _ _ _ h => h) (Or.inl ⟨by rfl, ?_⟩) hHeld ?_
        · intro w hSw; (try dsimp only at hSw); go_simp
        try simp only [Act.put, List.setIfInBounds_toArray, List.set_cons_zero, List.set_cons_succ]
        refine wpAnyH_takeL (i := 26) (d := some 49) (v := undef) rfl rfl (by kernel_rfl) (by kernel_rfl) (by kernel_rfl) (fun _ _ _ h => h) (Or.inr ⟨by kernel_rfl, rfl⟩) hHeld ?_
        try simp only [Act.put, List.setIfInBounds_toArray, List.set_cons_zero, List.set_cons_succ]
        refine wpAnyH_takeL (i := 27) (d := some 50) (v := undef) rfl rfl (by kernel_rfl) (by kernel_rfl) (by kernel_rfl) (fun _ _ _ h => h) (Or.inr ⟨by kernel_rfl, rfl⟩) hHeld ?_
        try simp only [Act.put, List.setIfInBounds_toArray, List.set_cons_zero, List.set_cons_succ]
        refine wpAnyH_takeL (i := 28) (d := some 51) (v := undef) rfl rfl (by kernel_rfl) (by kernel_rfl) (by kernel_rfl) (fun _ _ _ h => h) (Or.inr ⟨by kernel_rfl, rfl⟩) hHeld ?_
        try simp only [Act.put, List.setIfInBounds_toArray, List.set_cons_zero, List.set_cons_succ]
        refine wpAnyH_takeL (i := 29) (d := some 52) (v := undef) rfl rfl (by kernel_rfl) (by kernel_rfl) (by kernel_rfl) (fun _ _ _ h => h) (Or.inr ⟨by kernel_rfl, rfl⟩) hHeld ?_
        try simp only [Act.put, List.setIfInBounds_toArray, List.set_cons_zero, List.set_cons_succ]
        refine wpAnyH_takeL (i := 30) (d := some 53) (v := undef) rfl rfl (by kernel_rfl) (by kernel_rfl) (by kernel_rfl) (fun _ _ _ h => h) (Or.inr ⟨by kernel_rfl, rfl⟩) hHeld ?_
        try simp only [Act.put, List.setIfInBounds_toArray, List.set_cons_zero, List.set_cons_succ]
        refine wpAnyH_takeL (i := 31) (d := some 54) (v := undef) rfl rfl (by kernel_rfl) (by kernel_rfl) (by kernel_rfl) (fun _ _ _ h => h) (Or.inr ⟨by kernel_rfl, rfl⟩) hHeld ?_
        try simp only [Act.put, List.setIfInBounds_toArray, List.set_cons_zero, List.set_cons_succ]
        refine wpAnyH_takeL (i := 32) (d := some 55) (v := undef) rfl rfl (by kernel_rfl) (by kernel_rfl) (by kernel_rfl) (fun _ _ _ h => h) (Or.inr ⟨by kernel_rfl, rfl⟩) hHeld ?_
        try simp only [Act.put, List.setIfInBounds_toArray, List.set_cons_zero, List.set_cons_succ]
        refine wpAnyH_takeL (i := 33) (d := some 56) (v := .bool true) rfl rfl (by kernel_rfl) (by kernel_rfl) (by kernel_rfl) (fun _ _ _ h => h) (Or.inl ⟨by rfl, ?_⟩) hHeld ?_
        · intro w hSw; (try dsimp only at hSw); go_simp
        try simp only [Act.put, List.setIfInBounds_toArray, List.set_cons_zero, List.set_cons_succ]
        refine wpAnyH_done (by kernel_rfl) ?_ _
        go_wp2_with (first | (first | ((with_reducible refine st_load 30 _ g14 ?_ r18_y Try.underlying30 ?_ ?_ ?_); exact rfl; exact rfl; exact Try.zTc) | ((with_reducible refine st_loadG 30 _ g14 ?_ r18_y Try.underlying30 ?_ ?_ ?_ ?_); exact rfl; exact rfl; exact Try.zTc; exact rfl)) | (first | ((with_reducible refine st_load 30 _ g9 ?_ r18_x Try.underlying30 ?_ ?_ ?_); exact rfl; exact rfl; exact Try.zTc) | ((with_reducible refine st_loadG 30 _ g9 ?_ r18_x Try.underlying30 ?_ ?_ ?_ ?_); exact rfl; exact rfl; exact Try.zTc; exact rfl)))
        go_ret
        exact ⟨rfl, l18⟩
      have q7 : decide (a.ep < y) = false := by simp; omega
      clear ho
      by_cases hb : eDo S a = 0
      · have hu : (sDo S a).ep a.who = a.ep := by rw [(do_z hb).ep]; exact updI_at _ _ _
        rw [hb] at D1
        obtain ⟨U, hU⟩ : ∃ U, sDo S a = U := ⟨_, rfl⟩
        rw [hU] at D1 hu
        clear hU hb
        clear hr
        go_enter Try.func6, Try.ntmps6
        go_wp2_with (first | ((with_reducible refine st_box 25 _ (tA S) ?_ ?_); exact rfl))
        refine ⟨fun V1 g1 n1 f1 => ?_⟩
        have up1 : w.heap.size ≤ g1 := Nat.le_of_eq f1.at_
        have bl1 := f1.bel
        clear f1
        have l2 := le_tr (Below.refl _ _) bl1
        clear bl1
        go_wp2_with (first | ((with_reducible refine st_box 27 _ (aA a) ?_ ?_); exact rfl))
        refine ⟨fun V3 g3 n3 f3 => ?_⟩
        have ne3_p := f3.ne n1
        have up3 : w.heap.size ≤ g3 := f3.up l2
        have bl3 := f3.bel
        clear f3
        have r4_p := le_on n1 bl3
        have l4 := le_tr l2 bl3
        clear n1 l2
        clear bl3
        go_wp2_with fail
        refine (alive_c _).mono ?_
        rintro e w5 ⟨rfl, b5⟩
        have r6_p := le_on r4_p b5
        have r6_a := le_on n3 b5
        have l6 := le_tr l4 b5
        clear r4_p n3 l4
        clear b5
        go_wp2_with (first | (first | ((with_reducible refine st_load 25 _ g1 ?_ r6_p Try.underlying25 ?_ ?_ ?_); exact rfl; exact rfl; exact Try.zTr) | ((with_reducible refine st_loadG 25 _ g1 ?_ r6_p Try.underlying25 ?_ ?_ ?_ ?_); exact rfl; exact rfl; exact Try.zTr; exact rfl)))
        refine (R1 _).mono ?_
        rintro e w7 ⟨rfl, b7⟩
        have r8_p := le_on r6_p b7
        have r8_a := le_on r6_a b7
        have l8 := le_tr l6 b7
        clear r6_p r6_a l6
        clear b7
        go_wp2_with (first | (first | ((with_reducible refine st_load 25 _ g1 ?_ r8_p Try.underlying25 ?_ ?_ ?_); exact rfl; exact rfl; exact Try.zTr) | ((with_reducible refine st_loadG 25 _ g1 ?_ r8_p Try.underlying25 ?_ ?_ ?_ ?_); exact rfl; exact rfl; exact Try.zTr; exact rfl)) | ((with_reducible refine st_alloc 30 (tA zeroY) ?_ ?_); exact zero_c))
        refine ⟨fun V9 g9 n9 f9 => ?_⟩
        have ne9_p := f9.ne r8_p
        have ne9_a := f9.ne r8_a
        have up9 : w.heap.size ≤ g9 := f9.up l8
        have bl9 := f9.bel
        clear f9
        have r10_p := le_on r8_p bl9
        have r10_a := le_on r8_a bl9
        have l10 := le_tr l8 bl9
        clear r8_p r8_a l8
        clear bl9
        go_wp2_with (first | ((with_reducible refine st_store 30 _ _ g9 (tA S) ?_ ?_ n9 ?_ ?_ ?_ ?_); exact rfl; exact rfl; exact Try.zTc; exact rfl; exact tA_one _))
        refine ⟨fun V11 n11 k11 => ?_⟩
        have m11_p := k11.on r10_p ne9_p
        have m11_a := k11.on r10_a ne9_a
        have o11 := k11.bel _ _ l10 up9
        clear k11
        clear n9 r10_p r10_a l10
        go_wp2_with (first | (first | ((with_reducible refine st_load 30 _ g9 ?_ n11 Try.underlying30 ?_ ?_ ?_); exact rfl; exact rfl; exact Try.zTc) | ((with_reducible refine st_loadG 30 _ g9 ?_ n11 Try.underlying30 ?_ ?_ ?_ ?_); exact rfl; exact rfl; exact Try.zTc; exact rfl)) | (first | ((with_reducible refine st_load 27 _ g3 ?_ m11_a Try.underlying27 ?_ ?_ ?_); exact rfl; exact rfl; exact Try.zAct) | ((with_reducible refine st_loadG 27 _ g3 ?_ m11_a Try.underlying27 ?_ ?_ ?_ ?_); exact rfl; exact rfl; exact Try.zAct; exact rfl)))
        refine (D1 _).mono ?_
        rintro e w12 ⟨rfl, b12⟩
        have r13_p := le_on m11_p b12
        have r13_a := le_on m11_a b12
        have r13_x := le_on n11 b12
        have l13 := le_tr o11 b12
        clear m11_p m11_a n11 o11
        clear b12
        go_wp2_with (first | ((with_reducible refine st_alloc 30 (tA zeroY) ?_ ?_); exact zero_c))
        refine ⟨fun V14 g14 n14 f14 => ?_⟩
        have ne14_p := f14.ne r13_p
        have ne14_a := f14.ne r13_a
        have ne14_x := f14.ne r13_x
        have up14 : w.heap.size ≤ g14 := f14.up l13
        have bl14 := f14.bel
        clear f14
        have r15_p := le_on r13_p bl14
        have r15_a := le_on r13_a bl14
        have r15_x := le_on r13_x bl14
        have l15 := le_tr l13 bl14
        clear r13_p r13_a r13_x l13
        clear bl14
        go_wp2_with (first | ((with_reducible refine st_store 30 _ _ g14 (tA U) ?_ ?_ n14 ?_ ?_ ?_ ?_); exact rfl; exact rfl; exact Try.zTc; exact rfl; exact tA_one _))
        refine ⟨fun V16 n16 k16 => ?_⟩
        have m16_p := k16.on r15_p ne14_p
        have m16_a := k16.on r15_a ne14_a
        have m16_x := k16.on r15_x ne14_x
        have o16 := k16.bel _ _ l15 up14
        clear k16
        clear n14 r15_p r15_a r15_x l15
        go_wp2_with fail
        have y17 := Lib.hid (show (fun V : World => CB V g1 25 (tA S) ∧ CB V g3 27 (aA a)) V16 from ⟨m16_p, m16_a⟩)
        refine wp_region_held_drew (S := (fun V : World => CB V g1 25 (tA S) ∧ CB V g3 27 (aA a))) (by kernel_rfl) y17.out (fun hHeld => ?_)
        obtain ⟨D17, hD17⟩ : ∃ V, V16.drew = V := ⟨_, rfl⟩
        have b17 : Below V16.heap.size V16 D17 := by rw [← hD17]; exact le_dr (Below.refl _ _)
        rw [hD17] at hHeld ⊢
        clear hD17
        have r18_p := le_on m16_p b17
        have r18_a := le_on m16_a b17
        have r18_x := le_on m16_x b17
        have r18_y := le_on n16 b17
        have l18 := le_tr o16 b17
        clear m16_p m16_a m16_x n16 o16
        clear b17
        refine wpAnyH_takeL (i := 0) (d := some 23) (v := .pointer (some ⟨g3, 1, none⟩)) rfl rfl (by kernel_rfl) (by kernel_rfl) (by kernel_rfl) (fun _ _ _ h => h) (Or.inl ⟨by rfl, ?_⟩) hHeld ?_
        · intro w hSw; (try dsimp only at hSw); go_simp
        try simp only [Act.put, List.setIfInBounds_toArray, List.set_cons_zero, List.set_cons_succ]
        refine wpAnyH_takeL (i := 1) (d := some 24) (v := .int .u8 (a.who : Int)) rfl rfl (by kernel_rfl) (by kernel_rfl) (by kernel_rfl) (fun _ _ _ h => h) (Or.inl ⟨by rfl, ?_⟩) hHeld ?_
        · intro w hSw; (try dsimp only at hSw); have hcc : w.cell? ⟨g3, 1, none⟩ = some (.int .u8 (a.who : Int)) := CB.cell hSw.2 1; go_simp
        try simp only [Act.put, List.setIfInBounds_toArray, List.set_cons_zero, List.set_cons_succ]
        refine wpAnyH_takeL (i := 2) (d := some 25) (v := .bool true) rfl rfl (by kernel_rfl) (by kernel_rfl) (by kernel_rfl) (fun _ _ _ h => h) (Or.inl ⟨by rfl, ?_⟩) hHeld ?_
        · intro w hSw; (try dsimp only at hSw); go_simp
        try simp only [Act.put, List.setIfInBounds_toArray, List.set_cons_zero, List.set_cons_succ]
        refine wpAnyH_takeL (i := 3) (d := some 26) (v := .bool true) rfl rfl (by kernel_rfl) (by kernel_rfl) (by kernel_rfl) (fun _ _ _ h => h) (Or.inl ⟨by rfl, ?_⟩) hHeld ?_
        · intro w hSw; (try dsimp only at hSw); go_simp
        try simp only [Act.put, List.setIfInBounds_toArray, List.set_cons_zero, List.set_cons_succ]
        refine wpAnyH_takeL (i := 4) (d := some 27) (v := .pointer (some ⟨g3, 1, none⟩)) rfl rfl (by kernel_rfl) (by kernel_rfl) (by kernel_rfl) (fun _ _ _ h => h) (Or.inl ⟨by rfl, ?_⟩) hHeld ?_
        · intro w hSw; (try dsimp only at hSw); go_simp
        try simp only [Act.put, List.setIfInBounds_toArray, List.set_cons_zero, List.set_cons_succ]
        refine wpAnyH_takeL (i := 5) (d := some 28) (v := .int .u8 (a.who : Int)) rfl rfl (by kernel_rfl) (by kernel_rfl) (by kernel_rfl) (fun _ _ _ h => h) (Or.inl ⟨by rfl, ?_⟩) hHeld ?_
        · intro w hSw; (try dsimp only at hSw); have hcc : w.cell? ⟨g3, 1, none⟩ = some (.int .u8 (a.who : Int)) := CB.cell hSw.2 1; go_simp
        try simp only [Act.put, List.setIfInBounds_toArray, List.set_cons_zero, List.set_cons_succ]
        refine wpAnyH_takeL (i := 6) (d := some 29) (v := .pointer (some ⟨g1, 0, none⟩)) rfl rfl (by kernel_rfl) (by kernel_rfl) (by kernel_rfl) (fun _ _ _ h => h) (Or.inl ⟨by rfl, ?_⟩) hHeld ?_
        · intro w hSw; (try dsimp only at hSw); go_simp
        try simp only [Act.put, List.setIfInBounds_toArray, List.set_cons_zero, List.set_cons_succ]
        refine wpAnyH_takeL (i := 7) (d := some 30) (v := .pointer (some ⟨g1, a.who, none⟩)) rfl rfl (by kernel_rfl) (by kernel_rfl) (by kernel_rfl) (fun _ _ _ h => h) (Or.inl ⟨by rfl, ?_⟩) hHeld ?_
        · intro w hSw; (try dsimp only at hSw); go_simp
        try simp only [Act.put, List.setIfInBounds_toArray, List.set_cons_zero, List.set_cons_succ]
        refine wpAnyH_takeL (i := 8) (d := some 31) (v := .bool true) rfl rfl (by kernel_rfl) (by kernel_rfl) (by kernel_rfl) (fun _ _ _ h => h) (Or.inl ⟨by rfl, ?_⟩) hHeld ?_
        · intro w hSw; (try dsimp only at hSw); have hcc := (CB.cell hSw.1 (a.who)).trans (tA_wh S hlt); go_simp
        try simp only [Act.put, List.setIfInBounds_toArray, List.set_cons_zero, List.set_cons_succ]
        refine wpAnyH_takeL (i := 9) (d := some 32) (v := .bool true) rfl rfl (by kernel_rfl) (by kernel_rfl) (by kernel_rfl) (fun _ _ _ h => h) (Or.inl ⟨by rfl, ?_⟩) hHeld ?_
        · intro w hSw; (try dsimp only at hSw); go_simp
        try simp only [Act.put, List.setIfInBounds_toArray, List.set_cons_zero, List.set_cons_succ]
        refine wpAnyH_takeL (i := 10) (d := some 33) (v := .bool true) rfl rfl (by kernel_rfl) (by kernel_rfl) (by kernel_rfl) (fun _ _ _ h => h) (Or.inl ⟨by rfl, ?_⟩) hHeld ?_
        · intro w hSw; (try dsimp only at hSw); go_simp
        try simp only [Act.put, List.setIfInBounds_toArray, List.set_cons_zero, List.set_cons_succ]
        refine wpAnyH_takeL (i := 11) (d := some 34) (v := .pointer (some ⟨g3, 2, none⟩)) rfl rfl (by kernel_rfl) (by kernel_rfl) (by kernel_rfl) (fun _ _ _ h => h) (Or.inl ⟨by rfl, ?_⟩) hHeld ?_
        · intro w hSw; (try dsimp only at hSw); go_simp
        try simp only [Act.put, List.setIfInBounds_toArray, List.set_cons_zero, List.set_cons_succ]
        refine wpAnyH_takeL (i := 12) (d := some 35) (v := .int .i64 a.ep) rfl rfl (by kernel_rfl) (by kernel_rfl) (by kernel_rfl) (fun _ _ _ h => h) (Or.inl ⟨by rfl, ?_⟩) hHeld ?_
        · intro w hSw; (try dsimp only at hSw); have hcc : w.cell? ⟨g3, 2, none⟩ = some (.int .i64 a.ep) := CB.cell hSw.2 2; go_simp
        try simp only [Act.put, List.setIfInBounds_toArray, List.set_cons_zero, List.set_cons_succ]
        refine wpAnyH_takeL (i := 13) (d := some 36) (v := .pointer (some ⟨g3, 1, none⟩)) rfl rfl (by kernel_rfl) (by kernel_rfl) (by kernel_rfl) (fun _ _ _ h => h) (Or.inl ⟨by rfl, ?_⟩) hHeld ?_
        · intro w hSw; (try dsimp only at hSw); go_simp
        try simp only [Act.put, List.setIfInBounds_toArray, List.set_cons_zero, List.set_cons_succ]
        refine wpAnyH_takeL (i := 14) (d := some 37) (v := .int .u8 (a.who : Int)) rfl rfl (by kernel_rfl) (by kernel_rfl) (by kernel_rfl) (fun _ _ _ h => h) (Or.inl ⟨by rfl, ?_⟩) hHeld ?_
        · intro w hSw; (try dsimp only at hSw); have hcc : w.cell? ⟨g3, 1, none⟩ = some (.int .u8 (a.who : Int)) := CB.cell hSw.2 1; go_simp
        try simp only [Act.put, List.setIfInBounds_toArray, List.set_cons_zero, List.set_cons_succ]
        refine wpAnyH_takeL (i := 15) (d := some 38) (v := .pointer (some ⟨g1, 16, none⟩)) rfl rfl (by kernel_rfl) (by kernel_rfl) (by kernel_rfl) (fun _ _ _ h => h) (Or.inl ⟨by rfl, ?_⟩) hHeld ?_
        · intro w hSw; (try dsimp only at hSw); go_simp
        try simp only [Act.put, List.setIfInBounds_toArray, List.set_cons_zero, List.set_cons_succ]
        refine wpAnyH_takeL (i := 16) (d := some 39) (v := .pointer (some ⟨g1, 16 + a.who, none⟩)) rfl rfl (by kernel_rfl) (by kernel_rfl) (by kernel_rfl) (fun _ _ _ h => h) (Or.inl ⟨by rfl, ?_⟩) hHeld ?_
        · intro w hSw; (try dsimp only at hSw); go_simp
        try simp only [Act.put, List.setIfInBounds_toArray, List.set_cons_zero, List.set_cons_succ]
        refine wpAnyH_takeL (i := 17) (d := some 40) (v := .int .i64 y) rfl rfl (by kernel_rfl) (by kernel_rfl) (by kernel_rfl) (fun _ _ _ h => h) (Or.inl ⟨by rfl, ?_⟩) hHeld ?_
        · intro w hSw; (try dsimp only at hSw); have hcc := (CB.cell hSw.1 (16 + a.who)).trans (tA_ep S hlt); go_simp
        try simp only [Act.put, List.setIfInBounds_toArray, List.set_cons_zero, List.set_cons_succ]
        refine wpAnyH_takeL (i := 18) (d := some 41) (v := .bool false) rfl rfl (by kernel_rfl) (by kernel_rfl) (by kernel_rfl) (fun _ _ _ h => h) (Or.inl ⟨by rfl, ?_⟩) hHeld ?_
        · intro w hSw; (try dsimp only at hSw); go_simp
        try simp only [Act.put, List.setIfInBounds_toArray, List.set_cons_zero, List.set_cons_succ]
        refine wpAnyH_takeL (i := 19) (d := some 42) (v := .bool false) rfl rfl (by kernel_rfl) (by kernel_rfl) (by kernel_rfl) (fun _ _ _ h => h) (Or.inl ⟨by rfl, ?_⟩) hHeld ?_
        · intro w hSw; (try dsimp only at hSw); go_simp
        try simp only [Act.put, List.setIfInBounds_toArray, List.set_cons_zero, List.set_cons_succ]
        refine wpAnyH_takeL (i := 20) (d := some 43) (v := .bool false) rfl rfl (by kernel_rfl) (by kernel_rfl) (by kernel_rfl) (fun _ _ _ h => h) (Or.inl ⟨by rfl, ?_⟩) hHeld ?_
        · intro w hSw; (try dsimp only at hSw); go_simp
        try simp only [Act.put, List.setIfInBounds_toArray, List.set_cons_zero, List.set_cons_succ]
        refine wpAnyH_takeL (i := 21) (d := some 44) (v := .pointer (some ⟨g3, 1, none⟩)) rfl rfl (by kernel_rfl) (by kernel_rfl) (by kernel_rfl) (fun _ _ _ h => h) (Or.inl ⟨by rfl, ?_⟩) hHeld ?_
        · intro w hSw; (try dsimp only at hSw); go_simp
        try simp only [Act.put, List.setIfInBounds_toArray, List.set_cons_zero, List.set_cons_succ]
        refine wpAnyH_takeL (i := 22) (d := some 45) (v := .int .u8 (a.who : Int)) rfl rfl (by kernel_rfl) (by kernel_rfl) (by kernel_rfl) (fun _ _ _ h => h) (Or.inl ⟨by rfl, ?_⟩) hHeld ?_
        · intro w hSw; (try dsimp only at hSw); have hcc : w.cell? ⟨g3, 1, none⟩ = some (.int .u8 (a.who : Int)) := CB.cell hSw.2 1; go_simp
        try simp only [Act.put, List.setIfInBounds_toArray, List.set_cons_zero, List.set_cons_succ]
        refine wpAnyH_takeL (i := 23) (d := some 46) (v := .bool false) rfl rfl (by kernel_rfl) (by kernel_rfl) (by kernel_rfl) (fun _ _ _ h => h) (Or.inl ⟨by rfl, ?_⟩) hHeld ?_
        · intro w hSw; (try dsimp only at hSw); go_simp
        try simp only [Act.put, List.setIfInBounds_toArray, List.set_cons_zero, List.set_cons_succ]
        refine wpAnyH_takeL (i := 24) (d := some 47) (v := .bool false) rfl rfl (by kernel_rfl) (by kernel_rfl) (by kernel_rfl) (fun _ _ _ h => h) (Or.inl ⟨by rfl, ?_⟩) hHeld ?_
        · intro w hSw; (try dsimp only at hSw); go_simp
        try simp only [Act.put, List.setIfInBounds_toArray, List.set_cons_zero, List.set_cons_succ]
        refine wpAnyH_takeL (i := 25) (d := some 48) (v := .bool false) rfl rfl (by kernel_rfl) (by kernel_rfl) (by kernel_rfl) (fun _ _ _ h => h) (Or.inl ⟨by rfl, ?_⟩) hHeld ?_
        · intro w hSw; (try dsimp only at hSw); go_simp
        try simp only [Act.put, List.setIfInBounds_toArray, List.set_cons_zero, List.set_cons_succ]
        refine wpAnyH_takeL (i := 26) (d := some 49) (v := .pointer (some ⟨g3, 1, none⟩)) rfl rfl (by kernel_rfl) (by kernel_rfl) (by kernel_rfl) (fun _ _ _ h => h) (Or.inl ⟨by rfl, ?_⟩) hHeld ?_
        · intro w hSw; (try dsimp only at hSw); go_simp
        try simp only [Act.put, List.setIfInBounds_toArray, List.set_cons_zero, List.set_cons_succ]
        refine wpAnyH_takeL (i := 27) (d := some 50) (v := .int .u8 (a.who : Int)) rfl rfl (by kernel_rfl) (by kernel_rfl) (by kernel_rfl) (fun _ _ _ h => h) (Or.inl ⟨by rfl, ?_⟩) hHeld ?_
        · intro w hSw; (try dsimp only at hSw); have hcc : w.cell? ⟨g3, 1, none⟩ = some (.int .u8 (a.who : Int)) := CB.cell hSw.2 1; go_simp
        try simp only [Act.put, List.setIfInBounds_toArray, List.set_cons_zero, List.set_cons_succ]
        refine wpAnyH_takeL (i := 28) (d := some 51) (v := .int .u8 (a.who : Int)) rfl rfl (by kernel_rfl) (by kernel_rfl) (by kernel_rfl) (fun _ _ _ h => h) (Or.inl ⟨by rfl, ?_⟩) hHeld ?_
        · intro w hSw; (try dsimp only at hSw); go_simp
        try simp only [Act.put, List.setIfInBounds_toArray, List.set_cons_zero, List.set_cons_succ]
        refine wpAnyH_takeL (i := 29) (d := some 52) (v := .pointer (some ⟨g1, 0, none⟩)) rfl rfl (by kernel_rfl) (by kernel_rfl) (by kernel_rfl) (fun _ _ _ h => h) (Or.inl ⟨by rfl, ?_⟩) hHeld ?_
        · intro w hSw; (try dsimp only at hSw); go_simp
        try simp only [Act.put, List.setIfInBounds_toArray, List.set_cons_zero, List.set_cons_succ]
        refine wpAnyH_takeL (i := 30) (d := some 53) (v := .pointer (some ⟨g1, a.who, none⟩)) rfl rfl (by kernel_rfl) (by kernel_rfl) (by kernel_rfl) (fun _ _ _ h => h) (Or.inl ⟨by rfl, ?_⟩) hHeld ?_
        · intro w hSw; (try dsimp only at hSw); go_simp
        try simp only [Act.put, List.setIfInBounds_toArray, List.set_cons_zero, List.set_cons_succ]
        refine wpAnyH_takeL (i := 31) (d := some 54) (v := .bool true) rfl rfl (by kernel_rfl) (by kernel_rfl) (by kernel_rfl) (fun _ _ _ h => h) (Or.inl ⟨by rfl, ?_⟩) hHeld ?_
        · intro w hSw; (try dsimp only at hSw); have hcc := (CB.cell hSw.1 (a.who)).trans (tA_wh S hlt); go_simp
        try simp only [Act.put, List.setIfInBounds_toArray, List.set_cons_zero, List.set_cons_succ]
        refine wpAnyH_takeL (i := 32) (d := some 55) (v := .bool false) rfl rfl (by kernel_rfl) (by kernel_rfl) (by kernel_rfl) (fun _ _ _ h => h) (Or.inl ⟨by rfl, ?_⟩) hHeld ?_
        · intro w hSw; (try dsimp only at hSw); go_simp
        try simp only [Act.put, List.setIfInBounds_toArray, List.set_cons_zero, List.set_cons_succ]
        refine wpAnyH_takeL (i := 33) (d := some 56) (v := .bool false) rfl rfl (by kernel_rfl) (by kernel_rfl) (by kernel_rfl) (fun _ _ _ h => h) (Or.inl ⟨by rfl, ?_⟩) hHeld ?_
        · intro w hSw; (try dsimp only at hSw); go_simp
        try simp only [Act.put, List.setIfInBounds_toArray, List.set_cons_zero, List.set_cons_succ]
        refine wpAnyH_done (by kernel_rfl) ?_ _
        go_wp2_with fail
        have y19 := Lib.hid (show (fun V : World => CB V g14 30 (tA U) ∧ CB V g3 27 (aA a)) D17 from ⟨r18_y, r18_a⟩)
        refine wp_region_held_drew (S := (fun V : World => CB V g14 30 (tA U) ∧ CB V g3 27 (aA a))) (by kernel_rfl) y19.out (fun hHeld => ?_)
        obtain ⟨D19, hD19⟩ : ∃ V, D17.drew = V := ⟨_, rfl⟩
        have b19 : Below D17.heap.size D17 D19 := by rw [← hD19]; exact le_dr (Below.refl _ _)
        rw [hD19] at hHeld ⊢
        clear hD19
        have r20_p := le_on r18_p b19
        have r20_a := le_on r18_a b19
        have r20_x := le_on r18_x b19
        have r20_y := le_on r18_y b19
        have l20 := le_tr l18 b19
        clear r18_p r18_a r18_x r18_y l18
        clear b19
        refine wpAnyH_takeL (i := 0) (d := some 64) (v := .int .i64 0) rfl rfl (by kernel_rfl) (by kernel_rfl) (by kernel_rfl) (fun _ _ _ h => h) (Or.inl ⟨by rfl, ?_⟩) hHeld ?_
        · intro w hSw; (try dsimp only at hSw); go_simp
        try simp only [Act.put, List.setIfInBounds_toArray, List.set_cons_zero, List.set_cons_succ]
        refine wpAnyH_takeL (i := 1) (d := some 65) (v := .bool false) rfl rfl (by kernel_rfl) (by kernel_rfl) (by kernel_rfl) (fun _ _ _ h => h) (Or.inl ⟨by rfl, ?_⟩) hHeld ?_
        · intro w hSw; (try dsimp only at hSw); go_simp
        try simp only [Act.put, List.setIfInBounds_toArray, List.set_cons_zero, List.set_cons_succ]
        refine wpAnyH_takeL (i := 2) (d := some 66) (v := .bool false) rfl rfl (by kernel_rfl) (by kernel_rfl) (by kernel_rfl) (fun _ _ _ h => h) (Or.inl ⟨by rfl, ?_⟩) hHeld ?_
        · intro w hSw; (try dsimp only at hSw); go_simp
        try simp only [Act.put, List.setIfInBounds_toArray, List.set_cons_zero, List.set_cons_succ]
        refine wpAnyH_takeL (i := 3) (d := some 67) (v := .pointer (some ⟨g3, 1, none⟩)) rfl rfl (by kernel_rfl) (by kernel_rfl) (by kernel_rfl) (fun _ _ _ h => h) (Or.inl ⟨by rfl, ?_⟩) hHeld ?_
        · intro w hSw; (try dsimp only at hSw); go_simp
        try simp only [Act.put, List.setIfInBounds_toArray, List.set_cons_zero, List.set_cons_succ]
        refine wpAnyH_takeL (i := 4) (d := some 68) (v := .int .u8 (a.who : Int)) rfl rfl (by kernel_rfl) (by kernel_rfl) (by kernel_rfl) (fun _ _ _ h => h) (Or.inl ⟨by rfl, ?_⟩) hHeld ?_
        · intro w hSw; (try dsimp only at hSw); have hcc : w.cell? ⟨g3, 1, none⟩ = some (.int .u8 (a.who : Int)) := CB.cell hSw.2 1; go_simp
        try simp only [Act.put, List.setIfInBounds_toArray, List.set_cons_zero, List.set_cons_succ]
        refine wpAnyH_takeL (i := 5) (d := some 69) (v := .int .u8 (a.who : Int)) rfl rfl (by kernel_rfl) (by kernel_rfl) (by kernel_rfl) (fun _ _ _ h => h) (Or.inl ⟨by rfl, ?_⟩) hHeld ?_
        · intro w hSw; (try dsimp only at hSw); go_simp
        try simp only [Act.put, List.setIfInBounds_toArray, List.set_cons_zero, List.set_cons_succ]
        refine wpAnyH_takeL (i := 6) (d := some 70) (v := .pointer (some ⟨g14, 16, none⟩)) rfl rfl (by kernel_rfl) (by kernel_rfl) (by kernel_rfl) (fun _ _ _ h => h) (Or.inl ⟨by rfl, ?_⟩) hHeld ?_
        · intro w hSw; (try dsimp only at hSw); go_simp
        try simp only [Act.put, List.setIfInBounds_toArray, List.set_cons_zero, List.set_cons_succ]
        refine wpAnyH_takeL (i := 7) (d := some 71) (v := .pointer (some ⟨g14, 16 + a.who, none⟩)) rfl rfl (by kernel_rfl) (by kernel_rfl) (by kernel_rfl) (fun _ _ _ h => h) (Or.inl ⟨by rfl, ?_⟩) hHeld ?_
        · intro w hSw; (try dsimp only at hSw); go_simp
        try simp only [Act.put, List.setIfInBounds_toArray, List.set_cons_zero, List.set_cons_succ]
        refine wpAnyH_takeL (i := 8) (d := some 72) (v := .int .i64 a.ep) rfl rfl (by kernel_rfl) (by kernel_rfl) (by kernel_rfl) (fun _ _ _ h => h) (Or.inl ⟨by rfl, ?_⟩) hHeld ?_
        · intro w hSw; (try dsimp only at hSw); have hcc := (CB.cell hSw.1 (16 + a.who)).trans (tA_ep U hlt); go_simp
        try simp only [Act.put, List.setIfInBounds_toArray, List.set_cons_zero, List.set_cons_succ]
        refine wpAnyH_takeL (i := 9) (d := some 73) (v := .pointer (some ⟨g3, 2, none⟩)) rfl rfl (by kernel_rfl) (by kernel_rfl) (by kernel_rfl) (fun _ _ _ h => h) (Or.inl ⟨by rfl, ?_⟩) hHeld ?_
        · intro w hSw; (try dsimp only at hSw); go_simp
        try simp only [Act.put, List.setIfInBounds_toArray, List.set_cons_zero, List.set_cons_succ]
        refine wpAnyH_takeL (i := 10) (d := some 74) (v := .int .i64 a.ep) rfl rfl (by kernel_rfl) (by kernel_rfl) (by kernel_rfl) (fun _ _ _ h => h) (Or.inl ⟨by rfl, ?_⟩) hHeld ?_
        · intro w hSw; (try dsimp only at hSw); have hcc : w.cell? ⟨g3, 2, none⟩ = some (.int .i64 a.ep) := CB.cell hSw.2 2; go_simp
        try simp only [Act.put, List.setIfInBounds_toArray, List.set_cons_zero, List.set_cons_succ]
        refine wpAnyH_takeL (i := 11) (d := some 75) (v := .bool true) rfl rfl (by kernel_rfl) (by kernel_rfl) (by kernel_rfl) (fun _ _ _ h => h) (Or.inl ⟨by rfl, ?_⟩) hHeld ?_
        · intro w hSw; (try dsimp only at hSw); go_simp
        try simp only [Act.put, List.setIfInBounds_toArray, List.set_cons_zero, List.set_cons_succ]
        refine wpAnyH_takeL (i := 12) (d := some 76) (v := .bool true) rfl rfl (by kernel_rfl) (by kernel_rfl) (by kernel_rfl) (fun _ _ _ h => h) (Or.inl ⟨by rfl, ?_⟩) hHeld ?_
        · intro w hSw; (try dsimp only at hSw); go_simp
        try simp only [Act.put, List.setIfInBounds_toArray, List.set_cons_zero, List.set_cons_succ]
        refine wpAnyH_takeL (i := 13) (d := some 4) (v := .bool true) rfl rfl (by kernel_rfl) (by kernel_rfl) (by kernel_rfl) (fun _ _ _ h => h) (Or.inl ⟨by rfl, ?_⟩) hHeld ?_
        · intro w hSw; (try dsimp only at hSw); go_simp
        try simp only [Act.put, List.setIfInBounds_toArray, List.set_cons_zero, List.set_cons_succ]
        refine wpAnyH_done (by kernel_rfl) ?_ _
        go_wp2_with fail
        go_ret
        exact ⟨rfl, l20⟩
      obtain ⟨m, hm⟩ : ∃ m : Nat, eDo S a = m := ⟨_, rfl⟩
      rw [do_n hb, hm] at D1
      rw [hm] at hb
      have q5 : ((m : Int) != 0) = true := by simp [hb]
      have q6 : (m != 0) = true := by simp [hb]
      clear hm hb
      clear hr
      go_enter Try.func6, Try.ntmps6
      go_wp2_with (first | ((with_reducible refine st_box 25 _ (tA S) ?_ ?_); exact rfl))
      refine ⟨fun V1 g1 n1 f1 => ?_⟩
      have up1 : w.heap.size ≤ g1 := Nat.le_of_eq f1.at_
      have bl1 := f1.bel
      clear f1
      have l2 := le_tr (Below.refl _ _) bl1
      clear bl1
      go_wp2_with (first | ((with_reducible refine st_box 27 _ (aA a) ?_ ?_); exact rfl))
      refine ⟨fun V3 g3 n3 f3 => ?_⟩
      have ne3_p := f3.ne n1
      have up3 : w.heap.size ≤ g3 := f3.up l2
      have bl3 := f3.bel
      clear f3
      have r4_p := le_on n1 bl3
      have l4 := le_tr l2 bl3
      clear n1 l2
      clear bl3
      go_wp2_with fail
      refine (alive_c _).mono ?_
      rintro e w5 ⟨rfl, b5⟩
      have r6_p := le_on r4_p b5
      have r6_a := le_on n3 b5
      have l6 := le_tr l4 b5
      clear r4_p n3 l4
      clear b5
      go_wp2_with (first | (first | ((with_reducible refine st_load 25 _ g1 ?_ r6_p Try.underlying25 ?_ ?_ ?_); exact rfl; exact rfl; exact Try.zTr) | ((with_reducible refine st_loadG 25 _ g1 ?_ r6_p Try.underlying25 ?_ ?_ ?_ ?_); exact rfl; exact rfl; exact Try.zTr; exact rfl)))
      refine (R1 _).mono ?_
      rintro e w7 ⟨rfl, b7⟩
      have r8_p := le_on r6_p b7
      have r8_a := le_on r6_a b7
      have l8 := le_tr l6 b7
      clear r6_p r6_a l6
      clear b7
      go_wp2_with (first | (first | ((with_reducible refine st_load 25 _ g1 ?_ r8_p Try.underlying25 ?_ ?_ ?_); exact rfl; exact rfl; exact Try.zTr) | ((with_reducible refine st_loadG 25 _ g1 ?_ r8_p Try.underlying25 ?_ ?_ ?_ ?_); exact rfl; exact rfl; exact Try.zTr; exact rfl)) | ((with_reducible refine st_alloc 30 (tA zeroY) ?_ ?_); exact zero_c))
      refine ⟨fun V9 g9 n9 f9 => ?_⟩
      have ne9_p := f9.ne r8_p
      have ne9_a := f9.ne r8_a
      have up9 : w.heap.size ≤ g9 := f9.up l8
      have bl9 := f9.bel
      clear f9
      have r10_p := le_on r8_p bl9
      have r10_a := le_on r8_a bl9
      have l10 := le_tr l8 bl9
      clear r8_p r8_a l8
      clear bl9
      go_wp2_with (first | ((with_reducible refine st_store 30 _ _ g9 (tA S) ?_ ?_ n9 ?_ ?_ ?_ ?_); exact rfl; exact rfl; exact Try.zTc; exact rfl; exact tA_one _))
      refine ⟨fun V11 n11 k11 => ?_⟩
      have m11_p := k11.on r10_p ne9_p
      have m11_a := k11.on r10_a ne9_a
      have o11 := k11.bel _ _ l10 up9
      clear k11
      clear n9 r10_p r10_a l10
      go_wp2_with (first | (first | ((with_reducible refine st_load 30 _ g9 ?_ n11 Try.underlying30 ?_ ?_ ?_); exact rfl; exact rfl; exact Try.zTc) | ((with_reducible refine st_loadG 30 _ g9 ?_ n11 Try.underlying30 ?_ ?_ ?_ ?_); exact rfl; exact rfl; exact Try.zTc; exact rfl)) | (first | ((with_reducible refine st_load 27 _ g3 ?_ m11_a Try.underlying27 ?_ ?_ ?_); exact rfl; exact rfl; exact Try.zAct) | ((with_reducible refine st_loadG 27 _ g3 ?_ m11_a Try.underlying27 ?_ ?_ ?_ ?_); exact rfl; exact rfl; exact Try.zAct; exact rfl)))
      refine (D1 _).mono ?_
      rintro e w12 ⟨rfl, b12⟩
      have r13_p := le_on m11_p b12
      have r13_a := le_on m11_a b12
      have r13_x := le_on n11 b12
      have l13 := le_tr o11 b12
      clear m11_p m11_a n11 o11
      clear b12
      go_wp2_with (first | ((with_reducible refine st_alloc 30 (tA zeroY) ?_ ?_); exact zero_c))
      refine ⟨fun V14 g14 n14 f14 => ?_⟩
      have ne14_p := f14.ne r13_p
      have ne14_a := f14.ne r13_a
      have ne14_x := f14.ne r13_x
      have up14 : w.heap.size ≤ g14 := f14.up l13
      have bl14 := f14.bel
      clear f14
      have r15_p := le_on r13_p bl14
      have r15_a := le_on r13_a bl14
      have r15_x := le_on r13_x bl14
      have l15 := le_tr l13 bl14
      clear r13_p r13_a r13_x l13
      clear bl14
      go_wp2_with (first | ((with_reducible refine st_store 30 _ _ g14 (tA S) ?_ ?_ n14 ?_ ?_ ?_ ?_); exact rfl; exact rfl; exact Try.zTc; exact rfl; exact tA_one _))
      refine ⟨fun V16 n16 k16 => ?_⟩
      have m16_p := k16.on r15_p ne14_p
      have m16_a := k16.on r15_a ne14_a
      have m16_x := k16.on r15_x ne14_x
      have o16 := k16.bel _ _ l15 up14
      clear k16
      clear n14 r15_p r15_a r15_x l15
      go_wp2_with fail
      have y17 := Lib.hid (show (fun V : World => CB V g1 25 (tA S) ∧ CB V g3 27 (aA a)) V16 from ⟨m16_p, m16_a⟩)
      refine wp_region_held_drew (S := (fun V : World => CB V g1 25 (tA S) ∧ CB V g3 27 (aA a))) (by kernel_rfl) y17.out (fun hHeld => ?_)
      obtain ⟨D17, hD17⟩ : ∃ V, V16.drew = V := ⟨_, rfl⟩
      have b17 : Below V16.heap.size V16 D17 := by rw [← hD17]; exact le_dr (Below.refl _ _)
      rw [hD17] at hHeld ⊢
      clear hD17
      have r18_p := le_on m16_p b17
      have r18_a := le_on m16_a b17
      have r18_x := le_on m16_x b17
      have r18_y := le_on n16 b17
      have l18 := le_tr o16 b17
      clear m16_p m16_a m16_x n16 o16
      clear b17
      refine wpAnyH_takeL (i := 0) (d := some 23) (v := .pointer (some ⟨g3, 1, none⟩)) rfl rfl (by kernel_rfl) (by kernel_rfl) (by kernel_rfl) (fun _ _ _ h => h) (Or.inl ⟨by rfl, ?_⟩) hHeld ?_
      · intro w hSw; (try dsimp only at hSw); go_simp
      try simp only [Act.put, List.setIfInBounds_toArray, List.set_cons_zero, List.set_cons_succ]
      refine wpAnyH_takeL (i := 1) (d := some 24) (v := .int .u8 (a.who : Int)) rfl rfl (by kernel_rfl) (by kernel_rfl) (by kernel_rfl) (fun _ _ _ h => h) (Or.inl ⟨by rfl, ?_⟩) hHeld ?_
      · intro w hSw; (try dsimp only at hSw); have hcc : w.cell? ⟨g3, 1, none⟩ = some (.int .u8 (a.who : Int)) := CB.cell hSw.2 1; go_simp
      try simp only [Act.put, List.setIfInBounds_toArray, List.set_cons_zero, List.set_cons_succ]
      refine wpAnyH_takeL (i := 2) (d := some 25) (v := .bool true) rfl rfl (by kernel_rfl) (by kernel_rfl) (by kernel_rfl) (fun _ _ _ h => h) (Or.inl ⟨by rfl, ?_⟩) hHeld ?_
      · intro w hSw; (try dsimp only at hSw); go_simp
      try simp only [Act.put, List.setIfInBounds_toArray, List.set_cons_zero, List.set_cons_succ]
      refine wpAnyH_takeL (i := 3) (d := some 26) (v := .bool true) rfl rfl (by kernel_rfl) (by kernel_rfl) (by kernel_rfl) (fun _ _ _ h => h) (Or.inl ⟨by rfl, ?_⟩) hHeld ?_
      · intro w hSw; (try dsimp only at hSw); go_simp
      try simp only [Act.put, List.setIfInBounds_toArray, List.set_cons_zero, List.set_cons_succ]
      refine wpAnyH_takeL (i := 4) (d := some 27) (v := .pointer (some ⟨g3, 1, none⟩)) rfl rfl (by kernel_rfl) (by kernel_rfl) (by kernel_rfl) (fun _ _ _ h => h) (Or.inl ⟨by rfl, ?_⟩) hHeld ?_
      · intro w hSw; (try dsimp only at hSw); go_simp
      try simp only [Act.put, List.setIfInBounds_toArray, List.set_cons_zero, List.set_cons_succ]
      refine wpAnyH_takeL (i := 5) (d := some 28) (v := .int .u8 (a.who : Int)) rfl rfl (by kernel_rfl) (by kernel_rfl) (by kernel_rfl) (fun _ _ _ h => h) (Or.inl ⟨by rfl, ?_⟩) hHeld ?_
      · intro w hSw; (try dsimp only at hSw); have hcc : w.cell? ⟨g3, 1, none⟩ = some (.int .u8 (a.who : Int)) := CB.cell hSw.2 1; go_simp
      try simp only [Act.put, List.setIfInBounds_toArray, List.set_cons_zero, List.set_cons_succ]
      refine wpAnyH_takeL (i := 6) (d := some 29) (v := .pointer (some ⟨g1, 0, none⟩)) rfl rfl (by kernel_rfl) (by kernel_rfl) (by kernel_rfl) (fun _ _ _ h => h) (Or.inl ⟨by rfl, ?_⟩) hHeld ?_
      · intro w hSw; (try dsimp only at hSw); go_simp
      try simp only [Act.put, List.setIfInBounds_toArray, List.set_cons_zero, List.set_cons_succ]
      refine wpAnyH_takeL (i := 7) (d := some 30) (v := .pointer (some ⟨g1, a.who, none⟩)) rfl rfl (by kernel_rfl) (by kernel_rfl) (by kernel_rfl) (fun _ _ _ h => h) (Or.inl ⟨by rfl, ?_⟩) hHeld ?_
      · intro w hSw; (try dsimp only at hSw); go_simp
      try simp only [Act.put, List.setIfInBounds_toArray, List.set_cons_zero, List.set_cons_succ]
      refine wpAnyH_takeL (i := 8) (d := some 31) (v := .bool true) rfl rfl (by kernel_rfl) (by kernel_rfl) (by kernel_rfl) (fun _ _ _ h => h) (Or.inl ⟨by rfl, ?_⟩) hHeld ?_
      · intro w hSw; (try dsimp only at hSw); have hcc := (CB.cell hSw.1 (a.who)).trans (tA_wh S hlt); go_simp
      try simp only [Act.put, List.setIfInBounds_toArray, List.set_cons_zero, List.set_cons_succ]
      refine wpAnyH_takeL (i := 9) (d := some 32) (v := .bool true) rfl rfl (by kernel_rfl) (by kernel_rfl) (by kernel_rfl) (fun _ _ _ h => h) (Or.inl ⟨by rfl, ?_⟩) hHeld ?_
      · intro w hSw; (try dsimp only at hSw); go_simp
      try simp only [Act.put, List.setIfInBounds_toArray, List.set_cons_zero, List.set_cons_succ]
      refine wpAnyH_takeL (i := 10) (d := some 33) (v := .bool true) rfl rfl (by kernel_rfl) (by kernel_rfl) (by kernel_rfl) (fun _ _ _ h => h) (Or.inl ⟨by rfl, ?_⟩) hHeld ?_
      · intro w hSw; (try dsimp only at hSw); go_simp
      try simp only [Act.put, List.setIfInBounds_toArray, List.set_cons_zero, List.set_cons_succ]
      refine wpAnyH_takeL (i := 11) (d := some 34) (v := .pointer (some ⟨g3, 2, none⟩)) rfl rfl (by kernel_rfl) (by kernel_rfl) (by kernel_rfl) (fun _ _ _ h => h) (Or.inl ⟨by rfl, ?_⟩) hHeld ?_
      · intro w hSw; (try dsimp only at hSw); go_simp
      try simp only [Act.put, List.setIfInBounds_toArray, List.set_cons_zero, List.set_cons_succ]
      refine wpAnyH_takeL (i := 12) (d := some 35) (v := .int .i64 a.ep) rfl rfl (by kernel_rfl) (by kernel_rfl) (by kernel_rfl) (fun _ _ _ h => h) (Or.inl ⟨by rfl, ?_⟩) hHeld ?_
      · intro w hSw; (try dsimp only at hSw); have hcc : w.cell? ⟨g3, 2, none⟩ = some (.int .i64 a.ep) := CB.cell hSw.2 2; go_simp
      try simp only [Act.put, List.setIfInBounds_toArray, List.set_cons_zero, List.set_cons_succ]
      refine wpAnyH_takeL (i := 13) (d := some 36) (v := .pointer (some ⟨g3, 1, none⟩)) rfl rfl (by kernel_rfl) (by kernel_rfl) (by kernel_rfl) (fun _ _ _ h => h) (Or.inl ⟨by rfl, ?_⟩) hHeld ?_
      · intro w hSw; (try dsimp only at hSw); go_simp
      try simp only [Act.put, List.setIfInBounds_toArray, List.set_cons_zero, List.set_cons_succ]
      refine wpAnyH_takeL (i := 14) (d := some 37) (v := .int .u8 (a.who : Int)) rfl rfl (by kernel_rfl) (by kernel_rfl) (by kernel_rfl) (fun _ _ _ h => h) (Or.inl ⟨by rfl, ?_⟩) hHeld ?_
      · intro w hSw; (try dsimp only at hSw); have hcc : w.cell? ⟨g3, 1, none⟩ = some (.int .u8 (a.who : Int)) := CB.cell hSw.2 1; go_simp
      try simp only [Act.put, List.setIfInBounds_toArray, List.set_cons_zero, List.set_cons_succ]
      refine wpAnyH_takeL (i := 15) (d := some 38) (v := .pointer (some ⟨g1, 16, none⟩)) rfl rfl (by kernel_rfl) (by kernel_rfl) (by kernel_rfl) (fun _ _ _ h => h) (Or.inl ⟨by rfl, ?_⟩) hHeld ?_
      · intro w hSw; (try dsimp only at hSw); go_simp
      try simp only [Act.put, List.setIfInBounds_toArray, List.set_cons_zero, List.set_cons_succ]
      refine wpAnyH_takeL (i := 16) (d := some 39) (v := .pointer (some ⟨g1, 16 + a.who, none⟩)) rfl rfl (by kernel_rfl) (by kernel_rfl) (by kernel_rfl) (fun _ _ _ h => h) (Or.inl ⟨by rfl, ?_⟩) hHeld ?_
      · intro w hSw; (try dsimp only at hSw); go_simp
      try simp only [Act.put, List.setIfInBounds_toArray, List.set_cons_zero, List.set_cons_succ]
      refine wpAnyH_takeL (i := 17) (d := some 40) (v := .int .i64 y) rfl rfl (by kernel_rfl) (by kernel_rfl) (by kernel_rfl) (fun _ _ _ h => h) (Or.inl ⟨by rfl, ?_⟩) hHeld ?_
      · intro w hSw; (try dsimp only at hSw); have hcc := (CB.cell hSw.1 (16 + a.who)).trans (tA_ep S hlt); go_simp
      try simp only [Act.put, List.setIfInBounds_toArray, List.set_cons_zero, List.set_cons_succ]
      refine wpAnyH_takeL (i := 18) (d := some 41) (v := .bool false) rfl rfl (by kernel_rfl) (by kernel_rfl) (by kernel_rfl) (fun _ _ _ h => h) (Or.inl ⟨by rfl, ?_⟩) hHeld ?_
      · intro w hSw; (try dsimp only at hSw); go_simp
      try simp only [Act.put, List.setIfInBounds_toArray, List.set_cons_zero, List.set_cons_succ]
      refine wpAnyH_takeL (i := 19) (d := some 42) (v := .bool false) rfl rfl (by kernel_rfl) (by kernel_rfl) (by kernel_rfl) (fun _ _ _ h => h) (Or.inl ⟨by rfl, ?_⟩) hHeld ?_
      · intro w hSw; (try dsimp only at hSw); go_simp
      try simp only [Act.put, List.setIfInBounds_toArray, List.set_cons_zero, List.set_cons_succ]
      refine wpAnyH_takeL (i := 20) (d := some 43) (v := .bool false) rfl rfl (by kernel_rfl) (by kernel_rfl) (by kernel_rfl) (fun _ _ _ h => h) (Or.inl ⟨by rfl, ?_⟩) hHeld ?_
      · intro w hSw; (try dsimp only at hSw); go_simp
      try simp only [Act.put, List.setIfInBounds_toArray, List.set_cons_zero, List.set_cons_succ]
      refine wpAnyH_takeL (i := 21) (d := some 44) (v := .pointer (some ⟨g3, 1, none⟩)) rfl rfl (by kernel_rfl) (by kernel_rfl) (by kernel_rfl) (fun _ _ _ h => h) (Or.inl ⟨by rfl, ?_⟩) hHeld ?_
      · intro w hSw; (try dsimp only at hSw); go_simp
      try simp only [Act.put, List.setIfInBounds_toArray, List.set_cons_zero, List.set_cons_succ]
      refine wpAnyH_takeL (i := 22) (d := some 45) (v := .int .u8 (a.who : Int)) rfl rfl (by kernel_rfl) (by kernel_rfl) (by kernel_rfl) (fun _ _ _ h => h) (Or.inl ⟨by rfl, ?_⟩) hHeld ?_
      · intro w hSw; (try dsimp only at hSw); have hcc : w.cell? ⟨g3, 1, none⟩ = some (.int .u8 (a.who : Int)) := CB.cell hSw.2 1; go_simp
      try simp only [Act.put, List.setIfInBounds_toArray, List.set_cons_zero, List.set_cons_succ]
      refine wpAnyH_takeL (i := 23) (d := some 46) (v := .bool false) rfl rfl (by kernel_rfl) (by kernel_rfl) (by kernel_rfl) (fun _ _ _ h => h) (Or.inl ⟨by rfl, ?_⟩) hHeld ?_
      · intro w hSw; (try dsimp only at hSw); go_simp
      try simp only [Act.put, List.setIfInBounds_toArray, List.set_cons_zero, List.set_cons_succ]
      refine wpAnyH_takeL (i := 24) (d := some 47) (v := .bool false) rfl rfl (by kernel_rfl) (by kernel_rfl) (by kernel_rfl) (fun _ _ _ h => h) (Or.inl ⟨by rfl, ?_⟩) hHeld ?_
      · intro w hSw; (try dsimp only at hSw); go_simp
      try simp only [Act.put, List.setIfInBounds_toArray, List.set_cons_zero, List.set_cons_succ]
      refine wpAnyH_takeL (i := 25) (d := some 48) (v := .bool false) rfl rfl (by kernel_rfl) (by kernel_rfl) (by kernel_rfl) (fun _ _ _ h => h) (Or.inl ⟨by rfl, ?_⟩) hHeld ?_
      · intro w hSw; (try dsimp only at hSw); go_simp
      try simp only [Act.put, List.setIfInBounds_toArray, List.set_cons_zero, List.set_cons_succ]
      refine wpAnyH_takeL (i := 26) (d := some 49) (v := .pointer (some ⟨g3, 1, none⟩)) rfl rfl (by kernel_rfl) (by kernel_rfl) (by kernel_rfl) (fun _ _ _ h => h) (Or.inl ⟨by rfl, ?_⟩) hHeld ?_
      · intro w hSw; (try dsimp only at hSw); go_simp
      try simp only [Act.put, List.setIfInBounds_toArray, List.set_cons_zero, List.set_cons_succ]
      refine wpAnyH_takeL (i := 27) (d := some 50) (v := .int .u8 (a.who : Int)) rfl rfl (by kernel_rfl) (by kernel_rfl) (by kernel_rfl) (fun _ _ _ h => h) (Or.inl ⟨by rfl, ?_⟩) hHeld ?_
      · intro w hSw; (try dsimp only at hSw); have hcc : w.cell? ⟨g3, 1, none⟩ = some (.int .u8 (a.who : Int)) := CB.cell hSw.2 1; go_simp
      try simp only [Act.put, List.setIfInBounds_toArray, List.set_cons_zero, List.set_cons_succ]
      refine wpAnyH_takeL (i := 28) (d := some 51) (v := .int .u8 (a.who : Int)) rfl rfl (by kernel_rfl) (by kernel_rfl) (by kernel_rfl) (fun _ _ _ h => h) (Or.inl ⟨by rfl, ?_⟩) hHeld ?_
      · intro w hSw; (try dsimp only at hSw); go_simp
      try simp only [Act.put, List.setIfInBounds_toArray, List.set_cons_zero, List.set_cons_succ]
      refine wpAnyH_takeL (i := 29) (d := some 52) (v := .pointer (some ⟨g1, 0, none⟩)) rfl rfl (by kernel_rfl) (by kernel_rfl) (by kernel_rfl) (fun _ _ _ h => h) (Or.inl ⟨by rfl, ?_⟩) hHeld ?_
      · intro w hSw; (try dsimp only at hSw); go_simp
      try simp only [Act.put, List.setIfInBounds_toArray, List.set_cons_zero, List.set_cons_succ]
      refine wpAnyH_takeL (i := 30) (d := some 53) (v := .pointer (some ⟨g1, a.who, none⟩)) rfl rfl (by kernel_rfl) (by kernel_rfl) (by kernel_rfl) (fun _ _ _ h => h) (Or.inl ⟨by rfl, ?_⟩) hHeld ?_
      · intro w hSw; (try dsimp only at hSw); go_simp
      try simp only [Act.put, List.setIfInBounds_toArray, List.set_cons_zero, List.set_cons_succ]
      refine wpAnyH_takeL (i := 31) (d := some 54) (v := .bool true) rfl rfl (by kernel_rfl) (by kernel_rfl) (by kernel_rfl) (fun _ _ _ h => h) (Or.inl ⟨by rfl, ?_⟩) hHeld ?_
      · intro w hSw; (try dsimp only at hSw); have hcc := (CB.cell hSw.1 (a.who)).trans (tA_wh S hlt); go_simp
      try simp only [Act.put, List.setIfInBounds_toArray, List.set_cons_zero, List.set_cons_succ]
      refine wpAnyH_takeL (i := 32) (d := some 55) (v := .bool false) rfl rfl (by kernel_rfl) (by kernel_rfl) (by kernel_rfl) (fun _ _ _ h => h) (Or.inl ⟨by rfl, ?_⟩) hHeld ?_
      · intro w hSw; (try dsimp only at hSw); go_simp
      try simp only [Act.put, List.setIfInBounds_toArray, List.set_cons_zero, List.set_cons_succ]
      refine wpAnyH_takeL (i := 33) (d := some 56) (v := .bool false) rfl rfl (by kernel_rfl) (by kernel_rfl) (by kernel_rfl) (fun _ _ _ h => h) (Or.inl ⟨by rfl, ?_⟩) hHeld ?_
      · intro w hSw; (try dsimp only at hSw); go_simp
      try simp only [Act.put, List.setIfInBounds_toArray, List.set_cons_zero, List.set_cons_succ]
      refine wpAnyH_done (by kernel_rfl) ?_ _
      go_wp2_with fail
      have y19 := Lib.hid (show (fun V : World => CB V g14 30 (tA S) ∧ CB V g3 27 (aA a)) D17 from ⟨r18_y, r18_a⟩)
      refine wp_region_held_drew (S := (fun V : World => CB V g14 30 (tA S) ∧ CB V g3 27 (aA a))) (by kernel_rfl) y19.out (fun hHeld => ?_)
      obtain ⟨D19, hD19⟩ : ∃ V, D17.drew = V := ⟨_, rfl⟩
      have b19 : Below D17.heap.size D17 D19 := by rw [← hD19]; exact le_dr (Below.refl _ _)
      rw [hD19] at hHeld ⊢
      clear hD19
      have r20_p := le_on r18_p b19
      have r20_a := le_on r18_a b19
      have r20_x := le_on r18_x b19
      have r20_y := le_on r18_y b19
      have l20 := le_tr l18 b19
      clear r18_p r18_a r18_x r18_y l18
      clear b19
      refine wpAnyH_takeL (i := 0) (d := some 64) (v := .int .i64 (m : Int)) rfl rfl (by kernel_rfl) (by kernel_rfl) (by kernel_rfl) (fun _ _ _ h => h) (Or.inl ⟨by rfl, ?_⟩) hHeld ?_
      · intro w hSw; (try dsimp only at hSw); go_simp
      try simp only [Act.put, List.setIfInBounds_toArray, List.set_cons_zero, List.set_cons_succ]
      refine wpAnyH_takeL (i := 1) (d := some 65) (v := .bool true) rfl rfl (by kernel_rfl) (by kernel_rfl) (by kernel_rfl) (fun _ _ _ h => h) (Or.inl ⟨by rfl, ?_⟩) hHeld ?_
      · intro w hSw; (try dsimp only at hSw); go_simp
      try simp only [Act.put, List.setIfInBounds_toArray, List.set_cons_zero, List.set_cons_succ]
      refine wpAnyH_takeL (i := 2) (d := some 66) (v := .bool true) rfl rfl (by kernel_rfl) (by kernel_rfl) (by kernel_rfl) (fun _ _ _ h => h) (Or.inl ⟨by rfl, ?_⟩) hHeld ?_
      · intro w hSw; (try dsimp only at hSw); go_simp
      try simp only [Act.put, List.setIfInBounds_toArray, List.set_cons_zero, List.set_cons_succ]
      refine wpAnyH_takeL (i := 3) (d := some 67) (v := undef) rfl rfl (by kernel_rfl) (by kernel_rfl) (by kernel_rfl) (fun _ _ _ h => h) (Or.inr ⟨by kernel_rfl, rfl⟩) hHeld ?_
      try simp only [Act.put, List.setIfInBounds_toArray, List.set_cons_zero, List.set_cons_succ]
      refine wpAnyH_takeL (i := 4) (d := some 68) (v := undef) rfl rfl (by kernel_rfl) (by kernel_rfl) (by kernel_rfl) (fun _ _ _ h => h) (Or.inr ⟨by kernel_rfl, rfl⟩) hHeld ?_
      try simp only [Act.put, List.setIfInBounds_toArray, List.set_cons_zero, List.set_cons_succ]
      refine wpAnyH_takeL (i := 5) (d := some 69) (v := undef) rfl rfl (by kernel_rfl) (by kernel_rfl) (by kernel_rfl) (fun _ _ _ h => h) (Or.inr ⟨by kernel_rfl, rfl⟩) hHeld ?_
      try simp only [Act.put, List.setIfInBounds_toArray, List.set_cons_zero, List.set_cons_succ]
      refine wpAnyH_takeL (i := 6) (d := some 70) (v := undef) rfl rfl (by kernel_rfl) (by kernel_rfl) (by kernel_rfl) (fun _ _ _ h => h) (Or.inr ⟨by kernel_rfl, rfl⟩) hHeld ?_
      try simp only [Act.put, List.setIfInBounds_toArray, List.set_cons_zero, List.set_cons_succ]
      refine wpAnyH_takeL (i := 7) (d := some 71) (v := undef) rfl rfl (by kernel_rfl) (by kernel_rfl) (by kernel_rfl) (fun _ _ _ h => h) (Or.inr ⟨by kernel_rfl, rfl⟩) hHeld ?_
      try simp only [Act.put, List.setIfInBounds_toArray, List.set_cons_zero, List.set_cons_succ]
      refine wpAnyH_takeL (i := 8) (d := some 72) (v := undef) rfl rfl (by kernel_rfl) (by kernel_rfl) (by kernel_rfl) (fun _ _ _ h => h) (Or.inr ⟨by kernel_rfl, rfl⟩) hHeld ?_
      try simp only [Act.put, List.setIfInBounds_toArray, List.set_cons_zero, List.set_cons_succ]
      refine wpAnyH_takeL (i := 9) (d := some 73) (v := undef) rfl rfl (by kernel_rfl) (by kernel_rfl) (by kernel_rfl) (fun _ _ _ h => h) (Or.inr ⟨by kernel_rfl, rfl⟩) hHeld ?_
      try simp only [Act.put, List.setIfInBounds_toArray, List.set_cons_zero, List.set_cons_succ]
      refine wpAnyH_takeL (i := 10) (d := some 74) (v := undef) rfl rfl (by kernel_rfl) (by kernel_rfl) (by kernel_rfl) (fun _ _ _ h => h) (Or.inr ⟨by kernel_rfl, rfl⟩) hHeld ?_
      try simp only [Act.put, List.setIfInBounds_toArray, List.set_cons_zero, List.set_cons_succ]
      refine wpAnyH_takeL (i := 11) (d := some 75) (v := undef) rfl rfl (by kernel_rfl) (by kernel_rfl) (by kernel_rfl) (fun _ _ _ h => h) (Or.inr ⟨by kernel_rfl, rfl⟩) hHeld ?_
      try simp only [Act.put, List.setIfInBounds_toArray, List.set_cons_zero, List.set_cons_succ]
      refine wpAnyH_takeL (i := 12) (d := some 76) (v := .bool true) rfl rfl (by kernel_rfl) (by kernel_rfl) (by kernel_rfl) (fun _ _ _ h => h) (Or.inl ⟨by rfl, ?_⟩) hHeld ?_
      · intro w hSw; (try dsimp only at hSw); go_simp
      try simp only [Act.put, List.setIfInBounds_toArray, List.set_cons_zero, List.set_cons_succ]
      refine wpAnyH_takeL (i := 13) (d := some 4) (v := .bool true) rfl rfl (by kernel_rfl) (by kernel_rfl) (by kernel_rfl) (fun _ _ _ h => h) (Or.inl ⟨by rfl, ?_⟩) hHeld ?_
      · intro w hSw; (try dsimp only at hSw); go_simp
      try simp only [Act.put, List.setIfInBounds_toArray, List.set_cons_zero, List.set_cons_succ]
      refine wpAnyH_done (by kernel_rfl) ?_ _
      go_wp2_with fail
      go_ret
      exact ⟨rfl, l20⟩
end Go.Proofs.Ytjooceaclfdjjaa
