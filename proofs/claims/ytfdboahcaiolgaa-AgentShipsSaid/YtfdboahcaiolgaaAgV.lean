/-
  AgentShips. No condition.
-/
import Derived.Test.YtfdboahcaiolgaaAgU
import Derived.Test.YtfdboahcaiolgaaAgQ
set_option linter.unusedVariables false
set_option linter.unusedSimpArgs false
namespace Go.Proofs.Ytfdboahcaiolgaa
open Go.RowKit
open Dk (Nt InN RightN BoundN MsgN NoMsg KindN EpN bound_n)


set_option maxRecDepth 100000 in
set_option maxHeartbeats 4000000 in
theorem ships_walk (s : Sd) (b : Bl) (mb : Int) (w : World) : Calls Try.prog 4 #[.agg (siA s), .agg (btA b), .int .u8 mb] w fun r w' => r = .returned (.bool true) ∧ Below w.heap.size w w' := by
  by_cases hs : s.cg.size ≤ 600
  rotate_left
  · skip
    have q1 : decide ((600 : Int) < (s.cg.size : Int)) = true := by simp; omega
    have q1' : decide ((s.cg.size : Int) > 600) = true := by simp; omega
    go_enter Try.func4, Try.ntmps4
    go_wp2_with (first | ((with_reducible refine st_box 40 _ (siA s) ?_ ?_); exact rfl))
    refine ⟨fun V1 g1 n1 f1 => ?_⟩
    have up1 : w.heap.size ≤ g1 := Nat.le_of_eq f1.at_
    have bl1 := f1.bel
    clear f1
    have l3 := le_tr (Below.refl _ _) bl1
    clear bl1
    go_wp2_with (first | ((with_reducible refine st_box 42 _ (btA b) ?_ ?_); exact rfl))
    refine ⟨fun V4 g4 n4 f4 => ?_⟩
    have ne4_s := f4.ne n1
    have up4 : w.heap.size ≤ g4 := f4.up l3
    have bl4 := f4.bel
    clear f4
    have r6_s := le_on n1 bl4
    have l6 := le_tr l3 bl4
    clear n1 l3
    clear bl4
    go_wp2_with fail
    (with_reducible refine (alive_c _).mono ?_)
    rintro e w7 ⟨rfl, b7⟩
    have r9_s := le_on r6_s b7
    have r9_b := le_on n4 b7
    have l9 := le_tr l6 b7
    clear r6_s n4 l6
    clear b7
    have c10 : w7.cell? ⟨g1, 4, none⟩ = some (.string (s.cg)) := CB.cell r9_s 4
    go_wp2_with fail
    go_ret
    exact ⟨rfl, l9⟩
  have q1 : decide ((600 : Int) < (s.cg.size : Int)) = false := by simp; omega
  have q1' : decide ((s.cg.size : Int) > 600) = false := by simp; omega
  obtain ⟨X, hX⟩ : ∃ X, sSh s b = X := ⟨_, rfl⟩
  obtain ⟨k, hk⟩ : ∃ k, eSh s b = k := ⟨_, rfl⟩
  obtain ⟨L, hL⟩ : ∃ L, lSp s mb = L := ⟨_, rfl⟩
  obtain ⟨j, hj⟩ : ∃ j, eSp s mb = j := ⟨_, rfl⟩
  have C1 : ∀ V : World, Calls Try.prog 16 #[.agg (siA s), .agg (btA b)] V (fun e w' => e = .returned (.tuple #[.agg (siA X), .int .i64 (k : Int)]) ∧ Below V.heap.size V w') := fun V => by have h := ship_c s b V; rw [hk, hX] at h; exact h
  have C2 : ∀ V : World, Calls Try.prog 18 #[.agg (siA s), .agg (btA b)] V (fun e w' => e = .returned (.tuple #[.agg (siA X), .int .i64 (k : Int)]) ∧ Below V.heap.size V w') := fun V => by have h := ship_r s b V; rw [hk, hX] at h; exact h
  have C3 : ∀ V : World, Calls Try.prog 19 #[.agg (siA s), .int .u8 mb] V (LPostN V 75 L j) := fun V => by have h := speak_c s mb V; rw [hj, hL] at h; exact h
  have C4 : ∀ V : World, Calls Try.prog 20 #[.agg (siA s), .int .u8 mb] V (LPostN V 109 L j) := fun V => by have h := speak_r s mb V; rw [hj, hL] at h; exact h
  have E : ∀ V : World, (Op.equalIn 10000 40 (.agg (siA X)) (.agg (siA X))).run Try.prog V = .ok true V := fun V => by have := eq_sr X X V; rw [eqS_refl] at this; exact this
  clear hs hX hk hL hj
  go_enter Try.func4, Try.ntmps4
  go_wp2_with (first | ((with_reducible refine st_box 40 _ (siA s) ?_ ?_); exact rfl))
  refine ⟨fun V1 g1 n1 f1 => ?_⟩
  have up1 : w.heap.size ≤ g1 := Nat.le_of_eq f1.at_
  have bl1 := f1.bel
  clear f1
  have l3 := le_tr (Below.refl _ _) bl1
  clear bl1
  go_wp2_with (first | ((with_reducible refine st_box 42 _ (btA b) ?_ ?_); exact rfl))
  refine ⟨fun V4 g4 n4 f4 => ?_⟩
  have ne4_s := f4.ne n1
  have up4 : w.heap.size ≤ g4 := f4.up l3
  have bl4 := f4.bel
  clear f4
  have r6_s := le_on n1 bl4
  have l6 := le_tr l3 bl4
  clear n1 l3
  clear bl4
  go_wp2_with fail
  (with_reducible refine (alive_c _).mono ?_)
  rintro e w7 ⟨rfl, b7⟩
  have r9_s := le_on r6_s b7
  have r9_b := le_on n4 b7
  have l9 := le_tr l6 b7
  clear r6_s n4 l6
  clear b7
  have c10 : w7.cell? ⟨g1, 4, none⟩ = some (.string (s.cg)) := CB.cell r9_s 4
  go_wp2_with fail
  clear c10
  have y11 := Lib.hid (show (fun V : World => CB V g1 40 (siA s) ∧ CB V g4 42 (btA b)) w7.drew from ⟨CB.drew r9_s, CB.drew r9_b⟩)
  refine wp_region_held_drew (S := (fun V : World => CB V g1 40 (siA s) ∧ CB V g4 42 (btA b))) (by kernel_rfl) y11.out (fun hHeld => ?_)
  obtain ⟨D11, hD11⟩ : ∃ V, w7.drew = V := ⟨_, rfl⟩
  have b11 : Below w7.heap.size w7 D11 := by rw [← hD11]; exact le_dr (Below.refl _ _)
  rw [hD11] at hHeld ⊢
  clear hD11
  have r13_s := le_on r9_s b11
  have r13_b := le_on r9_b b11
  have l13 := le_tr l9 b11
  clear r9_s r9_b l9
  clear b11
  refine wpAnyH_takeL (i := 0) (d := some 22) (v := .agg (siA s)) rfl rfl (by kernel_rfl) (by kernel_rfl) (by kernel_rfl) (fun _ _ _ h => h) (Or.inl ⟨by rfl, ?_⟩) hHeld ?_
  · intro w hSw; exact yl_whole 40 _ g1 rfl hSw.1 Try.underlying40 rfl Try.zSr
  try simp only [Act.put, List.setIfInBounds_toArray, List.set_cons_zero, List.set_cons_succ]
  refine wpAnyH_takeL (i := 2) (d := some 24) (v := .agg (btA b)) rfl rfl (by kernel_rfl) (by kernel_rfl) (by kernel_rfl) (fun _ _ _ h => h) (Or.inl ⟨by rfl, ?_⟩) hHeld ?_
  · intro w hSw; exact yl_whole 42 _ g4 rfl hSw.2 Try.underlying42 rfl Try.zBr
  try simp only [Act.put, List.setIfInBounds_toArray, List.set_cons_zero, List.set_cons_succ]
  refine wpAnyH_ready (rs := [1, 7]) (by kernel_rfl) (by simp) ?_
  refine AllReadyH.cons rfl (fun K hK => ?_) (AllReadyH.cons rfl (fun K hK => ?_) AllReadyH.nil)
  · skip
    go_simp
    (with_reducible refine (side_c s _).mono ?_)
    rintro e u14 ⟨rfl, b14⟩
    have r16_s := le_on r13_s b14
    have r16_b := le_on r13_b b14
    have l16 := le_tr l13 b14
    clear r13_s r13_b l13
    clear b14
    go_wp2_with fail
    have y17 := Lib.hid (show (fun V : World => CB V g1 40 (siA s) ∧ CB V g4 42 (btA b)) u14 from ⟨r16_s, r16_b⟩)
    refine hK.out _ _ y17.out (fun hHeld => ?_)
    clear hK K y17
    try simp only [Act.put, List.setIfInBounds_toArray, List.set_cons_zero, List.set_cons_succ]
    refine wpAnyH_ready (rs := [3, 7]) (by kernel_rfl) (by simp) ?_
    refine AllReadyH.cons rfl (fun K hK => ?_) (AllReadyH.cons rfl (fun K hK => ?_) AllReadyH.nil)
    · skip
      go_simp
      (with_reducible refine (C1 _).mono ?_)
      rintro e u18 ⟨rfl, b18⟩
      have r20_s := le_on r16_s b18
      have r20_b := le_on r16_b b18
      have l20 := le_tr l16 b18
      clear r16_s r16_b l16
      clear b18
      go_wp2_with fail
      have y21 := Lib.hid (show (fun V : World => CB V g1 40 (siA s) ∧ CB V g4 42 (btA b)) u18 from ⟨r20_s, r20_b⟩)
      refine hK.out _ _ y21.out (fun hHeld => ?_)
      clear hK K y21
      try simp only [Act.put, List.setIfInBounds_toArray, List.set_cons_zero, List.set_cons_succ]
      refine wpAnyH_takeL (i := 4) (d := some 21) (v := .tuple #[.agg (siA X), .int .i64 (k : Int)]) rfl rfl (by kernel_rfl) (by kernel_rfl) (by kernel_rfl) (fun _ _ _ h => h) (Or.inl ⟨by rfl, ?_⟩) hHeld ?_
      · intro w hSw; (try dsimp only at hSw); go_simp
      try simp only [Act.put, List.setIfInBounds_toArray, List.set_cons_zero, List.set_cons_succ]
      refine wpAnyH_takeL (i := 5) (d := some 26) (v := .agg (siA X)) rfl rfl (by kernel_rfl) (by kernel_rfl) (by kernel_rfl) (fun _ _ _ h => h) (Or.inl ⟨by rfl, ?_⟩) hHeld ?_
      · intro w hSw; (try dsimp only at hSw); go_simp
      try simp only [Act.put, List.setIfInBounds_toArray, List.set_cons_zero, List.set_cons_succ]
      refine wpAnyH_takeL (i := 6) (d := some 27) (v := .int .i64 (k : Int)) rfl rfl (by kernel_rfl) (by kernel_rfl) (by kernel_rfl) (fun _ _ _ h => h) (Or.inl ⟨by rfl, ?_⟩) hHeld ?_
      · intro w hSw; (try dsimp only at hSw); go_simp
      try simp only [Act.put, List.setIfInBounds_toArray, List.set_cons_zero, List.set_cons_succ]
      refine wpAnyH_ready (rs := [7]) (by kernel_rfl) (by simp) ?_
      refine AllReadyH.cons rfl (fun K hK => ?_) AllReadyH.nil
      refine rd_alloc rfl 45 rfl (some 7) rfl (siA zS) zero_sc ?_
      refine ⟨fun V22 g22 n22 f22 => ?_⟩
      have ne22_s := f22.ne r20_s
      have ne22_b := f22.ne r20_b
      have up22 : w.heap.size ≤ g22 := f22.up l20
      have bl22 := f22.bel
      clear f22
      have r24_s := le_on r20_s bl22
      have r24_b := le_on r20_b bl22
      have l24 := le_tr l20 bl22
      clear r20_s r20_b l20
      clear bl22
      have y25 := Lib.hid (show (fun V : World => CB V g1 40 (siA s) ∧ CB V g4 42 (btA b)) V22 from ⟨r24_s, r24_b⟩)
      refine hK.out _ _ y25.out (fun hHeld => ?_)
      clear hK K y25
      try simp only [Act.put, List.setIfInBounds_toArray, List.set_cons_zero, List.set_cons_succ]
      refine wpAnyH_ready (rs := [8]) (by kernel_rfl) (by simp) ?_
      refine AllReadyH.cons rfl (fun K hK => ?_) AllReadyH.nil
      refine rd_store rfl 45 _ _ rfl none rfl g22 (siA X) rfl rfl n22 Try.zSc rfl (siA_one _) ?_
      refine ⟨fun V26 n26 k26 => ?_⟩
      have m26_s := k26.on r24_s ne22_s
      have m26_b := k26.on r24_b ne22_b
      have o26 := k26.bel _ _ l24 up22
      clear k26
      clear n22 r24_s r24_b l24
      have y27 := Lib.hid (show (fun V : World => CB V g1 40 (siA s) ∧ CB V g4 42 (btA b)) V26 from ⟨m26_s, m26_b⟩)
      refine hK.out _ _ y27.out (fun hHeld => ?_)
      clear hK K y27
      try simp only [Act.put, List.setIfInBounds_toArray, List.set_cons_zero, List.set_cons_succ]
      refine wpAnyH_takeL (i := 9) (d := some 8) (v := .int .i64 (k : Int)) rfl rfl (by kernel_rfl) (by kernel_rfl) (by kernel_rfl) (fun _ _ _ h => h) (Or.inl ⟨by rfl, ?_⟩) hHeld ?_
      · intro w hSw; (try dsimp only at hSw); go_simp
      try simp only [Act.put, List.setIfInBounds_toArray, List.set_cons_zero, List.set_cons_succ]
      refine wpAnyH_done (by kernel_rfl) ?_ _
      go_wp2_with (first | (first | ((with_reducible refine st_load 40 _ g1 ?_ m26_s Try.underlying40 ?_ ?_ ?_); exact rfl; exact rfl; exact Try.zSr) | ((with_reducible refine st_loadG 40 _ g1 ?_ m26_s Try.underlying40 ?_ ?_ ?_ ?_); exact rfl; exact rfl; exact Try.zSr; exact rfl)) | (first | ((with_reducible refine st_load 42 _ g4 ?_ m26_b Try.underlying42 ?_ ?_ ?_); exact rfl; exact rfl; exact Try.zBr) | ((with_reducible refine st_loadG 42 _ g4 ?_ m26_b Try.underlying42 ?_ ?_ ?_ ?_); exact rfl; exact rfl; exact Try.zBr; exact rfl)))
      (with_reducible refine (C2 _).mono ?_)
      rintro e w28 ⟨rfl, b28⟩
      have r30_s := le_on m26_s b28
      have r30_b := le_on m26_b b28
      have r30_x := le_on n26 b28
      have l30 := le_tr o26 b28
      clear m26_s m26_b n26 o26
      clear b28
      go_wp2_with (first | ((with_reducible refine st_alloc 40 (siA zS) ?_ ?_); exact zero_sr))
      refine ⟨fun V31 g31 n31 f31 => ?_⟩
      have ne31_s := f31.ne r30_s
      have ne31_b := f31.ne r30_b
      have ne31_x := f31.ne r30_x
      have up31 : w.heap.size ≤ g31 := f31.up l30
      have bl31 := f31.bel
      clear f31
      have r33_s := le_on r30_s bl31
      have r33_b := le_on r30_b bl31
      have r33_x := le_on r30_x bl31
      have l33 := le_tr l30 bl31
      clear r30_s r30_b r30_x l30
      clear bl31
      go_wp2_with (first | ((with_reducible refine st_store 40 _ _ g31 (siA X) ?_ ?_ n31 ?_ ?_ ?_ ?_); exact rfl; exact rfl; exact Try.zSr; exact rfl; exact siA_one _))
      refine ⟨fun V34 n34 k34 => ?_⟩
      have m34_s := k34.on r33_s ne31_s
      have m34_b := k34.on r33_b ne31_b
      have m34_x := k34.on r33_x ne31_x
      have o34 := k34.bel _ _ l33 up31
      clear k34
      clear n31 r33_s r33_b r33_x l33
      go_wp2_with (first | (first | ((with_reducible refine st_load 40 _ g1 ?_ m34_s Try.underlying40 ?_ ?_ ?_); exact rfl; exact rfl; exact Try.zSr) | ((with_reducible refine st_loadG 40 _ g1 ?_ m34_s Try.underlying40 ?_ ?_ ?_ ?_); exact rfl; exact rfl; exact Try.zSr; exact rfl)))
      (with_reducible refine (side_c s _).mono ?_)
      rintro e w35 ⟨rfl, b35⟩
      have r37_s := le_on m34_s b35
      have r37_b := le_on m34_b b35
      have r37_x := le_on m34_x b35
      have r37_y := le_on n34 b35
      have l37 := le_tr o34 b35
      clear m34_s m34_b m34_x n34 o34
      clear b35
      go_wp2_with fail
      (with_reducible refine (C3 _).mono ?_)
      rintro e w38 ⟨A, n, q, rfl, h4, b38⟩
      have r40_s := le_on r37_s b38
      have r40_b := le_on r37_b b38
      have r40_x := le_on r37_x b38
      have r40_y := le_on r37_y b38
      have l40 := le_tr l37 b38
      clear r37_s r37_b r37_x r37_y l37
      clear b38
      have hx := RL.start h4.rr
      clear h4
      go_wp2_with (first | (first | ((with_reducible refine st_load 40 _ g1 ?_ r40_s Try.underlying40 ?_ ?_ ?_); exact rfl; exact rfl; exact Try.zSr) | ((with_reducible refine st_loadG 40 _ g1 ?_ r40_s Try.underlying40 ?_ ?_ ?_ ?_); exact rfl; exact rfl; exact Try.zSr; exact rfl)))
      (with_reducible refine (C4 _).mono ?_)
      rintro e w41 ⟨A2, n2, q2, rfl, h5, b41⟩
      have r43_s := le_on r40_s b41
      have r43_b := le_on r40_b b41
      have r43_x := le_on r40_x b41
      have r43_y := le_on r40_y b41
      have r43_l := (hx).on b41
      have l43 := le_tr l40 b41
      clear r40_s r40_b r40_x r40_y hx l40
      clear b41
      have hy := RL.start h5.rr
      clear h5
      go_wp2_with fail
      have y44 := Lib.hid (show (fun V : World => CB V g22 45 (siA X) ∧ CB V g31 40 (siA X) ∧ RL w38 V ncl 10 A n q L ∧ RL w41 V ncl 10 A2 n2 q2 L) w41.drew from ⟨CB.drew r43_x, CB.drew r43_y, (r43_l).drew, (hy).drew⟩)
      refine wp_region_held_drew (S := (fun V : World => CB V g22 45 (siA X) ∧ CB V g31 40 (siA X) ∧ RL w38 V ncl 10 A n q L ∧ RL w41 V ncl 10 A2 n2 q2 L)) (by kernel_rfl) y44.out (fun hHeld => ?_)
      obtain ⟨D44, hD44⟩ : ∃ V, w41.drew = V := ⟨_, rfl⟩
      have b44 : Below w41.heap.size w41 D44 := by rw [← hD44]; exact le_dr (Below.refl _ _)
      rw [hD44] at hHeld ⊢
      clear hD44
      have r46_s := le_on r43_s b44
      have r46_b := le_on r43_b b44
      have r46_x := le_on r43_x b44
      have r46_y := le_on r43_y b44
      have r46_l := (r43_l).on b44
      have r46_m := (hy).on b44
      have l46 := le_tr l43 b44
      clear r43_s r43_b r43_x r43_y r43_l hy l43
      clear b44
      refine wpAnyH_takeL (i := 0) (d := some 47) (v := .agg (siA X)) rfl rfl (by kernel_rfl) (by kernel_rfl) (by kernel_rfl) (fun _ _ _ h => h) (Or.inl ⟨by rfl, ?_⟩) hHeld ?_
      · intro w hSw; exact yl_whole 45 _ g22 rfl hSw.1 Try.underlying45 rfl Try.zSc
      try simp only [Act.put, List.setIfInBounds_toArray, List.set_cons_zero, List.set_cons_succ]
      refine wpAnyH_takeL (i := 2) (d := some 49) (v := .agg (siA X)) rfl rfl (by kernel_rfl) (by kernel_rfl) (by kernel_rfl) (fun _ _ _ h => h) (Or.inl ⟨by rfl, ?_⟩) hHeld ?_
      · intro w hSw; exact yl_whole 40 _ g31 rfl hSw.2.1 Try.underlying40 rfl Try.zSr
      try simp only [Act.put, List.setIfInBounds_toArray, List.set_cons_zero, List.set_cons_succ]
      refine wpAnyH_ready (rs := [1]) (by kernel_rfl) (by simp) ?_
      refine AllReadyH.cons rfl (fun K hK => ?_) AllReadyH.nil
      go_simp
      (with_reducible refine (ours_c X _).mono ?_)
      rintro e u47 ⟨rfl, b47⟩
      have r49_s := le_on r46_s b47
      have r49_b := le_on r46_b b47
      have r49_x := le_on r46_x b47
      have r49_y := le_on r46_y b47
      have r49_l := (r46_l).on b47
      have r49_m := (r46_m).on b47
      have l49 := le_tr l46 b47
      clear r46_s r46_b r46_x r46_y r46_l r46_m l46
      clear b47
      go_wp2_with fail
      have y50 := Lib.hid (show (fun V : World => CB V g22 45 (siA X) ∧ CB V g31 40 (siA X) ∧ RL w38 V ncl 10 A n q L ∧ RL w41 V ncl 10 A2 n2 q2 L) u47 from ⟨r49_x, r49_y, r49_l, r49_m⟩)
      refine hK.out _ _ y50.out (fun hHeld => ?_)
      clear hK K y50
      try simp only [Act.put, List.setIfInBounds_toArray, List.set_cons_zero, List.set_cons_succ]
      refine wpAnyH_takeL (i := 3) (d := some 50) (v := .bool true) rfl rfl (by kernel_rfl) (by kernel_rfl) (by kernel_rfl) (fun _ _ _ h => h) (Or.inl ⟨by rfl, ?_⟩) hHeld ?_
      · intro w hSw; have hE := E w; go_simp
      try simp only [Act.put, List.setIfInBounds_toArray, List.set_cons_zero, List.set_cons_succ]
      refine wpAnyH_takeL (i := 4) (d := some 51) (v := .bool true) rfl rfl (by kernel_rfl) (by kernel_rfl) (by kernel_rfl) (fun _ _ _ h => h) (Or.inl ⟨by rfl, ?_⟩) hHeld ?_
      · intro w hSw; (try dsimp only at hSw); go_simp
      try simp only [Act.put, List.setIfInBounds_toArray, List.set_cons_zero, List.set_cons_succ]
      refine wpAnyH_takeL (i := 5) (d := some 52) (v := .int .i64 (k : Int)) rfl rfl (by kernel_rfl) (by kernel_rfl) (by kernel_rfl) (fun _ _ _ h => h) (Or.inl ⟨by rfl, ?_⟩) hHeld ?_
      · intro w hSw; (try dsimp only at hSw); go_simp
      try simp only [Act.put, List.setIfInBounds_toArray, List.set_cons_zero, List.set_cons_succ]
      refine wpAnyH_takeL (i := 6) (d := some 53) (v := .int .i64 (k : Int)) rfl rfl (by kernel_rfl) (by kernel_rfl) (by kernel_rfl) (fun _ _ _ h => h) (Or.inl ⟨by rfl, ?_⟩) hHeld ?_
      · intro w hSw; (try dsimp only at hSw); go_simp
      try simp only [Act.put, List.setIfInBounds_toArray, List.set_cons_zero, List.set_cons_succ]
      refine wpAnyH_takeL (i := 7) (d := some 54) (v := .bool true) rfl rfl (by kernel_rfl) (by kernel_rfl) (by kernel_rfl) (fun _ _ _ h => h) (Or.inl ⟨by rfl, ?_⟩) hHeld ?_
      · intro w hSw; (try dsimp only at hSw); go_simp
      try simp only [Act.put, List.setIfInBounds_toArray, List.set_cons_zero, List.set_cons_succ]
      refine wpAnyH_takeL (i := 8) (d := some 55) (v := .bool true) rfl rfl (by kernel_rfl) (by kernel_rfl) (by kernel_rfl) (fun _ _ _ h => h) (Or.inl ⟨by rfl, ?_⟩) hHeld ?_
      · intro w hSw; (try dsimp only at hSw); go_simp
      try simp only [Act.put, List.setIfInBounds_toArray, List.set_cons_zero, List.set_cons_succ]
      refine wpAnyH_takeL (i := 9) (d := some 56) (v := .bool true) rfl rfl (by kernel_rfl) (by kernel_rfl) (by kernel_rfl) (fun _ _ _ h => h) (Or.inl ⟨by rfl, ?_⟩) hHeld ?_
      · intro w hSw; (try dsimp only at hSw); go_simp
      try simp only [Act.put, List.setIfInBounds_toArray, List.set_cons_zero, List.set_cons_succ]
      refine wpAnyH_takeL (i := 10) (d := some 57) (v := .slice A n q) rfl rfl (by kernel_rfl) (by kernel_rfl) (by kernel_rfl) (fun _ _ _ h => h) (Or.inl ⟨by rfl, ?_⟩) hHeld ?_
      · intro w hSw; (try dsimp only at hSw); go_simp
      try simp only [Act.put, List.setIfInBounds_toArray, List.set_cons_zero, List.set_cons_succ]
      refine wpAnyH_takeL (i := 11) (d := some 58) (v := .slice A2 n2 q2) rfl rfl (by kernel_rfl) (by kernel_rfl) (by kernel_rfl) (fun _ _ _ h => h) (Or.inl ⟨by rfl, ?_⟩) hHeld ?_
      · intro w hSw; (try dsimp only at hSw); go_simp
      try simp only [Act.put, List.setIfInBounds_toArray, List.set_cons_zero, List.set_cons_succ]
      refine wpAnyH_ready (rs := [12]) (by kernel_rfl) (by simp) ?_
      refine AllReadyH.cons rfl (fun K hK => ?_) AllReadyH.nil
      go_simp
      (with_reducible refine (notes_c A A2 n q n2 q2 L _ (r49_l).rr (r49_m).rr).mono ?_)
      rintro e u51 ⟨rfl, b51⟩
      have r53_s := le_on r49_s b51
      have r53_b := le_on r49_b b51
      have r53_x := le_on r49_x b51
      have r53_y := le_on r49_y b51
      have r53_l := (r49_l).on b51
      have r53_m := (r49_m).on b51
      have l53 := le_tr l49 b51
      clear r49_s r49_b r49_x r49_y r49_l r49_m l49
      clear b51
      go_wp2_with fail
      have y54 := Lib.hid (show (fun V : World => CB V g22 45 (siA X) ∧ CB V g31 40 (siA X) ∧ RL w38 V ncl 10 A n q L ∧ RL w41 V ncl 10 A2 n2 q2 L) u51 from ⟨r53_x, r53_y, r53_l, r53_m⟩)
      refine hK.out _ _ y54.out (fun hHeld => ?_)
      clear hK K y54
      try simp only [Act.put, List.setIfInBounds_toArray, List.set_cons_zero, List.set_cons_succ]
      refine wpAnyH_takeL (i := 13) (d := some 60) (v := .bool true) rfl rfl (by kernel_rfl) (by kernel_rfl) (by kernel_rfl) (fun _ _ _ h => h) (Or.inl ⟨by rfl, ?_⟩) hHeld ?_
      · intro w hSw; (try dsimp only at hSw); go_simp
      try simp only [Act.put, List.setIfInBounds_toArray, List.set_cons_zero, List.set_cons_succ]
      refine wpAnyH_takeL (i := 14) (d := some 61) (v := .bool true) rfl rfl (by kernel_rfl) (by kernel_rfl) (by kernel_rfl) (fun _ _ _ h => h) (Or.inl ⟨by rfl, ?_⟩) hHeld ?_
      · intro w hSw; (try dsimp only at hSw); go_simp
      try simp only [Act.put, List.setIfInBounds_toArray, List.set_cons_zero, List.set_cons_succ]
      refine wpAnyH_takeL (i := 15) (d := some 62) (v := .int .i64 (j : Int)) rfl rfl (by kernel_rfl) (by kernel_rfl) (by kernel_rfl) (fun _ _ _ h => h) (Or.inl ⟨by rfl, ?_⟩) hHeld ?_
      · intro w hSw; (try dsimp only at hSw); go_simp
      try simp only [Act.put, List.setIfInBounds_toArray, List.set_cons_zero, List.set_cons_succ]
      refine wpAnyH_takeL (i := 16) (d := some 63) (v := .int .i64 (j : Int)) rfl rfl (by kernel_rfl) (by kernel_rfl) (by kernel_rfl) (fun _ _ _ h => h) (Or.inl ⟨by rfl, ?_⟩) hHeld ?_
      · intro w hSw; (try dsimp only at hSw); go_simp
      try simp only [Act.put, List.setIfInBounds_toArray, List.set_cons_zero, List.set_cons_succ]
      refine wpAnyH_takeL (i := 17) (d := some 64) (v := .bool true) rfl rfl (by kernel_rfl) (by kernel_rfl) (by kernel_rfl) (fun _ _ _ h => h) (Or.inl ⟨by rfl, ?_⟩) hHeld ?_
      · intro w hSw; (try dsimp only at hSw); go_simp
      try simp only [Act.put, List.setIfInBounds_toArray, List.set_cons_zero, List.set_cons_succ]
      refine wpAnyH_takeL (i := 18) (d := some 65) (v := .bool true) rfl rfl (by kernel_rfl) (by kernel_rfl) (by kernel_rfl) (fun _ _ _ h => h) (Or.inl ⟨by rfl, ?_⟩) hHeld ?_
      · intro w hSw; (try dsimp only at hSw); go_simp
      try simp only [Act.put, List.setIfInBounds_toArray, List.set_cons_zero, List.set_cons_succ]
      refine wpAnyH_takeL (i := 19) (d := some 6) (v := .bool true) rfl rfl (by kernel_rfl) (by kernel_rfl) (by kernel_rfl) (fun _ _ _ h => h) (Or.inl ⟨by rfl, ?_⟩) hHeld ?_
      · intro w hSw; (try dsimp only at hSw); go_simp
      try simp only [Act.put, List.setIfInBounds_toArray, List.set_cons_zero, List.set_cons_succ]
      refine wpAnyH_done (by kernel_rfl) ?_ _
      go_wp2_with fail
      go_ret
      exact ⟨rfl, l53⟩
    · skip
      refine rd_alloc rfl 45 rfl (some 7) rfl (siA zS) zero_sc ?_
      refine ⟨fun V18 g18 n18 f18 => ?_⟩
      have ne18_s := f18.ne r16_s
      have ne18_b := f18.ne r16_b
      have up18 : w.heap.size ≤ g18 := f18.up l16
      have bl18 := f18.bel
      clear f18
      have r20_s := le_on r16_s bl18
      have r20_b := le_on r16_b bl18
      have l20 := le_tr l16 bl18
      clear r16_s r16_b l16
      clear bl18
      have y21 := Lib.hid (show (fun V : World => CB V g1 40 (siA s) ∧ CB V g4 42 (btA b)) V18 from ⟨r20_s, r20_b⟩)
      refine hK.out _ _ y21.out (fun hHeld => ?_)
      clear hK K y21
      try simp only [Act.put, List.setIfInBounds_toArray, List.set_cons_zero, List.set_cons_succ]
      refine wpAnyH_ready (rs := [3]) (by kernel_rfl) (by simp) ?_
      refine AllReadyH.cons rfl (fun K hK => ?_) AllReadyH.nil
      go_simp
      (with_reducible refine (C1 _).mono ?_)
      rintro e u22 ⟨rfl, b22⟩
      have r24_s := le_on r20_s b22
      have r24_b := le_on r20_b b22
      have r24_x := le_on n18 b22
      have l24 := le_tr l20 b22
      clear r20_s r20_b n18 l20
      clear b22
      go_wp2_with fail
      have y25 := Lib.hid (show (fun V : World => CB V g1 40 (siA s) ∧ CB V g4 42 (btA b)) u22 from ⟨r24_s, r24_b⟩)
      refine hK.out _ _ y25.out (fun hHeld => ?_)
      clear hK K y25
      try simp only [Act.put, List.setIfInBounds_toArray, List.set_cons_zero, List.set_cons_succ]
      refine wpAnyH_takeL (i := 4) (d := some 21) (v := .tuple #[.agg (siA X), .int .i64 (k : Int)]) rfl rfl (by kernel_rfl) (by kernel_rfl) (by kernel_rfl) (fun _ _ _ h => h) (Or.inl ⟨by rfl, ?_⟩) hHeld ?_
      · intro w hSw; (try dsimp only at hSw); go_simp
      try simp only [Act.put, List.setIfInBounds_toArray, List.set_cons_zero, List.set_cons_succ]
      refine wpAnyH_takeL (i := 5) (d := some 26) (v := .agg (siA X)) rfl rfl (by kernel_rfl) (by kernel_rfl) (by kernel_rfl) (fun _ _ _ h => h) (Or.inl ⟨by rfl, ?_⟩) hHeld ?_
      · intro w hSw; (try dsimp only at hSw); go_simp
      try simp only [Act.put, List.setIfInBounds_toArray, List.set_cons_zero, List.set_cons_succ]
      refine wpAnyH_takeL (i := 6) (d := some 27) (v := .int .i64 (k : Int)) rfl rfl (by kernel_rfl) (by kernel_rfl) (by kernel_rfl) (fun _ _ _ h => h) (Or.inl ⟨by rfl, ?_⟩) hHeld ?_
      · intro w hSw; (try dsimp only at hSw); go_simp
      try simp only [Act.put, List.setIfInBounds_toArray, List.set_cons_zero, List.set_cons_succ]
      refine wpAnyH_ready (rs := [8]) (by kernel_rfl) (by simp) ?_
      refine AllReadyH.cons rfl (fun K hK => ?_) AllReadyH.nil
      refine rd_store rfl 45 _ _ rfl none rfl g18 (siA X) rfl rfl r24_x Try.zSc rfl (siA_one _) ?_
      refine ⟨fun V26 n26 k26 => ?_⟩
      have m26_s := k26.on r24_s ne18_s
      have m26_b := k26.on r24_b ne18_b
      have o26 := k26.bel _ _ l24 up18
      clear k26
      clear r24_x r24_s r24_b l24
      have y27 := Lib.hid (show (fun V : World => CB V g1 40 (siA s) ∧ CB V g4 42 (btA b)) V26 from ⟨m26_s, m26_b⟩)
      refine hK.out _ _ y27.out (fun hHeld => ?_)
      clear hK K y27
      try simp only [Act.put, List.setIfInBounds_toArray, List.set_cons_zero, List.set_cons_succ]
      refine wpAnyH_takeL (i := 9) (d := some 8) (v := .int .i64 (k : Int)) rfl rfl (by kernel_rfl) (by kernel_rfl) (by kernel_rfl) (fun _ _ _ h => h) (Or.inl ⟨by rfl, ?_⟩) hHeld ?_
      · intro w hSw; (try dsimp only at hSw); go_simp
      try simp only [Act.put, List.setIfInBounds_toArray, List.set_cons_zero, List.set_cons_succ]
      refine wpAnyH_done (by kernel_rfl) ?_ _
      go_wp2_with (first | (first | ((with_reducible refine st_load 40 _ g1 ?_ m26_s Try.underlying40 ?_ ?_ ?_); exact rfl; exact rfl; exact Try.zSr) | ((with_reducible refine st_loadG 40 _ g1 ?_ m26_s Try.underlying40 ?_ ?_ ?_ ?_); exact rfl; exact rfl; exact Try.zSr; exact rfl)) | (first | ((with_reducible refine st_load 42 _ g4 ?_ m26_b Try.underlying42 ?_ ?_ ?_); exact rfl; exact rfl; exact Try.zBr) | ((with_reducible refine st_loadG 42 _ g4 ?_ m26_b Try.underlying42 ?_ ?_ ?_ ?_); exact rfl; exact rfl; exact Try.zBr; exact rfl)))
      (with_reducible refine (C2 _).mono ?_)
      rintro e w28 ⟨rfl, b28⟩
      have r30_s := le_on m26_s b28
      have r30_b := le_on m26_b b28
      have r30_x := le_on n26 b28
      have l30 := le_tr o26 b28
      clear m26_s m26_b n26 o26
      clear b28
      go_wp2_with (first | ((with_reducible refine st_alloc 40 (siA zS) ?_ ?_); exact zero_sr))
      refine ⟨fun V31 g31 n31 f31 => ?_⟩
      have ne31_s := f31.ne r30_s
      have ne31_b := f31.ne r30_b
      have ne31_x := f31.ne r30_x
      have up31 : w.heap.size ≤ g31 := f31.up l30
      have bl31 := f31.bel
      clear f31
      have r33_s := le_on r30_s bl31
      have r33_b := le_on r30_b bl31
      have r33_x := le_on r30_x bl31
      have l33 := le_tr l30 bl31
      clear r30_s r30_b r30_x l30
      clear bl31
      go_wp2_with (first | ((with_reducible refine st_store 40 _ _ g31 (siA X) ?_ ?_ n31 ?_ ?_ ?_ ?_); exact rfl; exact rfl; exact Try.zSr; exact rfl; exact siA_one _))
      refine ⟨fun V34 n34 k34 => ?_⟩
      have m34_s := k34.on r33_s ne31_s
      have m34_b := k34.on r33_b ne31_b
      have m34_x := k34.on r33_x ne31_x
      have o34 := k34.bel _ _ l33 up31
      clear k34
      clear n31 r33_s r33_b r33_x l33
      go_wp2_with (first | (first | ((with_reducible refine st_load 40 _ g1 ?_ m34_s Try.underlying40 ?_ ?_ ?_); exact rfl; exact rfl; exact Try.zSr) | ((with_reducible refine st_loadG 40 _ g1 ?_ m34_s Try.underlying40 ?_ ?_ ?_ ?_); exact rfl; exact rfl; exact Try.zSr; exact rfl)))
      (with_reducible refine (side_c s _).mono ?_)
      rintro e w35 ⟨rfl, b35⟩
      have r37_s := le_on m34_s b35
      have r37_b := le_on m34_b b35
      have r37_x := le_on m34_x b35
      have r37_y := le_on n34 b35
      have l37 := le_tr o34 b35
      clear m34_s m34_b m34_x n34 o34
      clear b35
      go_wp2_with fail
      (with_reducible refine (C3 _).mono ?_)
      rintro e w38 ⟨A, n, q, rfl, h4, b38⟩
      have r40_s := le_on r37_s b38
      have r40_b := le_on r37_b b38
      have r40_x := le_on r37_x b38
      have r40_y := le_on r37_y b38
      have l40 := le_tr l37 b38
      clear r37_s r37_b r37_x r37_y l37
      clear b38
      have hx := RL.start h4.rr
      clear h4
      go_wp2_with (first | (first | ((with_reducible refine st_load 40 _ g1 ?_ r40_s Try.underlying40 ?_ ?_ ?_); exact rfl; exact rfl; exact Try.zSr) | ((with_reducible refine st_loadG 40 _ g1 ?_ r40_s Try.underlying40 ?_ ?_ ?_ ?_); exact rfl; exact rfl; exact Try.zSr; exact rfl)))
      (with_reducible refine (C4 _).mono ?_)
      rintro e w41 ⟨A2, n2, q2, rfl, h5, b41⟩
      have r43_s := le_on r40_s b41
      have r43_b := le_on r40_b b41
      have r43_x := le_on r40_x b41
      have r43_y := le_on r40_y b41
      have r43_l := (hx).on b41
      have l43 := le_tr l40 b41
      clear r40_s r40_b r40_x r40_y hx l40
      clear b41
      have hy := RL.start h5.rr
      clear h5
      go_wp2_with fail
      have y44 := Lib.hid (show (fun V : World => CB V g18 45 (siA X) ∧ CB V g31 40 (siA X) ∧ RL w38 V ncl 10 A n q L ∧ RL w41 V ncl 10 A2 n2 q2 L) w41.drew from ⟨CB.drew r43_x, CB.drew r43_y, (r43_l).drew, (hy).drew⟩)
      refine wp_region_held_drew (S := (fun V : World => CB V g18 45 (siA X) ∧ CB V g31 40 (siA X) ∧ RL w38 V ncl 10 A n q L ∧ RL w41 V ncl 10 A2 n2 q2 L)) (by kernel_rfl) y44.out (fun hHeld => ?_)
      obtain ⟨D44, hD44⟩ : ∃ V, w41.drew = V := ⟨_, rfl⟩
      have b44 : Below w41.heap.size w41 D44 := by rw [← hD44]; exact le_dr (Below.refl _ _)
      rw [hD44] at hHeld ⊢
      clear hD44
      have r46_s := le_on r43_s b44
      have r46_b := le_on r43_b b44
      have r46_x := le_on r43_x b44
      have r46_y := le_on r43_y b44
      have r46_l := (r43_l).on b44
      have r46_m := (hy).on b44
      have l46 := le_tr l43 b44
      clear r43_s r43_b r43_x r43_y r43_l hy l43
      clear b44
      refine wpAnyH_takeL (i := 0) (d := some 47) (v := .agg (siA X)) rfl rfl (by kernel_rfl) (by kernel_rfl) (by kernel_rfl) (fun _ _ _ h => h) (Or.inl ⟨by rfl, ?_⟩) hHeld ?_
      · intro w hSw; exact yl_whole 45 _ g18 rfl hSw.1 Try.underlying45 rfl Try.zSc
      try simp only [Act.put, List.setIfInBounds_toArray, List.set_cons_zero, List.set_cons_succ]
      refine wpAnyH_takeL (i := 2) (d := some 49) (v := .agg (siA X)) rfl rfl (by kernel_rfl) (by kernel_rfl) (by kernel_rfl) (fun _ _ _ h => h) (Or.inl ⟨by rfl, ?_⟩) hHeld ?_
      · intro w hSw; exact yl_whole 40 _ g31 rfl hSw.2.1 Try.underlying40 rfl Try.zSr
      try simp only [Act.put, List.setIfInBounds_toArray, List.set_cons_zero, List.set_cons_succ]
      refine wpAnyH_ready (rs := [1]) (by kernel_rfl) (by simp) ?_
      refine AllReadyH.cons rfl (fun K hK => ?_) AllReadyH.nil
      go_simp
      (with_reducible refine (ours_c X _).mono ?_)
      rintro e u47 ⟨rfl, b47⟩
      have r49_s := le_on r46_s b47
      have r49_b := le_on r46_b b47
      have r49_x := le_on r46_x b47
      have r49_y := le_on r46_y b47
      have r49_l := (r46_l).on b47
      have r49_m := (r46_m).on b47
      have l49 := le_tr l46 b47
      clear r46_s r46_b r46_x r46_y r46_l r46_m l46
      clear b47
      go_wp2_with fail
      have y50 := Lib.hid (show (fun V : World => CB V g18 45 (siA X) ∧ CB V g31 40 (siA X) ∧ RL w38 V ncl 10 A n q L ∧ RL w41 V ncl 10 A2 n2 q2 L) u47 from ⟨r49_x, r49_y, r49_l, r49_m⟩)
      refine hK.out _ _ y50.out (fun hHeld => ?_)
      clear hK K y50
      try simp only [Act.put, List.setIfInBounds_toArray, List.set_cons_zero, List.set_cons_succ]
      refine wpAnyH_takeL (i := 3) (d := some 50) (v := .bool true) rfl rfl (by kernel_rfl) (by kernel_rfl) (by kernel_rfl) (fun _ _ _ h => h) (Or.inl ⟨by rfl, ?_⟩) hHeld ?_
      · intro w hSw; have hE := E w; go_simp
      try simp only [Act.put, List.setIfInBounds_toArray, List.set_cons_zero, List.set_cons_succ]
      refine wpAnyH_takeL (i := 4) (d := some 51) (v := .bool true) rfl rfl (by kernel_rfl) (by kernel_rfl) (by kernel_rfl) (fun _ _ _ h => h) (Or.inl ⟨by rfl, ?_⟩) hHeld ?_
      · intro w hSw; (try dsimp only at hSw); go_simp
      try simp only [Act.put, List.setIfInBounds_toArray, List.set_cons_zero, List.set_cons_succ]
      refine wpAnyH_takeL (i := 5) (d := some 52) (v := .int .i64 (k : Int)) rfl rfl (by kernel_rfl) (by kernel_rfl) (by kernel_rfl) (fun _ _ _ h => h) (Or.inl ⟨by rfl, ?_⟩) hHeld ?_
      · intro w hSw; (try dsimp only at hSw); go_simp
      try simp only [Act.put, List.setIfInBounds_toArray, List.set_cons_zero, List.set_cons_succ]
      refine wpAnyH_takeL (i := 6) (d := some 53) (v := .int .i64 (k : Int)) rfl rfl (by kernel_rfl) (by kernel_rfl) (by kernel_rfl) (fun _ _ _ h => h) (Or.inl ⟨by rfl, ?_⟩) hHeld ?_
      · intro w hSw; (try dsimp only at hSw); go_simp
      try simp only [Act.put, List.setIfInBounds_toArray, List.set_cons_zero, List.set_cons_succ]
      refine wpAnyH_takeL (i := 7) (d := some 54) (v := .bool true) rfl rfl (by kernel_rfl) (by kernel_rfl) (by kernel_rfl) (fun _ _ _ h => h) (Or.inl ⟨by rfl, ?_⟩) hHeld ?_
      · intro w hSw; (try dsimp only at hSw); go_simp
      try simp only [Act.put, List.setIfInBounds_toArray, List.set_cons_zero, List.set_cons_succ]
      refine wpAnyH_takeL (i := 8) (d := some 55) (v := .bool true) rfl rfl (by kernel_rfl) (by kernel_rfl) (by kernel_rfl) (fun _ _ _ h => h) (Or.inl ⟨by rfl, ?_⟩) hHeld ?_
      · intro w hSw; (try dsimp only at hSw); go_simp
      try simp only [Act.put, List.setIfInBounds_toArray, List.set_cons_zero, List.set_cons_succ]
      refine wpAnyH_takeL (i := 9) (d := some 56) (v := .bool true) rfl rfl (by kernel_rfl) (by kernel_rfl) (by kernel_rfl) (fun _ _ _ h => h) (Or.inl ⟨by rfl, ?_⟩) hHeld ?_
      · intro w hSw; (try dsimp only at hSw); go_simp
      try simp only [Act.put, List.setIfInBounds_toArray, List.set_cons_zero, List.set_cons_succ]
      refine wpAnyH_takeL (i := 10) (d := some 57) (v := .slice A n q) rfl rfl (by kernel_rfl) (by kernel_rfl) (by kernel_rfl) (fun _ _ _ h => h) (Or.inl ⟨by rfl, ?_⟩) hHeld ?_
      · intro w hSw; (try dsimp only at hSw); go_simp
      try simp only [Act.put, List.setIfInBounds_toArray, List.set_cons_zero, List.set_cons_succ]
      refine wpAnyH_takeL (i := 11) (d := some 58) (v := .slice A2 n2 q2) rfl rfl (by kernel_rfl) (by kernel_rfl) (by kernel_rfl) (fun _ _ _ h => h) (Or.inl ⟨by rfl, ?_⟩) hHeld ?_
      · intro w hSw; (try dsimp only at hSw); go_simp
      try simp only [Act.put, List.setIfInBounds_toArray, List.set_cons_zero, List.set_cons_succ]
      refine wpAnyH_ready (rs := [12]) (by kernel_rfl) (by simp) ?_
      refine AllReadyH.cons rfl (fun K hK => ?_) AllReadyH.nil
      go_simp
      (with_reducible refine (notes_c A A2 n q n2 q2 L _ (r49_l).rr (r49_m).rr).mono ?_)
      rintro e u51 ⟨rfl, b51⟩
      have r53_s := le_on r49_s b51
      have r53_b := le_on r49_b b51
      have r53_x := le_on r49_x b51
      have r53_y := le_on r49_y b51
      have r53_l := (r49_l).on b51
      have r53_m := (r49_m).on b51
      have l53 := le_tr l49 b51
      clear r49_s r49_b r49_x r49_y r49_l r49_m l49
      clear b51
      go_wp2_with fail
      have y54 := Lib.hid (show (fun V : World => CB V g18 45 (siA X) ∧ CB V g31 40 (siA X) ∧ RL w38 V ncl 10 A n q L ∧ RL w41 V ncl 10 A2 n2 q2 L) u51 from ⟨r53_x, r53_y, r53_l, r53_m⟩)
      refine hK.out _ _ y54.out (fun hHeld => ?_)
      clear hK K y54
      try simp only [Act.put, List.setIfInBounds_toArray, List.set_cons_zero, List.set_cons_succ]
      refine wpAnyH_takeL (i := 13) (d := some 60) (v := .bool true) rfl rfl (by kernel_rfl) (by kernel_rfl) (by kernel_rfl) (fun _ _ _ h => h) (Or.inl ⟨by rfl, ?_⟩) hHeld ?_
      · intro w hSw; (try dsimp only at hSw); go_simp
      try simp only [Act.put, List.setIfInBounds_toArray, List.set_cons_zero, List.set_cons_succ]
      refine wpAnyH_takeL (i := 14) (d := some 61) (v := .bool true) rfl rfl (by kernel_rfl) (by kernel_rfl) (by kernel_rfl) (fun _ _ _ h => h) (Or.inl ⟨by rfl, ?_⟩) hHeld ?_
      · intro w hSw; (try dsimp only at hSw); go_simp
      try simp only [Act.put, List.setIfInBounds_toArray, List.set_cons_zero, List.set_cons_succ]
      refine wpAnyH_takeL (i := 15) (d := some 62) (v := .int .i64 (j : Int)) rfl rfl (by kernel_rfl) (by kernel_rfl) (by kernel_rfl) (fun _ _ _ h => h) (Or.inl ⟨by rfl, ?_⟩) hHeld ?_
      · intro w hSw; (try dsimp only at hSw); go_simp
      try simp only [Act.put, List.setIfInBounds_toArray, List.set_cons_zero, List.set_cons_succ]
      refine wpAnyH_takeL (i := 16) (d := some 63) (v := .int .i64 (j : Int)) rfl rfl (by kernel_rfl) (by kernel_rfl) (by kernel_rfl) (fun _ _ _ h => h) (Or.inl ⟨by rfl, ?_⟩) hHeld ?_
      · intro w hSw; (try dsimp only at hSw); go_simp
      try simp only [Act.put, List.setIfInBounds_toArray, List.set_cons_zero, List.set_cons_succ]
      refine wpAnyH_takeL (i := 17) (d := some 64) (v := .bool true) rfl rfl (by kernel_rfl) (by kernel_rfl) (by kernel_rfl) (fun _ _ _ h => h) (Or.inl ⟨by rfl, ?_⟩) hHeld ?_
      · intro w hSw; (try dsimp only at hSw); go_simp
      try simp only [Act.put, List.setIfInBounds_toArray, List.set_cons_zero, List.set_cons_succ]
      refine wpAnyH_takeL (i := 18) (d := some 65) (v := .bool true) rfl rfl (by kernel_rfl) (by kernel_rfl) (by kernel_rfl) (fun _ _ _ h => h) (Or.inl ⟨by rfl, ?_⟩) hHeld ?_
      · intro w hSw; (try dsimp only at hSw); go_simp
      try simp only [Act.put, List.setIfInBounds_toArray, List.set_cons_zero, List.set_cons_succ]
      refine wpAnyH_takeL (i := 19) (d := some 6) (v := .bool true) rfl rfl (by kernel_rfl) (by kernel_rfl) (by kernel_rfl) (fun _ _ _ h => h) (Or.inl ⟨by rfl, ?_⟩) hHeld ?_
      · intro w hSw; (try dsimp only at hSw); go_simp
      try simp only [Act.put, List.setIfInBounds_toArray, List.set_cons_zero, List.set_cons_succ]
      refine wpAnyH_done (by kernel_rfl) ?_ _
      go_wp2_with fail
      go_ret
      exact ⟨rfl, l53⟩
  · skip
    refine rd_alloc rfl 45 rfl (some 7) rfl (siA zS) zero_sc ?_
    refine ⟨fun V14 g14 n14 f14 => ?_⟩
    have ne14_s := f14.ne r13_s
    have ne14_b := f14.ne r13_b
    have up14 : w.heap.size ≤ g14 := f14.up l13
    have bl14 := f14.bel
    clear f14
    have r16_s := le_on r13_s bl14
    have r16_b := le_on r13_b bl14
    have l16 := le_tr l13 bl14
    clear r13_s r13_b l13
    clear bl14
    have y17 := Lib.hid (show (fun V : World => CB V g1 40 (siA s) ∧ CB V g4 42 (btA b)) V14 from ⟨r16_s, r16_b⟩)
    refine hK.out _ _ y17.out (fun hHeld => ?_)
    clear hK K y17
    try simp only [Act.put, List.setIfInBounds_toArray, List.set_cons_zero, List.set_cons_succ]
    refine wpAnyH_ready (rs := [1]) (by kernel_rfl) (by simp) ?_
    refine AllReadyH.cons rfl (fun K hK => ?_) AllReadyH.nil
    go_simp
    (with_reducible refine (side_c s _).mono ?_)
    rintro e u18 ⟨rfl, b18⟩
    have r20_s := le_on r16_s b18
    have r20_b := le_on r16_b b18
    have r20_x := le_on n14 b18
    have l20 := le_tr l16 b18
    clear r16_s r16_b n14 l16
    clear b18
    go_wp2_with fail
    have y21 := Lib.hid (show (fun V : World => CB V g1 40 (siA s) ∧ CB V g4 42 (btA b)) u18 from ⟨r20_s, r20_b⟩)
    refine hK.out _ _ y21.out (fun hHeld => ?_)
    clear hK K y21
    try simp only [Act.put, List.setIfInBounds_toArray, List.set_cons_zero, List.set_cons_succ]
    refine wpAnyH_ready (rs := [3]) (by kernel_rfl) (by simp) ?_
    refine AllReadyH.cons rfl (fun K hK => ?_) AllReadyH.nil
    go_simp
    (with_reducible refine (C1 _).mono ?_)
    rintro e u22 ⟨rfl, b22⟩
    have r24_s := le_on r20_s b22
    have r24_b := le_on r20_b b22
    have r24_x := le_on r20_x b22
    have l24 := le_tr l20 b22
    clear r20_s r20_b r20_x l20
    clear b22
    go_wp2_with fail
    have y25 := Lib.hid (show (fun V : World => CB V g1 40 (siA s) ∧ CB V g4 42 (btA b)) u22 from ⟨r24_s, r24_b⟩)
    refine hK.out _ _ y25.out (fun hHeld => ?_)
    clear hK K y25
    try simp only [Act.put, List.setIfInBounds_toArray, List.set_cons_zero, List.set_cons_succ]
    refine wpAnyH_takeL (i := 4) (d := some 21) (v := .tuple #[.agg (siA X), .int .i64 (k : Int)]) rfl rfl (by kernel_rfl) (by kernel_rfl) (by kernel_rfl) (fun _ _ _ h => h) (Or.inl ⟨by rfl, ?_⟩) hHeld ?_
    · intro w hSw; (try dsimp only at hSw); go_simp
    try simp only [Act.put, List.setIfInBounds_toArray, List.set_cons_zero, List.set_cons_succ]
    refine wpAnyH_takeL (i := 5) (d := some 26) (v := .agg (siA X)) rfl rfl (by kernel_rfl) (by kernel_rfl) (by kernel_rfl) (fun _ _ _ h => h) (Or.inl ⟨by rfl, ?_⟩) hHeld ?_
    · intro w hSw; (try dsimp only at hSw); go_simp
    try simp only [Act.put, List.setIfInBounds_toArray, List.set_cons_zero, List.set_cons_succ]
    refine wpAnyH_takeL (i := 6) (d := some 27) (v := .int .i64 (k : Int)) rfl rfl (by kernel_rfl) (by kernel_rfl) (by kernel_rfl) (fun _ _ _ h => h) (Or.inl ⟨by rfl, ?_⟩) hHeld ?_
    · intro w hSw; (try dsimp only at hSw); go_simp
    try simp only [Act.put, List.setIfInBounds_toArray, List.set_cons_zero, List.set_cons_succ]
    refine wpAnyH_ready (rs := [8]) (by kernel_rfl) (by simp) ?_
    refine AllReadyH.cons rfl (fun K hK => ?_) AllReadyH.nil
    refine rd_store rfl 45 _ _ rfl none rfl g14 (siA X) rfl rfl r24_x Try.zSc rfl (siA_one _) ?_
    refine ⟨fun V26 n26 k26 => ?_⟩
    have m26_s := k26.on r24_s ne14_s
    have m26_b := k26.on r24_b ne14_b
    have o26 := k26.bel _ _ l24 up14
    clear k26
    clear r24_x r24_s r24_b l24
    have y27 := Lib.hid (show (fun V : World => CB V g1 40 (siA s) ∧ CB V g4 42 (btA b)) V26 from ⟨m26_s, m26_b⟩)
    refine hK.out _ _ y27.out (fun hHeld => ?_)
    clear hK K y27
    try simp only [Act.put, List.setIfInBounds_toArray, List.set_cons_zero, List.set_cons_succ]
    refine wpAnyH_takeL (i := 9) (d := some 8) (v := .int .i64 (k : Int)) rfl rfl (by kernel_rfl) (by kernel_rfl) (by kernel_rfl) (fun _ _ _ h => h) (Or.inl ⟨by rfl, ?_⟩) hHeld ?_
    · intro w hSw; (try dsimp only at hSw); go_simp
    try simp only [Act.put, List.setIfInBounds_toArray, List.set_cons_zero, List.set_cons_succ]
    refine wpAnyH_done (by kernel_rfl) ?_ _
    go_wp2_with (first | (first | ((with_reducible refine st_load 40 _ g1 ?_ m26_s Try.underlying40 ?_ ?_ ?_); exact rfl; exact rfl; exact Try.zSr) | ((with_reducible refine st_loadG 40 _ g1 ?_ m26_s Try.underlying40 ?_ ?_ ?_ ?_); exact rfl; exact rfl; exact Try.zSr; exact rfl)) | (first | ((with_reducible refine st_load 42 _ g4 ?_ m26_b Try.underlying42 ?_ ?_ ?_); exact rfl; exact rfl; exact Try.zBr) | ((with_reducible refine st_loadG 42 _ g4 ?_ m26_b Try.underlying42 ?_ ?_ ?_ ?_); exact rfl; exact rfl; exact Try.zBr; exact rfl)))
    (with_reducible refine (C2 _).mono ?_)
    rintro e w28 ⟨rfl, b28⟩
    have r30_s := le_on m26_s b28
    have r30_b := le_on m26_b b28
    have r30_x := le_on n26 b28
    have l30 := le_tr o26 b28
    clear m26_s m26_b n26 o26
    clear b28
    go_wp2_with (first | ((with_reducible refine st_alloc 40 (siA zS) ?_ ?_); exact zero_sr))
    refine ⟨fun V31 g31 n31 f31 => ?_⟩
    have ne31_s := f31.ne r30_s
    have ne31_b := f31.ne r30_b
    have ne31_x := f31.ne r30_x
    have up31 : w.heap.size ≤ g31 := f31.up l30
    have bl31 := f31.bel
    clear f31
    have r33_s := le_on r30_s bl31
    have r33_b := le_on r30_b bl31
    have r33_x := le_on r30_x bl31
    have l33 := le_tr l30 bl31
    clear r30_s r30_b r30_x l30
    clear bl31
    go_wp2_with (first | ((with_reducible refine st_store 40 _ _ g31 (siA X) ?_ ?_ n31 ?_ ?_ ?_ ?_); exact rfl; exact rfl; exact Try.zSr; exact rfl; exact siA_one _))
    refine ⟨fun V34 n34 k34 => ?_⟩
    have m34_s := k34.on r33_s ne31_s
    have m34_b := k34.on r33_b ne31_b
    have m34_x := k34.on r33_x ne31_x
    have o34 := k34.bel _ _ l33 up31
    clear k34
    clear n31 r33_s r33_b r33_x l33
    go_wp2_with (first | (first | ((with_reducible refine st_load 40 _ g1 ?_ m34_s Try.underlying40 ?_ ?_ ?_); exact rfl; exact rfl; exact Try.zSr) | ((with_reducible refine st_loadG 40 _ g1 ?_ m34_s Try.underlying40 ?_ ?_ ?_ ?_); exact rfl; exact rfl; exact Try.zSr; exact rfl)))
    (with_reducible refine (side_c s _).mono ?_)
    rintro e w35 ⟨rfl, b35⟩
    have r37_s := le_on m34_s b35
    have r37_b := le_on m34_b b35
    have r37_x := le_on m34_x b35
    have r37_y := le_on n34 b35
    have l37 := le_tr o34 b35
    clear m34_s m34_b m34_x n34 o34
    clear b35
    go_wp2_with fail
    (with_reducible refine (C3 _).mono ?_)
    rintro e w38 ⟨A, n, q, rfl, h4, b38⟩
    have r40_s := le_on r37_s b38
    have r40_b := le_on r37_b b38
    have r40_x := le_on r37_x b38
    have r40_y := le_on r37_y b38
    have l40 := le_tr l37 b38
    clear r37_s r37_b r37_x r37_y l37
    clear b38
    have hx := RL.start h4.rr
    clear h4
    go_wp2_with (first | (first | ((with_reducible refine st_load 40 _ g1 ?_ r40_s Try.underlying40 ?_ ?_ ?_); exact rfl; exact rfl; exact Try.zSr) | ((with_reducible refine st_loadG 40 _ g1 ?_ r40_s Try.underlying40 ?_ ?_ ?_ ?_); exact rfl; exact rfl; exact Try.zSr; exact rfl)))
    (with_reducible refine (C4 _).mono ?_)
    rintro e w41 ⟨A2, n2, q2, rfl, h5, b41⟩
    have r43_s := le_on r40_s b41
    have r43_b := le_on r40_b b41
    have r43_x := le_on r40_x b41
    have r43_y := le_on r40_y b41
    have r43_l := (hx).on b41
    have l43 := le_tr l40 b41
    clear r40_s r40_b r40_x r40_y hx l40
    clear b41
    have hy := RL.start h5.rr
    clear h5
    go_wp2_with fail
    have y44 := Lib.hid (show (fun V : World => CB V g14 45 (siA X) ∧ CB V g31 40 (siA X) ∧ RL w38 V ncl 10 A n q L ∧ RL w41 V ncl 10 A2 n2 q2 L) w41.drew from ⟨CB.drew r43_x, CB.drew r43_y, (r43_l).drew, (hy).drew⟩)
    refine wp_region_held_drew (S := (fun V : World => CB V g14 45 (siA X) ∧ CB V g31 40 (siA X) ∧ RL w38 V ncl 10 A n q L ∧ RL w41 V ncl 10 A2 n2 q2 L)) (by kernel_rfl) y44.out (fun hHeld => ?_)
    obtain ⟨D44, hD44⟩ : ∃ V, w41.drew = V := ⟨_, rfl⟩
    have b44 : Below w41.heap.size w41 D44 := by rw [← hD44]; exact le_dr (Below.refl _ _)
    rw [hD44] at hHeld ⊢
    clear hD44
    have r46_s := le_on r43_s b44
    have r46_b := le_on r43_b b44
    have r46_x := le_on r43_x b44
    have r46_y := le_on r43_y b44
    have r46_l := (r43_l).on b44
    have r46_m := (hy).on b44
    have l46 := le_tr l43 b44
    clear r43_s r43_b r43_x r43_y r43_l hy l43
    clear b44
    refine wpAnyH_takeL (i := 0) (d := some 47) (v := .agg (siA X)) rfl rfl (by kernel_rfl) (by kernel_rfl) (by kernel_rfl) (fun _ _ _ h => h) (Or.inl ⟨by rfl, ?_⟩) hHeld ?_
    · intro w hSw; exact yl_whole 45 _ g14 rfl hSw.1 Try.underlying45 rfl Try.zSc
    try simp only [Act.put, List.setIfInBounds_toArray, List.set_cons_zero, List.set_cons_succ]
    refine wpAnyH_takeL (i := 2) (d := some 49) (v := .agg (siA X)) rfl rfl (by kernel_rfl) (by kernel_rfl) (by kernel_rfl) (fun _ _ _ h => h) (Or.inl ⟨by rfl, ?_⟩) hHeld ?_
    · intro w hSw; exact yl_whole 40 _ g31 rfl hSw.2.1 Try.underlying40 rfl Try.zSr
    try simp only [Act.put, List.setIfInBounds_toArray, List.set_cons_zero, List.set_cons_succ]
    refine wpAnyH_ready (rs := [1]) (by kernel_rfl) (by simp) ?_
    refine AllReadyH.cons rfl (fun K hK => ?_) AllReadyH.nil
    go_simp
    (with_reducible refine (ours_c X _).mono ?_)
    rintro e u47 ⟨rfl, b47⟩
    have r49_s := le_on r46_s b47
    have r49_b := le_on r46_b b47
    have r49_x := le_on r46_x b47
    have r49_y := le_on r46_y b47
    have r49_l := (r46_l).on b47
    have r49_m := (r46_m).on b47
    have l49 := le_tr l46 b47
    clear r46_s r46_b r46_x r46_y r46_l r46_m l46
    clear b47
    go_wp2_with fail
    have y50 := Lib.hid (show (fun V : World => CB V g14 45 (siA X) ∧ CB V g31 40 (siA X) ∧ RL w38 V ncl 10 A n q L ∧ RL w41 V ncl 10 A2 n2 q2 L) u47 from ⟨r49_x, r49_y, r49_l, r49_m⟩)
    refine hK.out _ _ y50.out (fun hHeld => ?_)
    clear hK K y50
    try simp only [Act.put, List.setIfInBounds_toArray, List.set_cons_zero, List.set_cons_succ]
    refine wpAnyH_takeL (i := 3) (d := some 50) (v := .bool true) rfl rfl (by kernel_rfl) (by kernel_rfl) (by kernel_rfl) (fun _ _ _ h => h) (Or.inl ⟨by rfl, ?_⟩) hHeld ?_
    · intro w hSw; have hE := E w; go_simp
    try simp only [Act.put, List.setIfInBounds_toArray, List.set_cons_zero, List.set_cons_succ]
    refine wpAnyH_takeL (i := 4) (d := some 51) (v := .bool true) rfl rfl (by kernel_rfl) (by kernel_rfl) (by kernel_rfl) (fun _ _ _ h => h) (Or.inl ⟨by rfl, ?_⟩) hHeld ?_
    · intro w hSw; (try dsimp only at hSw); go_simp
    try simp only [Act.put, List.setIfInBounds_toArray, List.set_cons_zero, List.set_cons_succ]
    refine wpAnyH_takeL (i := 5) (d := some 52) (v := .int .i64 (k : Int)) rfl rfl (by kernel_rfl) (by kernel_rfl) (by kernel_rfl) (fun _ _ _ h => h) (Or.inl ⟨by rfl, ?_⟩) hHeld ?_
    · intro w hSw; (try dsimp only at hSw); go_simp
    try simp only [Act.put, List.setIfInBounds_toArray, List.set_cons_zero, List.set_cons_succ]
    refine wpAnyH_takeL (i := 6) (d := some 53) (v := .int .i64 (k : Int)) rfl rfl (by kernel_rfl) (by kernel_rfl) (by kernel_rfl) (fun _ _ _ h => h) (Or.inl ⟨by rfl, ?_⟩) hHeld ?_
    · intro w hSw; (try dsimp only at hSw); go_simp
    try simp only [Act.put, List.setIfInBounds_toArray, List.set_cons_zero, List.set_cons_succ]
    refine wpAnyH_takeL (i := 7) (d := some 54) (v := .bool true) rfl rfl (by kernel_rfl) (by kernel_rfl) (by kernel_rfl) (fun _ _ _ h => h) (Or.inl ⟨by rfl, ?_⟩) hHeld ?_
    · intro w hSw; (try dsimp only at hSw); go_simp
    try simp only [Act.put, List.setIfInBounds_toArray, List.set_cons_zero, List.set_cons_succ]
    refine wpAnyH_takeL (i := 8) (d := some 55) (v := .bool true) rfl rfl (by kernel_rfl) (by kernel_rfl) (by kernel_rfl) (fun _ _ _ h => h) (Or.inl ⟨by rfl, ?_⟩) hHeld ?_
    · intro w hSw; (try dsimp only at hSw); go_simp
    try simp only [Act.put, List.setIfInBounds_toArray, List.set_cons_zero, List.set_cons_succ]
    refine wpAnyH_takeL (i := 9) (d := some 56) (v := .bool true) rfl rfl (by kernel_rfl) (by kernel_rfl) (by kernel_rfl) (fun _ _ _ h => h) (Or.inl ⟨by rfl, ?_⟩) hHeld ?_
    · intro w hSw; (try dsimp only at hSw); go_simp
    try simp only [Act.put, List.setIfInBounds_toArray, List.set_cons_zero, List.set_cons_succ]
    refine wpAnyH_takeL (i := 10) (d := some 57) (v := .slice A n q) rfl rfl (by kernel_rfl) (by kernel_rfl) (by kernel_rfl) (fun _ _ _ h => h) (Or.inl ⟨by rfl, ?_⟩) hHeld ?_
    · intro w hSw; (try dsimp only at hSw); go_simp
    try simp only [Act.put, List.setIfInBounds_toArray, List.set_cons_zero, List.set_cons_succ]
    refine wpAnyH_takeL (i := 11) (d := some 58) (v := .slice A2 n2 q2) rfl rfl (by kernel_rfl) (by kernel_rfl) (by kernel_rfl) (fun _ _ _ h => h) (Or.inl ⟨by rfl, ?_⟩) hHeld ?_
    · intro w hSw; (try dsimp only at hSw); go_simp
    try simp only [Act.put, List.setIfInBounds_toArray, List.set_cons_zero, List.set_cons_succ]
    refine wpAnyH_ready (rs := [12]) (by kernel_rfl) (by simp) ?_
    refine AllReadyH.cons rfl (fun K hK => ?_) AllReadyH.nil
    go_simp
    (with_reducible refine (notes_c A A2 n q n2 q2 L _ (r49_l).rr (r49_m).rr).mono ?_)
    rintro e u51 ⟨rfl, b51⟩
    have r53_s := le_on r49_s b51
    have r53_b := le_on r49_b b51
    have r53_x := le_on r49_x b51
    have r53_y := le_on r49_y b51
    have r53_l := (r49_l).on b51
    have r53_m := (r49_m).on b51
    have l53 := le_tr l49 b51
    clear r49_s r49_b r49_x r49_y r49_l r49_m l49
    clear b51
    go_wp2_with fail
    have y54 := Lib.hid (show (fun V : World => CB V g14 45 (siA X) ∧ CB V g31 40 (siA X) ∧ RL w38 V ncl 10 A n q L ∧ RL w41 V ncl 10 A2 n2 q2 L) u51 from ⟨r53_x, r53_y, r53_l, r53_m⟩)
    refine hK.out _ _ y54.out (fun hHeld => ?_)
    clear hK K y54
    try simp only [Act.put, List.setIfInBounds_toArray, List.set_cons_zero, List.set_cons_succ]
    refine wpAnyH_takeL (i := 13) (d := some 60) (v := .bool true) rfl rfl (by kernel_rfl) (by kernel_rfl) (by kernel_rfl) (fun _ _ _ h => h) (Or.inl ⟨by rfl, ?_⟩) hHeld ?_
    · intro w hSw; (try dsimp only at hSw); go_simp
    try simp only [Act.put, List.setIfInBounds_toArray, List.set_cons_zero, List.set_cons_succ]
    refine wpAnyH_takeL (i := 14) (d := some 61) (v := .bool true) rfl rfl (by kernel_rfl) (by kernel_rfl) (by kernel_rfl) (fun _ _ _ h => h) (Or.inl ⟨by rfl, ?_⟩) hHeld ?_
    · intro w hSw; (try dsimp only at hSw); go_simp
    try simp only [Act.put, List.setIfInBounds_toArray, List.set_cons_zero, List.set_cons_succ]
    refine wpAnyH_takeL (i := 15) (d := some 62) (v := .int .i64 (j : Int)) rfl rfl (by kernel_rfl) (by kernel_rfl) (by kernel_rfl) (fun _ _ _ h => h) (Or.inl ⟨by rfl, ?_⟩) hHeld ?_
    · intro w hSw; (try dsimp only at hSw); go_simp
    try simp only [Act.put, List.setIfInBounds_toArray, List.set_cons_zero, List.set_cons_succ]
    refine wpAnyH_takeL (i := 16) (d := some 63) (v := .int .i64 (j : Int)) rfl rfl (by kernel_rfl) (by kernel_rfl) (by kernel_rfl) (fun _ _ _ h => h) (Or.inl ⟨by rfl, ?_⟩) hHeld ?_
    · intro w hSw; (try dsimp only at hSw); go_simp
    try simp only [Act.put, List.setIfInBounds_toArray, List.set_cons_zero, List.set_cons_succ]
    refine wpAnyH_takeL (i := 17) (d := some 64) (v := .bool true) rfl rfl (by kernel_rfl) (by kernel_rfl) (by kernel_rfl) (fun _ _ _ h => h) (Or.inl ⟨by rfl, ?_⟩) hHeld ?_
    · intro w hSw; (try dsimp only at hSw); go_simp
    try simp only [Act.put, List.setIfInBounds_toArray, List.set_cons_zero, List.set_cons_succ]
    refine wpAnyH_takeL (i := 18) (d := some 65) (v := .bool true) rfl rfl (by kernel_rfl) (by kernel_rfl) (by kernel_rfl) (fun _ _ _ h => h) (Or.inl ⟨by rfl, ?_⟩) hHeld ?_
    · intro w hSw; (try dsimp only at hSw); go_simp
    try simp only [Act.put, List.setIfInBounds_toArray, List.set_cons_zero, List.set_cons_succ]
    refine wpAnyH_takeL (i := 19) (d := some 6) (v := .bool true) rfl rfl (by kernel_rfl) (by kernel_rfl) (by kernel_rfl) (fun _ _ _ h => h) (Or.inl ⟨by rfl, ?_⟩) hHeld ?_
    · intro w hSw; (try dsimp only at hSw); go_simp
    try simp only [Act.put, List.setIfInBounds_toArray, List.set_cons_zero, List.set_cons_succ]
    refine wpAnyH_done (by kernel_rfl) ?_ _
    go_wp2_with fail
    go_ret
    exact ⟨rfl, l53⟩
end Go.Proofs.Ytfdboahcaiolgaa
