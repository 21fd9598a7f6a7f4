/-
  The law TallyHears, walked. No condition.
-/
import Derived.Test.YtjooceaclfdjjaaTyL
set_option linter.unusedVariables false
set_option linter.unusedSimpArgs false
namespace Go.Proofs.Ytjooceaclfdjjaa
open Go.RowKit

set_option maxRecDepth 100000 in
set_option maxHeartbeats 4000000 in
theorem hears_walk (S : Ty) (who : Nat) (x : Int) (w : World) : Calls Try.prog 8 #[.agg (tA S), .int .u8 (who : Int), .int .i64 x] w fun r w' => r = .returned (.bool true) ∧ Below w.heap.size w w' := by
  have H1 := fun W => hear_c S who x W
  by_cases he : eHear S who x = 0
  · rw [he, sHear_z he] at H1
    have hlt : who < 8 := (eHear_iff.1 he).2.2.2.1
    have O1 := fun W => out_c (Ty.mk S.wh S.vt (updI S.ep who x)) W
    rw [out_hear he] at O1
    have O2 := fun W => out_c S W
    obtain ⟨o, hoo⟩ : ∃ o, outY S = o := ⟨_, rfl⟩
    rw [hoo] at O1 O2
    clear hoo he
    have j1 : (who : Int) < 8 := by omega
    have j2 : (0 : Int) ≤ (who : Int) := by omega
    have htm : (who : Int).tmod 8 = (who : Int) := by rw [Int.tmod_eq_emod_of_nonneg j2]; omega
    have hux : updI S.ep who x who = x := updI_at _ _ _
    have hI : ∀ V, (Op.equalIn 10000 23 (.agg (iA S.vt)) (.agg (iA S.vt))).run Try.prog V = .ok true V := fun V => by have := eq_i8 S.vt S.vt 9998 V; rw [eqI_refl] at this; exact this
    have hB : ∀ V, (Op.equalIn 10000 22 (.agg (bA S.wh)) (.agg (bA S.wh))).run Try.prog V = .ok true V := fun V => by have := eq_b8 S.wh S.wh 9998 V; rw [eqB_refl] at this; exact this
    go_enter Try.func8, Try.ntmps8
    go_wp2_with (first | ((with_reducible refine st_box 25 _ (tA S) ?_ ?_); exact rfl))
    refine ⟨fun V1 g1 n1 f1 => ?_⟩
    have up1 : w.heap.size ≤ g1 := Nat.le_of_eq f1.at_
    have bl1 := f1.bel
    clear f1
    have l2 := le_tr (Below.refl _ _) bl1
    clear bl1
    go_wp2_with fail
    refine (alive_c _).mono ?_
    rintro e w3 ⟨rfl, b3⟩
    have r4_p := le_on n1 b3
    have l4 := le_tr l2 b3
    clear n1 l2
    clear b3
    go_wp2_with (first | (first | ((with_reducible refine st_load 25 _ g1 ?_ r4_p Try.underlying25 ?_ ?_ ?_); exact rfl; exact rfl; exact Try.zTr) | ((with_reducible refine st_loadG 25 _ g1 ?_ r4_p Try.underlying25 ?_ ?_ ?_ ?_); exact rfl; exact rfl; exact Try.zTr; exact rfl)))
    refine (H1 _).mono ?_
    rintro e w5 ⟨rfl, b5⟩
    have r6_p := le_on r4_p b5
    have l6 := le_tr l4 b5
    clear r4_p l4
    clear b5
    go_wp2_with (first | ((with_reducible refine st_alloc 30 (tA zeroY) ?_ ?_); exact zero_c))
    refine ⟨fun V7 g7 n7 f7 => ?_⟩
    have ne7_p := f7.ne r6_p
    have up7 : w.heap.size ≤ g7 := f7.up l6
    have bl7 := f7.bel
    clear f7
    have r8_p := le_on r6_p bl7
    have l8 := le_tr l6 bl7
    clear r6_p l6
    clear bl7
    go_wp2_with (first | ((with_reducible refine st_store 30 _ _ g7 (tA (Ty.mk S.wh S.vt (updI S.ep who x))) ?_ ?_ n7 ?_ ?_ ?_ ?_); exact rfl; exact rfl; exact Try.zTc; exact rfl; exact tA_one _))
    refine ⟨fun V9 n9 k9 => ?_⟩
    have m9_p := k9.on r8_p ne7_p
    have o9 := k9.bel _ _ l8 up7
    clear k9
    clear n7 r8_p l8
    go_wp2_with fail
    have y10 := Lib.hid (show (fun V : World => CB V g7 30 (tA (Ty.mk S.wh S.vt (updI S.ep who x))) ∧ CB V g1 25 (tA S)) V9 from ⟨n9, m9_p⟩)
    refine wp_region_held_drew (S := (fun V : World => CB V g7 30 (tA (Ty.mk S.wh S.vt (updI S.ep who x))) ∧ CB V g1 25 (tA S))) (by kernel_rfl) y10.out (fun hHeld => ?_)
    obtain ⟨D10, hD10⟩ : ∃ V, V9.drew = V := ⟨_, rfl⟩
    have b10 : Below V9.heap.size V9 D10 := by rw [← hD10]; exact le_dr (Below.refl _ _)
    rw [hD10] at hHeld ⊢
    clear hD10
    have r11_p := le_on m9_p b10
    have r11_y := le_on n9 b10
    have l11 := le_tr o9 b10
    clear m9_p n9 o9
    clear b10
    refine wpAnyH_takeL (i := 0) (d := some 23) (v := .pointer (some ⟨g7, 8, none⟩)) rfl rfl (by kernel_rfl) (by kernel_rfl) (by kernel_rfl) (fun _ _ _ h => h) (Or.inl ⟨by rfl, ?_⟩) hHeld ?_
    · intro w hSw; (try dsimp only at hSw); go_simp
    try simp only [Act.put, List.setIfInBounds_toArray, List.set_cons_zero, List.set_cons_succ]
    refine wpAnyH_takeL (i := 1) (d := some 24) (v := .agg (iA (Ty.mk S.wh S.vt (updI S.ep who x)).vt)) rfl rfl (by kernel_rfl) (by kernel_rfl) (by kernel_rfl) (fun _ _ _ h => h) (Or.inl ⟨by rfl, ?_⟩) hHeld ?_
    · intro w hSw; exact yl_part 23 _ g7 8 rfl (pt := iA (Ty.mk S.wh S.vt (updI S.ep who x)).vt) hSw.1 rfl Try.underlying23 rfl Try.zI8
    try simp only [Act.put, List.setIfInBounds_toArray, List.set_cons_zero, List.set_cons_succ]
    refine wpAnyH_takeL (i := 2) (d := some 25) (v := .pointer (some ⟨g1, 8, none⟩)) rfl rfl (by kernel_rfl) (by kernel_rfl) (by kernel_rfl) (fun _ _ _ h => h) (Or.inl ⟨by rfl, ?_⟩) hHeld ?_
    · intro w hSw; (try dsimp only at hSw); go_simp
    try simp only [Act.put, List.setIfInBounds_toArray, List.set_cons_zero, List.set_cons_succ]
    refine wpAnyH_takeL (i := 3) (d := some 26) (v := .agg (iA S.vt)) rfl rfl (by kernel_rfl) (by kernel_rfl) (by kernel_rfl) (fun _ _ _ h => h) (Or.inl ⟨by rfl, ?_⟩) hHeld ?_
    · intro w hSw; exact yl_part 23 _ g1 8 rfl (pt := iA S.vt) hSw.2 rfl Try.underlying23 rfl Try.zI8
    try simp only [Act.put, List.setIfInBounds_toArray, List.set_cons_zero, List.set_cons_succ]
    refine wpAnyH_takeL (i := 4) (d := some 27) (v := .bool true) rfl rfl (by kernel_rfl) (by kernel_rfl) (by kernel_rfl) (fun _ _ _ h => h) (Or.inl ⟨by rfl, ?_⟩) hHeld ?_
    · intro w hSw; (try dsimp only at hSw); go_simp
    try simp only [Act.put, List.setIfInBounds_toArray, List.set_cons_zero, List.set_cons_succ]
    refine wpAnyH_takeL (i := 5) (d := some 28) (v := .bool true) rfl rfl (by kernel_rfl) (by kernel_rfl) (by kernel_rfl) (fun _ _ _ h => h) (Or.inl ⟨by rfl, ?_⟩) hHeld ?_
    · intro w hSw; (try dsimp only at hSw); go_simp
    try simp only [Act.put, List.setIfInBounds_toArray, List.set_cons_zero, List.set_cons_succ]
    refine wpAnyH_takeL (i := 6) (d := some 29) (v := .pointer (some ⟨g7, 0, none⟩)) rfl rfl (by kernel_rfl) (by kernel_rfl) (by kernel_rfl) (fun _ _ _ h => h) (Or.inl ⟨by rfl, ?_⟩) hHeld ?_
    · intro w hSw; (try dsimp only at hSw); go_simp
    try simp only [Act.put, List.setIfInBounds_toArray, List.set_cons_zero, List.set_cons_succ]
    refine wpAnyH_takeL (i := 7) (d := some 30) (v := .agg (bA (Ty.mk S.wh S.vt (updI S.ep who x)).wh)) rfl rfl (by kernel_rfl) (by kernel_rfl) (by kernel_rfl) (fun _ _ _ h => h) (Or.inl ⟨by rfl, ?_⟩) hHeld ?_
    · intro w hSw; exact yl_part 22 _ g7 0 rfl (pt := bA (Ty.mk S.wh S.vt (updI S.ep who x)).wh) hSw.1 rfl Try.underlying22 rfl Try.zB8
    try simp only [Act.put, List.setIfInBounds_toArray, List.set_cons_zero, List.set_cons_succ]
    refine wpAnyH_takeL (i := 8) (d := some 31) (v := .pointer (some ⟨g1, 0, none⟩)) rfl rfl (by kernel_rfl) (by kernel_rfl) (by kernel_rfl) (fun _ _ _ h => h) (Or.inl ⟨by rfl, ?_⟩) hHeld ?_
    · intro w hSw; (try dsimp only at hSw); go_simp
    try simp only [Act.put, List.setIfInBounds_toArray, List.set_cons_zero, List.set_cons_succ]
    refine wpAnyH_takeL (i := 9) (d := some 32) (v := .agg (bA S.wh)) rfl rfl (by kernel_rfl) (by kernel_rfl) (by kernel_rfl) (fun _ _ _ h => h) (Or.inl ⟨by rfl, ?_⟩) hHeld ?_
    · intro w hSw; exact yl_part 22 _ g1 0 rfl (pt := bA S.wh) hSw.2 rfl Try.underlying22 rfl Try.zB8
    try simp only [Act.put, List.setIfInBounds_toArray, List.set_cons_zero, List.set_cons_succ]
    refine wpAnyH_takeL (i := 10) (d := some 33) (v := .bool true) rfl rfl (by kernel_rfl) (by kernel_rfl) (by kernel_rfl) (fun _ _ _ h => h) (Or.inl ⟨by rfl, ?_⟩) hHeld ?_
    · intro w hSw; (try dsimp only at hSw); go_simp
    try simp only [Act.put, List.setIfInBounds_toArray, List.set_cons_zero, List.set_cons_succ]
    refine wpAnyH_takeL (i := 11) (d := some 34) (v := .bool true) rfl rfl (by kernel_rfl) (by kernel_rfl) (by kernel_rfl) (fun _ _ _ h => h) (Or.inl ⟨by rfl, ?_⟩) hHeld ?_
    · intro w hSw; (try dsimp only at hSw); go_simp
    try simp only [Act.put, List.setIfInBounds_toArray, List.set_cons_zero, List.set_cons_succ]
    refine wpAnyH_takeL (i := 12) (d := some 35) (v := .bool true) rfl rfl (by kernel_rfl) (by kernel_rfl) (by kernel_rfl) (fun _ _ _ h => h) (Or.inl ⟨by rfl, ?_⟩) hHeld ?_
    · intro w hSw; (try dsimp only at hSw); go_simp
    try simp only [Act.put, List.setIfInBounds_toArray, List.set_cons_zero, List.set_cons_succ]
    refine wpAnyH_takeL (i := 13) (d := some 36) (v := .agg (tA (Ty.mk S.wh S.vt (updI S.ep who x)))) rfl rfl (by kernel_rfl) (by kernel_rfl) (by kernel_rfl) (fun _ _ _ h => h) (Or.inl ⟨by rfl, ?_⟩) hHeld ?_
    · intro w hSw; exact yl_whole 30 _ g7 rfl hSw.1 Try.underlying30 rfl Try.zTc
    try simp only [Act.put, List.setIfInBounds_toArray, List.set_cons_zero, List.set_cons_succ]
    refine wpAnyH_takeL (i := 15) (d := some 38) (v := .agg (tA S)) rfl rfl (by kernel_rfl) (by kernel_rfl) (by kernel_rfl) (fun _ _ _ h => h) (Or.inl ⟨by rfl, ?_⟩) hHeld ?_
    · intro w hSw; exact yl_whole 25 _ g1 rfl hSw.2 Try.underlying25 rfl Try.zTr
    try simp only [Act.put, List.setIfInBounds_toArray, List.set_cons_zero, List.set_cons_succ]
    refine wpAnyH_ready (rs := [14]) (by kernel_rfl) (by simp) ?_
    refine AllReadyH.cons rfl (fun K hK => ?_) AllReadyH.nil
    go_simp
    refine (O1 _).mono ?_
    rintro e u12 ⟨rfl, b12⟩
    have r13_p := le_on r11_p b12
    have r13_y := le_on r11_y b12
    have l13 := le_tr l11 b12
    clear r11_p r11_y l11
    clear b12
    go_wp2_with fail
    have y14 := Lib.hid (show (fun V : World => CB V g7 30 (tA (Ty.mk S.wh S.vt (updI S.ep who x))) ∧ CB V g1 25 (tA S)) u12 from ⟨r13_y, r13_p⟩)
    refine hK.out _ _ y14.out (fun hHeld => ?_)
    clear hK K y14
    try simp only [Act.put, List.setIfInBounds_toArray, List.set_cons_zero, List.set_cons_succ]
    refine wpAnyH_ready (rs := [16]) (by kernel_rfl) (by simp) ?_
    refine AllReadyH.cons rfl (fun K hK => ?_) AllReadyH.nil
    go_simp
    refine (O2 _).mono ?_
    rintro e u15 ⟨rfl, b15⟩
    have r16_p := le_on r13_p b15
    have r16_y := le_on r13_y b15
    have l16 := le_tr l13 b15
    clear r13_p r13_y l13
    clear b15
    go_wp2_with fail
    have y17 := Lib.hid (show (fun V : World => CB V g7 30 (tA (Ty.mk S.wh S.vt (updI S.ep who x))) ∧ CB V g1 25 (tA S)) u15 from ⟨r16_y, r16_p⟩)
    refine hK.out _ _ y17.out (fun hHeld => ?_)
    clear hK K y17
    try simp only [Act.put, List.setIfInBounds_toArray, List.set_cons_zero, List.set_cons_succ]
    refine wpAnyH_takeL (i := 17) (d := some 40) (v := .bool true) rfl rfl (by kernel_rfl) (by kernel_rfl) (by kernel_rfl) (fun _ _ _ h => h) (Or.inl ⟨by rfl, ?_⟩) hHeld ?_
    · intro w hSw; (try dsimp only at hSw); go_simp
    try simp only [Act.put, List.setIfInBounds_toArray, List.set_cons_zero, List.set_cons_succ]
    refine wpAnyH_takeL (i := 18) (d := some 41) (v := .bool true) rfl rfl (by kernel_rfl) (by kernel_rfl) (by kernel_rfl) (fun _ _ _ h => h) (Or.inl ⟨by rfl, ?_⟩) hHeld ?_
    · intro w hSw; (try dsimp only at hSw); go_simp
    try simp only [Act.put, List.setIfInBounds_toArray, List.set_cons_zero, List.set_cons_succ]
    refine wpAnyH_takeL (i := 19) (d := some 42) (v := .bool true) rfl rfl (by kernel_rfl) (by kernel_rfl) (by kernel_rfl) (fun _ _ _ h => h) (Or.inl ⟨by rfl, ?_⟩) hHeld ?_
    · intro w hSw; (try dsimp only at hSw); go_simp
    try simp only [Act.put, List.setIfInBounds_toArray, List.set_cons_zero, List.set_cons_succ]
    refine wpAnyH_takeL (i := 20) (d := some 43) (v := .int .u8 (who : Int)) rfl rfl (by kernel_rfl) (by kernel_rfl) (by kernel_rfl) (fun _ _ _ h => h) (Or.inl ⟨by rfl, ?_⟩) hHeld ?_
    · intro w hSw; (try dsimp only at hSw); go_simp
    try simp only [Act.put, List.setIfInBounds_toArray, List.set_cons_zero, List.set_cons_succ]
    refine wpAnyH_takeL (i := 21) (d := some 44) (v := .int .u8 (who : Int)) rfl rfl (by kernel_rfl) (by kernel_rfl) (by kernel_rfl) (fun _ _ _ h => h) (Or.inl ⟨by rfl, ?_⟩) hHeld ?_
    · intro w hSw; (try dsimp only at hSw); go_simp
    try simp only [Act.put, List.setIfInBounds_toArray, List.set_cons_zero, List.set_cons_succ]
    refine wpAnyH_takeL (i := 22) (d := some 45) (v := .pointer (some ⟨g7, 16, none⟩)) rfl rfl (by kernel_rfl) (by kernel_rfl) (by kernel_rfl) (fun _ _ _ h => h) (Or.inl ⟨by rfl, ?_⟩) hHeld ?_
    · intro w hSw; (try dsimp only at hSw); go_simp
    try simp only [Act.put, List.setIfInBounds_toArray, List.set_cons_zero, List.set_cons_succ]
    refine wpAnyH_takeL (i := 23) (d := some 46) (v := .pointer (some ⟨g7, 16 + who, none⟩)) rfl rfl (by kernel_rfl) (by kernel_rfl) (by kernel_rfl) (fun _ _ _ h => h) (Or.inl ⟨by rfl, ?_⟩) hHeld ?_
    · intro w hSw; (try dsimp only at hSw); go_simp
    try simp only [Act.put, List.setIfInBounds_toArray, List.set_cons_zero, List.set_cons_succ]
    refine wpAnyH_takeL (i := 24) (d := some 47) (v := .int .i64 x) rfl rfl (by kernel_rfl) (by kernel_rfl) (by kernel_rfl) (fun _ _ _ h => h) (Or.inl ⟨by rfl, ?_⟩) hHeld ?_
    · intro w hSw; (try dsimp only at hSw); have hcc := (CB.cell hSw.1 (16 + who)).trans (tA_ep (Ty.mk S.wh S.vt (updI S.ep who x)) hlt); go_simp
    try simp only [Act.put, List.setIfInBounds_toArray, List.set_cons_zero, List.set_cons_succ]
    refine wpAnyH_takeL (i := 25) (d := some 48) (v := .int .i64 x) rfl rfl (by kernel_rfl) (by kernel_rfl) (by kernel_rfl) (fun _ _ _ h => h) (Or.inl ⟨by rfl, ?_⟩) hHeld ?_
    · intro w hSw; (try dsimp only at hSw); go_simp
    try simp only [Act.put, List.setIfInBounds_toArray, List.set_cons_zero, List.set_cons_succ]
    refine wpAnyH_takeL (i := 26) (d := some 49) (v := .bool true) rfl rfl (by kernel_rfl) (by kernel_rfl) (by kernel_rfl) (fun _ _ _ h => h) (Or.inl ⟨by rfl, ?_⟩) hHeld ?_
    · intro w hSw; (try dsimp only at hSw); go_simp
    try simp only [Act.put, List.setIfInBounds_toArray, List.set_cons_zero, List.set_cons_succ]
    refine wpAnyH_takeL (i := 27) (d := some 50) (v := .bool true) rfl rfl (by kernel_rfl) (by kernel_rfl) (by kernel_rfl) (fun _ _ _ h => h) (Or.inl ⟨by rfl, ?_⟩) hHeld ?_
    · intro w hSw; (try dsimp only at hSw); go_simp
    try simp only [Act.put, List.setIfInBounds_toArray, List.set_cons_zero, List.set_cons_succ]
    refine wpAnyH_takeL (i := 28) (d := some 6) (v := .bool true) rfl rfl (by kernel_rfl) (by kernel_rfl) (by kernel_rfl) (fun _ _ _ h => h) (Or.inl ⟨by rfl, ?_⟩) hHeld ?_
    · intro w hSw; (try dsimp only at hSw); go_simp
    try simp only [Act.put, List.setIfInBounds_toArray, List.set_cons_zero, List.set_cons_succ]
    refine wpAnyH_done (by kernel_rfl) ?_ _
    go_wp2_with fail
    go_ret
    exact ⟨rfl, l16⟩
  rw [sHear_n he] at H1
  obtain ⟨m, hm⟩ : ∃ m : Nat, eHear S who x = m := ⟨_, rfl⟩
  rw [hm] at H1 he
  have q5 : ((m : Int) != 0) = true := by simp [he]
  have q6 : (m != 0) = true := by simp [he]
  clear hm he
  have hE : ∀ V, (Op.equalIn 10000 25 (.agg (tA S)) (.agg (tA S))).run Try.prog V = .ok true V := fun V => by have := eq_tr S S V; rw [eqY_refl] at this; exact this
  go_enter Try.func8, Try.ntmps8
  go_wp2_with (first | ((with_reducible refine st_box 25 _ (tA S) ?_ ?_); exact rfl))
  refine ⟨fun V1 g1 n1 f1 => ?_⟩
  have up1 : w.heap.size ≤ g1 := Nat.le_of_eq f1.at_
  have bl1 := f1.bel
  clear f1
  have l2 := le_tr (Below.refl _ _) bl1
  clear bl1
  go_wp2_with fail
  refine (alive_c _).mono ?_
  rintro e w3 ⟨rfl, b3⟩
  have r4_p := le_on n1 b3
  have l4 := le_tr l2 b3
  clear n1 l2
  clear b3
  go_wp2_with (first | (first | ((with_reducible refine st_load 25 _ g1 ?_ r4_p Try.underlying25 ?_ ?_ ?_); exact rfl; exact rfl; exact Try.zTr) | ((with_reducible refine st_loadG 25 _ g1 ?_ r4_p Try.underlying25 ?_ ?_ ?_ ?_); exact rfl; exact rfl; exact Try.zTr; exact rfl)))
  refine (H1 _).mono ?_
  rintro e w5 ⟨rfl, b5⟩
  have r6_p := le_on r4_p b5
  have l6 := le_tr l4 b5
  clear r4_p l4
  clear b5
  go_wp2_with (first | ((with_reducible refine st_alloc 30 (tA zeroY) ?_ ?_); exact zero_c))
  refine ⟨fun V7 g7 n7 f7 => ?_⟩
  have ne7_p := f7.ne r6_p
  have up7 : w.heap.size ≤ g7 := f7.up l6
  have bl7 := f7.bel
  clear f7
  have r8_p := le_on r6_p bl7
  have l8 := le_tr l6 bl7
  clear r6_p l6
  clear bl7
  go_wp2_with (first | ((with_reducible refine st_store 30 _ _ g7 (tA S) ?_ ?_ n7 ?_ ?_ ?_ ?_); exact rfl; exact rfl; exact Try.zTc; exact rfl; exact tA_one _))
  refine ⟨fun V9 n9 k9 => ?_⟩
  have m9_p := k9.on r8_p ne7_p
  have o9 := k9.bel _ _ l8 up7
  clear k9
  clear n7 r8_p l8
  go_wp2_with (first | (first | ((with_reducible refine st_load 30 _ g7 ?_ n9 Try.underlying30 ?_ ?_ ?_); exact rfl; exact rfl; exact Try.zTc) | ((with_reducible refine st_loadG 30 _ g7 ?_ n9 Try.underlying30 ?_ ?_ ?_ ?_); exact rfl; exact rfl; exact Try.zTc; exact rfl)) | (first | ((with_reducible refine st_load 25 _ g1 ?_ m9_p Try.underlying25 ?_ ?_ ?_); exact rfl; exact rfl; exact Try.zTr) | ((with_reducible refine st_loadG 25 _ g1 ?_ m9_p Try.underlying25 ?_ ?_ ?_ ?_); exact rfl; exact rfl; exact Try.zTr; exact rfl)))
  go_ret
  exact ⟨rfl, o9⟩
end Go.Proofs.Ytjooceaclfdjjaa
