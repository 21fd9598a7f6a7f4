/-
  Put of package tally. No condition.
-/
import Derived.Test.YtjfmahceolhfnaaTyF
set_option linter.unusedVariables false
set_option linter.unusedSimpArgs false
namespace Go.Proofs.Ytjfmahceolhfnaa
open Go.RowKit

set_option maxRecDepth 100000 in
set_option maxHeartbeats 4000000 in
theorem put_c (S : Ty) (who : Nat) (x v : Int) (w : World) : Calls Try.prog 56 #[.agg (tA S), .int .u8 (who : Int), .int .i64 x, .int .i64 v] w fun r w' => r = .returned (.tuple #[.agg (tA (sPut S who x v)), .int .i64 ((ePut S who x v : Nat) : Int)]) ∧ Below w.heap.size w w' := by
  by_cases hv : v ≠ 1 ∧ v ≠ 2
  · have HE := Lib.hid (ePut_2 (S := S) (who := who) (x := x) hv)
    have HS := Lib.hid (sPut_n (S := S) (who := who) (x := x) (v := v) (by rw [HE.out]; decide))
    have q1 : (v != 1) = true := by simp [hv.1]
    have q2 : (v != 2) = true := by simp [hv.2]
    clear hv
    go_enter Try.func56, Try.ntmps56
    go_wp2_with (first | ((with_reducible refine st_box 40 _ (tA S) ?_ ?_); exact rfl))
    refine ⟨fun V1 g1 n1 f1 => ?_⟩
    have up1 : w.heap.size ≤ g1 := Nat.le_of_eq f1.at_
    have bl1 := f1.bel
    clear f1
    have l2 := le_tr (Below.refl _ _) bl1
    clear bl1
    go_wp2_with (first | ((with_reducible refine st_alloc 40 (tA zeroY) ?_ ?_); exact zero_c))
    refine ⟨fun V3 g3 n3 f3 => ?_⟩
    have ne3_t := f3.ne n1
    have up3 : w.heap.size ≤ g3 := f3.up l2
    have bl3 := f3.bel
    clear f3
    have r4_t := le_on n1 bl3
    have l4 := le_tr l2 bl3
    clear n1 l2
    clear bl3
    go_wp2_with (first | ((with_reducible refine st_load 40 _ g1 ?_ r4_t Try.underlying40 ?_ ?_ ?_); exact rfl; exact rfl; exact Try.zTc) | ((with_reducible refine st_store 40 _ _ g3 (tA S) ?_ ?_ n3 ?_ ?_ ?_ ?_); exact rfl; exact rfl; exact Try.zTc; exact rfl; exact tA_one _))
    refine ⟨fun V5 n5 k5 => ?_⟩
    have m5_t := k5.on r4_t ne3_t
    have o5 := k5.bel _ _ l4 up3
    clear k5
    clear n3 r4_t l4
    go_wp2_with fail
    exact bodyPost_ret (v := .tuple #[.agg (tA S), .int .i64 2]) (res_two Try.results56 rfl rfl n5 Try.underlying40 rfl Try.zTc) rfl ⟨(by rw [HE.out, HS.out] <;> rfl), o5⟩
  have H1 := fun W => hear_c S who x W
  by_cases he : eHear S who x = 0
  · rw [he, sHear_z he] at H1
    have hlt : who < 8 := (eHear_iff.1 he).2.2.2.1
    have j1 : (who : Int) < 8 := by omega
    have j2 : (0 : Int) ≤ (who : Int) := by omega
    obtain ⟨y, hy⟩ : ∃ y, S.vt who = y := ⟨_, rfl⟩
    by_cases h3 : y ≠ 0 ∧ y ≠ v
    · have HE := Lib.hid (ePut_8 (S := S) (who := who) (x := x) hv he (by rw [hy]; exact h3))
      have HS := Lib.hid (sPut_n (S := S) (who := who) (x := x) (v := v) (by rw [HE.out]; decide))
      have q3 : (y != 0) = true := by simp [h3.1]
      have q4 : (y != v) = true := by simp [h3.2]
      clear h3 he
      obtain hv1 | hv2 : v = 1 ∨ v = 2 := by omega
      · subst hv1
        clear hv
        go_enter Try.func56, Try.ntmps56
        go_wp2_with (first | ((with_reducible refine st_box 40 _ (tA S) ?_ ?_); exact rfl))
        refine ⟨fun V1 g1 n1 f1 => ?_⟩
        have up1 : w.heap.size ≤ g1 := Nat.le_of_eq f1.at_
        have bl1 := f1.bel
        clear f1
        have l2 := le_tr (Below.refl _ _) bl1
        clear bl1
        go_wp2_with (first | ((with_reducible refine st_alloc 40 (tA zeroY) ?_ ?_); exact zero_c))
        refine ⟨fun V3 g3 n3 f3 => ?_⟩
        have ne3_t := f3.ne n1
        have up3 : w.heap.size ≤ g3 := f3.up l2
        have bl3 := f3.bel
        clear f3
        have r4_t := le_on n1 bl3
        have l4 := le_tr l2 bl3
        clear n1 l2
        clear bl3
        go_wp2_with (first | ((with_reducible refine st_load 40 _ g1 ?_ r4_t Try.underlying40 ?_ ?_ ?_); exact rfl; exact rfl; exact Try.zTc))
        refine (H1 _).mono ?_
        rintro e w5 ⟨rfl, b5⟩
        have r6_t := le_on r4_t b5
        have r6_r := le_on n3 b5
        have l6 := le_tr l4 b5
        clear r4_t n3 l4
        clear b5
        go_wp2_with (first | ((with_reducible refine st_alloc 40 (tA zeroY) ?_ ?_); exact zero_c))
        refine ⟨fun V7 g7 n7 f7 => ?_⟩
        have ne7_t := f7.ne r6_t
        have ne7_r := f7.ne r6_r
        have up7 : w.heap.size ≤ g7 := f7.up l6
        have bl7 := f7.bel
        clear f7
        have r8_t := le_on r6_t bl7
        have r8_r := le_on r6_r bl7
        have l8 := le_tr l6 bl7
        clear r6_t r6_r l6
        clear bl7
        go_wp2_with (first | ((with_reducible refine st_store 40 _ _ g7 (tA (Ty.mk S.wh S.vt (updI S.ep who x))) ?_ ?_ n7 ?_ ?_ ?_ ?_); exact rfl; exact rfl; exact Try.zTc; exact rfl; exact tA_one _))
        refine ⟨fun V9 n9 k9 => ?_⟩
        have m9_t := k9.on r8_t ne7_t
        have m9_r := k9.on r8_r ne7_r
        have o9 := k9.bel _ _ l8 up7
        clear k9
        clear n7 r8_t r8_r l8
        have cv : V9.cell? ⟨g1, 8 + who, none⟩ = some (.int .i64 (S.vt who)) := (CB.cell m9_t (8 + who)).trans (tA_vt S hlt)
        rw [hy] at cv
        go_wp2_with (first | ((with_reducible refine st_load 40 _ g1 ?_ m9_t Try.underlying40 ?_ ?_ ?_); exact rfl; exact rfl; exact Try.zTc) | ((with_reducible refine st_store 40 _ _ g3 (tA S) ?_ ?_ m9_r ?_ ?_ ?_ ?_); exact rfl; exact rfl; exact Try.zTc; exact rfl; exact tA_one _))
        refine ⟨fun V11 n11 k11 => ?_⟩
        have m11_t := k11.on m9_t ne3_t
        have m11_h := k11.on n9 (Ne.symm ne7_r)
        have o11 := k11.bel _ _ o9 up3
        clear k11
        clear m9_r m9_t n9 o9
        go_wp2_with fail
        exact bodyPost_ret (v := .tuple #[.agg (tA S), .int .i64 8]) (res_two Try.results56 rfl rfl n11 Try.underlying40 rfl Try.zTc) rfl ⟨(by rw [HE.out, HS.out] <;> rfl), o11⟩
      · subst hv2
        clear hv
        go_enter Try.func56, Try.ntmps56
        go_wp2_with (first | ((with_reducible refine st_box 40 _ (tA S) ?_ ?_); exact rfl))
        refine ⟨fun V1 g1 n1 f1 => ?_⟩
        have up1 : w.heap.size ≤ g1 := Nat.le_of_eq f1.at_
        have bl1 := f1.bel
        clear f1
        have l2 := le_tr (Below.refl _ _) bl1
        clear bl1
        go_wp2_with (first | ((with_reducible refine st_alloc 40 (tA zeroY) ?_ ?_); exact zero_c))
        refine ⟨fun V3 g3 n3 f3 => ?_⟩
        have ne3_t := f3.ne n1
        have up3 : w.heap.size ≤ g3 := f3.up l2
        have bl3 := f3.bel
        clear f3
        have r4_t := le_on n1 bl3
        have l4 := le_tr l2 bl3
        clear n1 l2
        clear bl3
        go_wp2_with (first | ((with_reducible refine st_load 40 _ g1 ?_ r4_t Try.underlying40 ?_ ?_ ?_); exact rfl; exact rfl; exact Try.zTc))
        refine (H1 _).mono ?_
        rintro e w5 ⟨rfl, b5⟩
        have r6_t := le_on r4_t b5
        have r6_r := le_on n3 b5
        have l6 := le_tr l4 b5
        clear r4_t n3 l4
        clear b5
        go_wp2_with (first | ((with_reducible refine st_alloc 40 (tA zeroY) ?_ ?_); exact zero_c))
        refine ⟨fun V7 g7 n7 f7 => ?_⟩
        have ne7_t := f7.ne r6_t
        have ne7_r := f7.ne r6_r
        have up7 : w.heap.size ≤ g7 := f7.up l6
        have bl7 := f7.bel
        clear f7
        have r8_t := le_on r6_t bl7
        have r8_r := le_on r6_r bl7
        have l8 := le_tr l6 bl7
        clear r6_t r6_r l6
        clear bl7
        go_wp2_with (first | ((with_reducible refine st_store 40 _ _ g7 (tA (Ty.mk S.wh S.vt (updI S.ep who x))) ?_ ?_ n7 ?_ ?_ ?_ ?_); exact rfl; exact rfl; exact Try.zTc; exact rfl; exact tA_one _))
        refine ⟨fun V9 n9 k9 => ?_⟩
        have m9_t := k9.on r8_t ne7_t
        have m9_r := k9.on r8_r ne7_r
        have o9 := k9.bel _ _ l8 up7
        clear k9
        clear n7 r8_t r8_r l8
        have cv : V9.cell? ⟨g1, 8 + who, none⟩ = some (.int .i64 (S.vt who)) := (CB.cell m9_t (8 + who)).trans (tA_vt S hlt)
        rw [hy] at cv
        go_wp2_with (first | ((with_reducible refine st_load 40 _ g1 ?_ m9_t Try.underlying40 ?_ ?_ ?_); exact rfl; exact rfl; exact Try.zTc) | ((with_reducible refine st_store 40 _ _ g3 (tA S) ?_ ?_ m9_r ?_ ?_ ?_ ?_); exact rfl; exact rfl; exact Try.zTc; exact rfl; exact tA_one _))
        refine ⟨fun V11 n11 k11 => ?_⟩
        have m11_t := k11.on m9_t ne3_t
        have m11_h := k11.on n9 (Ne.symm ne7_r)
        have o11 := k11.bel _ _ o9 up3
        clear k11
        clear m9_r m9_t n9 o9
        go_wp2_with fail
        exact bodyPost_ret (v := .tuple #[.agg (tA S), .int .i64 8]) (res_two Try.results56 rfl rfl n11 Try.underlying40 rfl Try.zTc) rfl ⟨(by rw [HE.out, HS.out] <;> rfl), o11⟩
    have HE := Lib.hid (ePut_0 (S := S) (who := who) (x := x) hv he (by rw [hy]; exact h3))
    have HS := Lib.hid (sPut_z HE.out)
    clear he
    obtain h0 | h0 : y = 0 ∨ y = v := by omega
    · subst h0
      clear h3
      obtain hv1 | hv2 : v = 1 ∨ v = 2 := by omega
      · subst hv1
        clear hv
        go_enter Try.func56, Try.ntmps56
        go_wp2_with (first | ((with_reducible refine st_box 40 _ (tA S) ?_ ?_); exact rfl))
        refine ⟨fun V1 g1 n1 f1 => ?_⟩
        have up1 : w.heap.size ≤ g1 := Nat.le_of_eq f1.at_
        have bl1 := f1.bel
        clear f1
        have l2 := le_tr (Below.refl _ _) bl1
        clear bl1
        go_wp2_with (first | ((with_reducible refine st_alloc 40 (tA zeroY) ?_ ?_); exact zero_c))
        refine ⟨fun V3 g3 n3 f3 => ?_⟩
        have ne3_t := f3.ne n1
        have up3 : w.heap.size ≤ g3 := f3.up l2
        have bl3 := f3.bel
        clear f3
        have r4_t := le_on n1 bl3
        have l4 := le_tr l2 bl3
        clear n1 l2
        clear bl3
        go_wp2_with (first | ((with_reducible refine st_load 40 _ g1 ?_ r4_t Try.underlying40 ?_ ?_ ?_); exact rfl; exact rfl; exact Try.zTc))
        refine (H1 _).mono ?_
        rintro e w5 ⟨rfl, b5⟩
        have r6_t := le_on r4_t b5
        have r6_r := le_on n3 b5
        have l6 := le_tr l4 b5
        clear r4_t n3 l4
        clear b5
        go_wp2_with (first | ((with_reducible refine st_alloc 40 (tA zeroY) ?_ ?_); exact zero_c))
        refine ⟨fun V7 g7 n7 f7 => ?_⟩
        have ne7_t := f7.ne r6_t
        have ne7_r := f7.ne r6_r
        have up7 : w.heap.size ≤ g7 := f7.up l6
        have bl7 := f7.bel
        clear f7
        have r8_t := le_on r6_t bl7
        have r8_r := le_on r6_r bl7
        have l8 := le_tr l6 bl7
        clear r6_t r6_r l6
        clear bl7
        go_wp2_with (first | ((with_reducible refine st_store 40 _ _ g7 (tA (Ty.mk S.wh S.vt (updI S.ep who x))) ?_ ?_ n7 ?_ ?_ ?_ ?_); exact rfl; exact rfl; exact Try.zTc; exact rfl; exact tA_one _))
        refine ⟨fun V9 n9 k9 => ?_⟩
        have m9_t := k9.on r8_t ne7_t
        have m9_r := k9.on r8_r ne7_r
        have o9 := k9.bel _ _ l8 up7
        clear k9
        clear n7 r8_t r8_r l8
        have cv : V9.cell? ⟨g1, 8 + who, none⟩ = some (.int .i64 (S.vt who)) := (CB.cell m9_t (8 + who)).trans (tA_vt S hlt)
        rw [hy] at cv
        go_wp2_with (first | ((with_reducible refine st_cell 3 _ _ g7 (8 + who) (.int .i64 1) ?_ ?_ n9 (new := tA (Ty.mk S.wh (updI S.vt who 1) (updI S.ep who x))) ?_ ?_ ?_ ?_ ?_ ?_); exact rfl; exact rfl; exact (by rw [tA_size]; omega); exact tA_svt (Ty.mk S.wh S.vt (updI S.ep who x)) _ hlt; exact one_i; exact rfl; exact rfl))
        refine ⟨fun V11 n11 k11 => ?_⟩
        have m11_t := k11.on m9_t ne7_t
        have m11_r := k11.on m9_r ne7_r
        have o11 := k11.bel _ _ o9 up7
        clear k11
        clear n9 m9_t m9_r o9
        go_wp2_with (first | ((with_reducible refine st_load 40 _ g7 ?_ n11 Try.underlying40 ?_ ?_ ?_); exact rfl; exact rfl; exact Try.zTc) | ((with_reducible refine st_store 40 _ _ g3 (tA (Ty.mk S.wh (updI S.vt who 1) (updI S.ep who x))) ?_ ?_ m11_r ?_ ?_ ?_ ?_); exact rfl; exact rfl; exact Try.zTc; exact rfl; exact tA_one _))
        refine ⟨fun V12 n12 k12 => ?_⟩
        have m12_t := k12.on m11_t ne3_t
        have m12_h := k12.on n11 (Ne.symm ne7_r)
        have o12 := k12.bel _ _ o11 up3
        clear k12
        clear m11_r m11_t n11 o11
        go_wp2_with fail
        exact bodyPost_ret (v := .tuple #[.agg (tA (Ty.mk S.wh (updI S.vt who 1) (updI S.ep who x))), .int .i64 0]) (res_two Try.results56 rfl rfl n12 Try.underlying40 rfl Try.zTc) rfl ⟨(by rw [HE.out, HS.out] <;> rfl), o12⟩
      · subst hv2
        clear hv
        go_enter Try.func56, Try.ntmps56
        go_wp2_with (first | ((with_reducible refine st_box 40 _ (tA S) ?_ ?_); exact rfl))
        refine ⟨fun V1 g1 n1 f1 => ?_⟩
        have up1 : w.heap.size ≤ g1 := Nat.le_of_eq f1.at_
        have bl1 := f1.bel
        clear f1
        have l2 := le_tr (Below.refl _ _) bl1
        clear bl1
        go_wp2_with (first | ((with_reducible refine st_alloc 40 (tA zeroY) ?_ ?_); exact zero_c))
        refine ⟨fun V3 g3 n3 f3 => ?_⟩
        have ne3_t := f3.ne n1
        have up3 : w.heap.size ≤ g3 := f3.up l2
        have bl3 := f3.bel
        clear f3
        have r4_t := le_on n1 bl3
        have l4 := le_tr l2 bl3
        clear n1 l2
        clear bl3
        go_wp2_with (first | ((with_reducible refine st_load 40 _ g1 ?_ r4_t Try.underlying40 ?_ ?_ ?_); exact rfl; exact rfl; exact Try.zTc))
        refine (H1 _).mono ?_
        rintro e w5 ⟨rfl, b5⟩
        have r6_t := le_on r4_t b5
        have r6_r := le_on n3 b5
        have l6 := le_tr l4 b5
        clear r4_t n3 l4
        clear b5
        go_wp2_with (first | ((with_reducible refine st_alloc 40 (tA zeroY) ?_ ?_); exact zero_c))
        refine ⟨fun V7 g7 n7 f7 => ?_⟩
        have ne7_t := f7.ne r6_t
        have ne7_r := f7.ne r6_r
        have up7 : w.heap.size ≤ g7 := f7.up l6
        have bl7 := f7.bel
        clear f7
        have r8_t := le_on r6_t bl7
        have r8_r := le_on r6_r bl7
        have l8 := le_tr l6 bl7
        clear r6_t r6_r l6
        clear bl7
        go_wp2_with (first | ((with_reducible refine st_store 40 _ _ g7 (tA (Ty.mk S.wh S.vt (updI S.ep who x))) ?_ ?_ n7 ?_ ?_ ?_ ?_); exact rfl; exact rfl; exact Try.zTc; exact rfl; exact tA_one _))
        refine ⟨fun V9 n9 k9 => ?_⟩
        have m9_t := k9.on r8_t ne7_t
        have m9_r := k9.on r8_r ne7_r
        have o9 := k9.bel _ _ l8 up7
        clear k9
        clear n7 r8_t r8_r l8
        have cv : V9.cell? ⟨g1, 8 + who, none⟩ = some (.int .i64 (S.vt who)) := (CB.cell m9_t (8 + who)).trans (tA_vt S hlt)
        rw [hy] at cv
        go_wp2_with (first | ((with_reducible refine st_cell 3 _ _ g7 (8 + who) (.int .i64 2) ?_ ?_ n9 (new := tA (Ty.mk S.wh (updI S.vt who 2) (updI S.ep who x))) ?_ ?_ ?_ ?_ ?_ ?_); exact rfl; exact rfl; exact (by rw [tA_size]; omega); exact tA_svt (Ty.mk S.wh S.vt (updI S.ep who x)) _ hlt; exact one_i; exact rfl; exact rfl))
        refine ⟨fun V11 n11 k11 => ?_⟩
        have m11_t := k11.on m9_t ne7_t
        have m11_r := k11.on m9_r ne7_r
        have o11 := k11.bel _ _ o9 up7
        clear k11
        clear n9 m9_t m9_r o9
        go_wp2_with (first | ((with_reducible refine st_load 40 _ g7 ?_ n11 Try.underlying40 ?_ ?_ ?_); exact rfl; exact rfl; exact Try.zTc) | ((with_reducible refine st_store 40 _ _ g3 (tA (Ty.mk S.wh (updI S.vt who 2) (updI S.ep who x))) ?_ ?_ m11_r ?_ ?_ ?_ ?_); exact rfl; exact rfl; exact Try.zTc; exact rfl; exact tA_one _))
        refine ⟨fun V12 n12 k12 => ?_⟩
        have m12_t := k12.on m11_t ne3_t
        have m12_h := k12.on n11 (Ne.symm ne7_r)
        have o12 := k12.bel _ _ o11 up3
        clear k12
        clear m11_r m11_t n11 o11
        go_wp2_with fail
        exact bodyPost_ret (v := .tuple #[.agg (tA (Ty.mk S.wh (updI S.vt who 2) (updI S.ep who x))), .int .i64 0]) (res_two Try.results56 rfl rfl n12 Try.underlying40 rfl Try.zTc) rfl ⟨(by rw [HE.out, HS.out] <;> rfl), o12⟩
    · subst h0
      clear h3
      have hv' := hv
      obtain hv1 | hv2 : y = 1 ∨ y = 2 := by omega
      · subst hv1
        clear hv hv'
        go_enter Try.func56, Try.ntmps56
        go_wp2_with (first | ((with_reducible refine st_box 40 _ (tA S) ?_ ?_); exact rfl))
        refine ⟨fun V1 g1 n1 f1 => ?_⟩
        have up1 : w.heap.size ≤ g1 := Nat.le_of_eq f1.at_
        have bl1 := f1.bel
        clear f1
        have l2 := le_tr (Below.refl _ _) bl1
        clear bl1
        go_wp2_with (first | ((with_reducible refine st_alloc 40 (tA zeroY) ?_ ?_); exact zero_c))
        refine ⟨fun V3 g3 n3 f3 => ?_⟩
        have ne3_t := f3.ne n1
        have up3 : w.heap.size ≤ g3 := f3.up l2
        have bl3 := f3.bel
        clear f3
        have r4_t := le_on n1 bl3
        have l4 := le_tr l2 bl3
        clear n1 l2
        clear bl3
        go_wp2_with (first | ((with_reducible refine st_load 40 _ g1 ?_ r4_t Try.underlying40 ?_ ?_ ?_); exact rfl; exact rfl; exact Try.zTc))
        refine (H1 _).mono ?_
        rintro e w5 ⟨rfl, b5⟩
        have r6_t := le_on r4_t b5
        have r6_r := le_on n3 b5
        have l6 := le_tr l4 b5
        clear r4_t n3 l4
        clear b5
        go_wp2_with (first | ((with_reducible refine st_alloc 40 (tA zeroY) ?_ ?_); exact zero_c))
        refine ⟨fun V7 g7 n7 f7 => ?_⟩
        have ne7_t := f7.ne r6_t
        have ne7_r := f7.ne r6_r
        have up7 : w.heap.size ≤ g7 := f7.up l6
        have bl7 := f7.bel
        clear f7
        have r8_t := le_on r6_t bl7
        have r8_r := le_on r6_r bl7
        have l8 := le_tr l6 bl7
        clear r6_t r6_r l6
        clear bl7
        go_wp2_with (first | ((with_reducible refine st_store 40 _ _ g7 (tA (Ty.mk S.wh S.vt (updI S.ep who x))) ?_ ?_ n7 ?_ ?_ ?_ ?_); exact rfl; exact rfl; exact Try.zTc; exact rfl; exact tA_one _))
        refine ⟨fun V9 n9 k9 => ?_⟩
        have m9_t := k9.on r8_t ne7_t
        have m9_r := k9.on r8_r ne7_r
        have o9 := k9.bel _ _ l8 up7
        clear k9
        clear n7 r8_t r8_r l8
        have cv : V9.cell? ⟨g1, 8 + who, none⟩ = some (.int .i64 (S.vt who)) := (CB.cell m9_t (8 + who)).trans (tA_vt S hlt)
        rw [hy] at cv
        go_wp2_with (first | ((with_reducible refine st_cell 3 _ _ g7 (8 + who) (.int .i64 1) ?_ ?_ n9 (new := tA (Ty.mk S.wh (updI S.vt who 1) (updI S.ep who x))) ?_ ?_ ?_ ?_ ?_ ?_); exact rfl; exact rfl; exact (by rw [tA_size]; omega); exact tA_svt (Ty.mk S.wh S.vt (updI S.ep who x)) _ hlt; exact one_i; exact rfl; exact rfl))
        refine ⟨fun V11 n11 k11 => ?_⟩
        have m11_t := k11.on m9_t ne7_t
        have m11_r := k11.on m9_r ne7_r
        have o11 := k11.bel _ _ o9 up7
        clear k11
        clear n9 m9_t m9_r o9
        go_wp2_with (first | ((with_reducible refine st_load 40 _ g7 ?_ n11 Try.underlying40 ?_ ?_ ?_); exact rfl; exact rfl; exact Try.zTc) | ((with_reducible refine st_store 40 _ _ g3 (tA (Ty.mk S.wh (updI S.vt who 1) (updI S.ep who x))) ?_ ?_ m11_r ?_ ?_ ?_ ?_); exact rfl; exact rfl; exact Try.zTc; exact rfl; exact tA_one _))
        refine ⟨fun V12 n12 k12 => ?_⟩
        have m12_t := k12.on m11_t ne3_t
        have m12_h := k12.on n11 (Ne.symm ne7_r)
        have o12 := k12.bel _ _ o11 up3
        clear k12
        clear m11_r m11_t n11 o11
        go_wp2_with fail
        exact bodyPost_ret (v := .tuple #[.agg (tA (Ty.mk S.wh (updI S.vt who 1) (updI S.ep who x))), .int .i64 0]) (res_two Try.results56 rfl rfl n12 Try.underlying40 rfl Try.zTc) rfl ⟨(by rw [HE.out, HS.out] <;> rfl), o12⟩
      · subst hv2
        clear hv hv'
        go_enter Try.func56, Try.ntmps56
        go_wp2_with (first | ((with_reducible refine st_box 40 _ (tA S) ?_ ?_); exact rfl))
        refine ⟨fun V1 g1 n1 f1 => ?_⟩
        have up1 : w.heap.size ≤ g1 := Nat.le_of_eq f1.at_
        have bl1 := f1.bel
        clear f1
        have l2 := le_tr (Below.refl _ _) bl1
        clear bl1
        go_wp2_with (first | ((with_reducible refine st_alloc 40 (tA zeroY) ?_ ?_); exact zero_c))
        refine ⟨fun V3 g3 n3 f3 => ?_⟩
        have ne3_t := f3.ne n1
        have up3 : w.heap.size ≤ g3 := f3.up l2
        have bl3 := f3.bel
        clear f3
        have r4_t := le_on n1 bl3
        have l4 := le_tr l2 bl3
        clear n1 l2
        clear bl3
        go_wp2_with (first | ((with_reducible refine st_load 40 _ g1 ?_ r4_t Try.underlying40 ?_ ?_ ?_); exact rfl; exact rfl; exact Try.zTc))
        refine (H1 _).mono ?_
        rintro e w5 ⟨rfl, b5⟩
        have r6_t := le_on r4_t b5
        have r6_r := le_on n3 b5
        have l6 := le_tr l4 b5
        clear r4_t n3 l4
        clear b5
        go_wp2_with (first | ((with_reducible refine st_alloc 40 (tA zeroY) ?_ ?_); exact zero_c))
        refine ⟨fun V7 g7 n7 f7 => ?_⟩
        have ne7_t := f7.ne r6_t
        have ne7_r := f7.ne r6_r
        have up7 : w.heap.size ≤ g7 := f7.up l6
        have bl7 := f7.bel
        clear f7
        have r8_t := le_on r6_t bl7
        have r8_r := le_on r6_r bl7
        have l8 := le_tr l6 bl7
        clear r6_t r6_r l6
        clear bl7
        go_wp2_with (first | ((with_reducible refine st_store 40 _ _ g7 (tA (Ty.mk S.wh S.vt (updI S.ep who x))) ?_ ?_ n7 ?_ ?_ ?_ ?_); exact rfl; exact rfl; exact Try.zTc; exact rfl; exact tA_one _))
        refine ⟨fun V9 n9 k9 => ?_⟩
        have m9_t := k9.on r8_t ne7_t
        have m9_r := k9.on r8_r ne7_r
        have o9 := k9.bel _ _ l8 up7
        clear k9
        clear n7 r8_t r8_r l8
        have cv : V9.cell? ⟨g1, 8 + who, none⟩ = some (.int .i64 (S.vt who)) := (CB.cell m9_t (8 + who)).trans (tA_vt S hlt)
        rw [hy] at cv
        go_wp2_with (first | ((with_reducible refine st_cell 3 _ _ g7 (8 + who) (.int .i64 2) ?_ ?_ n9 (new := tA (Ty.mk S.wh (updI S.vt who 2) (updI S.ep who x))) ?_ ?_ ?_ ?_ ?_ ?_); exact rfl; exact rfl; exact (by rw [tA_size]; omega); exact tA_svt (Ty.mk S.wh S.vt (updI S.ep who x)) _ hlt; exact one_i; exact rfl; exact rfl))
        refine ⟨fun V11 n11 k11 => ?_⟩
        have m11_t := k11.on m9_t ne7_t
        have m11_r := k11.on m9_r ne7_r
        have o11 := k11.bel _ _ o9 up7
        clear k11
        clear n9 m9_t m9_r o9
        go_wp2_with (first | ((with_reducible refine st_load 40 _ g7 ?_ n11 Try.underlying40 ?_ ?_ ?_); exact rfl; exact rfl; exact Try.zTc) | ((with_reducible refine st_store 40 _ _ g3 (tA (Ty.mk S.wh (updI S.vt who 2) (updI S.ep who x))) ?_ ?_ m11_r ?_ ?_ ?_ ?_); exact rfl; exact rfl; exact Try.zTc; exact rfl; exact tA_one _))
        refine ⟨fun V12 n12 k12 => ?_⟩
        have m12_t := k12.on m11_t ne3_t
        have m12_h := k12.on n11 (Ne.symm ne7_r)
        have o12 := k12.bel _ _ o11 up3
        clear k12
        clear m11_r m11_t n11 o11
        go_wp2_with fail
        exact bodyPost_ret (v := .tuple #[.agg (tA (Ty.mk S.wh (updI S.vt who 2) (updI S.ep who x))), .int .i64 0]) (res_two Try.results56 rfl rfl n12 Try.underlying40 rfl Try.zTc) rfl ⟨(by rw [HE.out, HS.out] <;> rfl), o12⟩
  have HE := Lib.hid (ePut_h (S := S) (who := who) (x := x) hv he)
  have HS := Lib.hid (sPut_n (S := S) (who := who) (x := x) (v := v) (by rw [HE.out]; exact he))
  rw [sHear_n he] at H1
  obtain ⟨m, hm⟩ : ∃ m : Nat, eHear S who x = m := ⟨_, rfl⟩
  rw [hm] at H1 he
  have HE := Lib.hid (HE.out.trans hm)
  have q5 : ((m : Int) != 0) = true := by simp [he]
  have q6 : (m != 0) = true := by simp [he]
  clear hm
  obtain hv1 | hv2 : v = 1 ∨ v = 2 := by omega
  · subst hv1
    clear hv he
    go_enter Try.func56, Try.ntmps56
    go_wp2_with (first | ((with_reducible refine st_box 40 _ (tA S) ?_ ?_); exact rfl))
    refine ⟨fun V1 g1 n1 f1 => ?_⟩
    have up1 : w.heap.size ≤ g1 := Nat.le_of_eq f1.at_
    have bl1 := f1.bel
    clear f1
    have l2 := le_tr (Below.refl _ _) bl1
    clear bl1
    go_wp2_with (first | ((with_reducible refine st_alloc 40 (tA zeroY) ?_ ?_); exact zero_c))
    refine ⟨fun V3 g3 n3 f3 => ?_⟩
    have ne3_t := f3.ne n1
    have up3 : w.heap.size ≤ g3 := f3.up l2
    have bl3 := f3.bel
    clear f3
    have r4_t := le_on n1 bl3
    have l4 := le_tr l2 bl3
    clear n1 l2
    clear bl3
    go_wp2_with (first | ((with_reducible refine st_load 40 _ g1 ?_ r4_t Try.underlying40 ?_ ?_ ?_); exact rfl; exact rfl; exact Try.zTc))
    refine (H1 _).mono ?_
    rintro e w5 ⟨rfl, b5⟩
    have r6_t := le_on r4_t b5
    have r6_r := le_on n3 b5
    have l6 := le_tr l4 b5
    clear r4_t n3 l4
    clear b5
    go_wp2_with (first | ((with_reducible refine st_alloc 40 (tA zeroY) ?_ ?_); exact zero_c))
    refine ⟨fun V7 g7 n7 f7 => ?_⟩
    have ne7_t := f7.ne r6_t
    have ne7_r := f7.ne r6_r
    have up7 : w.heap.size ≤ g7 := f7.up l6
    have bl7 := f7.bel
    clear f7
    have r8_t := le_on r6_t bl7
    have r8_r := le_on r6_r bl7
    have l8 := le_tr l6 bl7
    clear r6_t r6_r l6
    clear bl7
    go_wp2_with (first | ((with_reducible refine st_store 40 _ _ g7 (tA S) ?_ ?_ n7 ?_ ?_ ?_ ?_); exact rfl; exact rfl; exact Try.zTc; exact rfl; exact tA_one _))
    refine ⟨fun V9 n9 k9 => ?_⟩
    have m9_t := k9.on r8_t ne7_t
    have m9_r := k9.on r8_r ne7_r
    have o9 := k9.bel _ _ l8 up7
    clear k9
    clear n7 r8_t r8_r l8
    go_wp2_with (first | ((with_reducible refine st_load 40 _ g1 ?_ m9_t Try.underlying40 ?_ ?_ ?_); exact rfl; exact rfl; exact Try.zTc) | ((with_reducible refine st_store 40 _ _ g3 (tA S) ?_ ?_ m9_r ?_ ?_ ?_ ?_); exact rfl; exact rfl; exact Try.zTc; exact rfl; exact tA_one _))
    refine ⟨fun V10 n10 k10 => ?_⟩
    have m10_t := k10.on m9_t ne3_t
    have m10_h := k10.on n9 (Ne.symm ne7_r)
    have o10 := k10.bel _ _ o9 up3
    clear k10
    clear m9_r m9_t n9 o9
    go_wp2_with fail
    exact bodyPost_ret (v := .tuple #[.agg (tA S), .int .i64 (m : Int)]) (res_two Try.results56 rfl rfl n10 Try.underlying40 rfl Try.zTc) rfl ⟨(by rw [HE.out, HS.out] <;> rfl), o10⟩
  · subst hv2
    clear hv he
    go_enter Try.func56, Try.ntmps56
    go_wp2_with (first | ((with_reducible refine st_box 40 _ (tA S) ?_ ?_); exact rfl))
    refine ⟨fun V1 g1 n1 f1 => ?_⟩
    have up1 : w.heap.size ≤ g1 := Nat.le_of_eq f1.at_
    have bl1 := f1.bel
    clear f1
    have l2 := le_tr (Below.refl _ _) bl1
    clear bl1
    go_wp2_with (first | ((with_reducible refine st_alloc 40 (tA zeroY) ?_ ?_); exact zero_c))
    refine ⟨fun V3 g3 n3 f3 => ?_⟩
    have ne3_t := f3.ne n1
    have up3 : w.heap.size ≤ g3 := f3.up l2
    have bl3 := f3.bel
    clear f3
    have r4_t := le_on n1 bl3
    have l4 := le_tr l2 bl3
    clear n1 l2
    clear bl3
    go_wp2_with (first | ((with_reducible refine st_load 40 _ g1 ?_ r4_t Try.underlying40 ?_ ?_ ?_); exact rfl; exact rfl; exact Try.zTc))
    refine (H1 _).mono ?_
    rintro e w5 ⟨rfl, b5⟩
    have r6_t := le_on r4_t b5
    have r6_r := le_on n3 b5
    have l6 := le_tr l4 b5
    clear r4_t n3 l4
    clear b5
    go_wp2_with (first | ((with_reducible refine st_alloc 40 (tA zeroY) ?_ ?_); exact zero_c))
    refine ⟨fun V7 g7 n7 f7 => ?_⟩
    have ne7_t := f7.ne r6_t
    have ne7_r := f7.ne r6_r
    have up7 : w.heap.size ≤ g7 := f7.up l6
    have bl7 := f7.bel
    clear f7
    have r8_t := le_on r6_t bl7
    have r8_r := le_on r6_r bl7
    have l8 := le_tr l6 bl7
    clear r6_t r6_r l6
    clear bl7
    go_wp2_with (first | ((with_reducible refine st_store 40 _ _ g7 (tA S) ?_ ?_ n7 ?_ ?_ ?_ ?_); exact rfl; exact rfl; exact Try.zTc; exact rfl; exact tA_one _))
    refine ⟨fun V9 n9 k9 => ?_⟩
    have m9_t := k9.on r8_t ne7_t
    have m9_r := k9.on r8_r ne7_r
    have o9 := k9.bel _ _ l8 up7
    clear k9
    clear n7 r8_t r8_r l8
    go_wp2_with (first | ((with_reducible refine st_load 40 _ g1 ?_ m9_t Try.underlying40 ?_ ?_ ?_); exact rfl; exact rfl; exact Try.zTc) | ((with_reducible refine st_store 40 _ _ g3 (tA S) ?_ ?_ m9_r ?_ ?_ ?_ ?_); exact rfl; exact rfl; exact Try.zTc; exact rfl; exact tA_one _))
    refine ⟨fun V10 n10 k10 => ?_⟩
    have m10_t := k10.on m9_t ne3_t
    have m10_h := k10.on n9 (Ne.symm ne7_r)
    have o10 := k10.bel _ _ o9 up3
    clear k10
    clear m9_r m9_t n9 o9
    go_wp2_with fail
    exact bodyPost_ret (v := .tuple #[.agg (tA S), .int .i64 (m : Int)]) (res_two Try.results56 rfl rfl n10 Try.underlying40 rfl Try.zTc) rfl ⟨(by rw [HE.out, HS.out] <;> rfl), o10⟩
end Go.Proofs.Ytjfmahceolhfnaa
