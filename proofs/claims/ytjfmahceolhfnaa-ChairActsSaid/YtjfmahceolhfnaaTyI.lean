/-
  The document's layer 14: Put. No condition.
-/
import Derived.Test.YtjfmahceolhfnaaTyH
set_option linter.unusedVariables false
set_option linter.unusedSimpArgs false
namespace Go.Proofs.Ytjfmahceolhfnaa
open Go.RowKit

set_option maxRecDepth 100000 in
set_option maxHeartbeats 4000000 in
theorem put_r (S : Ty) (who : Nat) (x v : Int) (w : World) : Calls Try.prog 49 #[.agg (tA S), .int .u8 (who : Int), .int .i64 x, .int .i64 v] w fun r w' => r = .returned (.tuple #[.agg (tA (sPut S who x v)), .int .i64 ((ePut S who x v : Nat) : Int)]) ∧ Below w.heap.size w w' := by
  by_cases hv : v ≠ 1 ∧ v ≠ 2
  · have HE := Lib.hid (ePut_2 (S := S) (who := who) (x := x) hv)
    have HS := Lib.hid (sPut_n (S := S) (who := who) (x := x) (v := v) (by rw [HE.out]; decide))
    have q1 : (v != 1) = true := by simp [hv.1]
    have q2 : (v != 2) = true := by simp [hv.2]
    clear hv
    go_enter Try.func49, Try.ntmps49
    go_wp2_with (first | ((with_reducible refine st_box 73 _ (tA S) ?_ ?_); exact rfl))
    refine ⟨fun V1 g1 n1 f1 => ?_⟩
    have up1 : w.heap.size ≤ g1 := Nat.le_of_eq f1.at_
    have bl1 := f1.bel
    clear f1
    have l2 := le_tr (Below.refl _ _) bl1
    clear bl1
    go_wp2_with (first | ((with_reducible refine st_alloc 73 (tA zeroY) ?_ ?_); exact zero_r))
    refine ⟨fun V3 g3 n3 f3 => ?_⟩
    have ne3_t := f3.ne n1
    have up3 : w.heap.size ≤ g3 := f3.up l2
    have bl3 := f3.bel
    clear f3
    have r4_t := le_on n1 bl3
    have l4 := le_tr l2 bl3
    clear n1 l2
    clear bl3
    go_wp2_with (first | ((with_reducible refine st_load 73 _ g1 ?_ r4_t Try.underlying73 ?_ ?_ ?_); exact rfl; exact rfl; exact Try.zTr) | ((with_reducible refine st_store 73 _ _ g3 (tA S) ?_ ?_ n3 ?_ ?_ ?_ ?_); exact rfl; exact rfl; exact Try.zTr; exact rfl; exact tA_one _))
    refine ⟨fun V5 n5 k5 => ?_⟩
    have m5_t := k5.on r4_t ne3_t
    have o5 := k5.bel _ _ l4 up3
    clear k5
    clear n3 r4_t l4
    go_wp2_with fail
    exact bodyPost_ret (v := .tuple #[.agg (tA S), .int .i64 2]) (res_two Try.results49 rfl rfl n5 Try.underlying73 rfl Try.zTr) rfl ⟨(by rw [HE.out, HS.out] <;> rfl), o5⟩
  have H1 := fun W => hear_r S who x W
  by_cases he : eHear S who x = 0
  · rw [he, sHear_z he] at H1
    have hlt : who < 8 := (eHear_iff.1 he).2.2.2.1
    have j1 : (who : Int) < 8 := by omega
    have j2 : (0 : Int) ≤ (who : Int) := by omega
    obtain ⟨y, hy⟩ : ∃ y, S.vt who = y := ⟨_, rfl⟩
    by_cases h3 : y ≠ 0 ∧ y ≠ v
    · have HE := Lib.hid (ePut_8 (S := S) (who := who) (x := x) hv he (by rw [hy]; exact h3))
      have HS := Lib.hid (sPut_n (S := S) (who := who) (x := x) (v := v) (by rw [HE.out]; decide))
      have q3 : (y != 0) = true := by simp [h3.1]
      have q4 : (y != v) = true := by simp [h3.2]
      clear h3 he
      obtain hv1 | hv2 : v = 1 ∨ v = 2 := by omega
      · subst hv1
        clear hv
        go_enter Try.func49, Try.ntmps49
        go_wp2_with (first | ((with_reducible refine st_box 73 _ (tA S) ?_ ?_); exact rfl))
        refine ⟨fun V1 g1 n1 f1 => ?_⟩
        have up1 : w.heap.size ≤ g1 := Nat.le_of_eq f1.at_
        have bl1 := f1.bel
        clear f1
        have l2 := le_tr (Below.refl _ _) bl1
        clear bl1
        go_wp2_with (first | ((with_reducible refine st_alloc 73 (tA zeroY) ?_ ?_); exact zero_r))
        refine ⟨fun V3 g3 n3 f3 => ?_⟩
        have ne3_t := f3.ne n1
        have up3 : w.heap.size ≤ g3 := f3.up l2
        have bl3 := f3.bel
        clear f3
        have r4_t := le_on n1 bl3
        have l4 := le_tr l2 bl3
        clear n1 l2
        clear bl3
        go_wp2_with (first | ((with_reducible refine st_load 73 _ g1 ?_ r4_t Try.underlying73 ?_ ?_ ?_); exact rfl; exact rfl; exact Try.zTr))
        refine (H1 _).mono ?_
        rintro e w5 ⟨rfl, b5⟩
        have r6_t := le_on r4_t b5
        have r6_r := le_on n3 b5
        have l6 := le_tr l4 b5
        clear r4_t n3 l4
        clear b5
        go_wp2_with (first | ((with_reducible refine st_alloc 73 (tA zeroY) ?_ ?_); exact zero_r))
        refine ⟨fun V7 g7 n7 f7 => ?_⟩
        have ne7_t := f7.ne r6_t
        have ne7_r := f7.ne r6_r
        have up7 : w.heap.size ≤ g7 := f7.up l6
        have bl7 := f7.bel
        clear f7
        have r8_t := le_on r6_t bl7
        have r8_r := le_on r6_r bl7
        have l8 := le_tr l6 bl7
        clear r6_t r6_r l6
        clear bl7
        go_wp2_with (first | ((with_reducible refine st_store 73 _ _ g7 (tA (Ty.mk S.wh S.vt (updI S.ep who x))) ?_ ?_ n7 ?_ ?_ ?_ ?_); exact rfl; exact rfl; exact Try.zTr; exact rfl; exact tA_one _))
        refine ⟨fun V9 n9 k9 => ?_⟩
        have m9_t := k9.on r8_t ne7_t
        have m9_r := k9.on r8_r ne7_r
        have o9 := k9.bel _ _ l8 up7
        clear k9
        clear n7 r8_t r8_r l8
        have cv : V9.cell? ⟨g7, 8 + who, none⟩ = some (.int .i64 ((Ty.mk S.wh S.vt (updI S.ep who x)).vt who)) := (CB.cell n9 (8 + who)).trans (tA_vt (Ty.mk S.wh S.vt (updI S.ep who x)) hlt)
        rw [show (Ty.mk S.wh S.vt (updI S.ep who x)).vt who = y from hy] at cv
        go_wp2_with (first | ((with_reducible refine st_load 73 _ g1 ?_ m9_t Try.underlying73 ?_ ?_ ?_); exact rfl; exact rfl; exact Try.zTr) | ((with_reducible refine st_store 73 _ _ g3 (tA S) ?_ ?_ m9_r ?_ ?_ ?_ ?_); exact rfl; exact rfl; exact Try.zTr; exact rfl; exact tA_one _))
        refine ⟨fun V11 n11 k11 => ?_⟩
        have m11_t := k11.on m9_t ne3_t
        have m11_h := k11.on n9 (Ne.symm ne7_r)
        have o11 := k11.bel _ _ o9 up3
        clear k11
        clear m9_r m9_t n9 o9
        go_wp2_with fail
        exact bodyPost_ret (v := .tuple #[.agg (tA S), .int .i64 8]) (res_two Try.results49 rfl rfl n11 Try.underlying73 rfl Try.zTr) rfl ⟨(by rw [HE.out, HS.out] <;> rfl), o11⟩
      · subst hv2
        clear hv
        go_enter Try.func49, Try.ntmps49
        go_wp2_with (first | ((with_reducible refine st_box 73 _ (tA S) ?_ ?_); exact rfl))
        refine ⟨fun V1 g1 n1 f1 => ?_⟩
        have up1 : w.heap.size ≤ g1 := Nat.le_of_eq f1.at_
        have bl1 := f1.bel
        clear f1
        have l2 := le_tr (Below.refl _ _) bl1
        clear bl1
        go_wp2_with (first | ((with_reducible refine st_alloc 73 (tA zeroY) ?_ ?_); exact zero_r))
        refine ⟨fun V3 g3 n3 f3 => ?_⟩
        have ne3_t := f3.ne n1
        have up3 : w.heap.size ≤ g3 := f3.up l2
        have bl3 := f3.bel
        clear f3
        have r4_t := le_on n1 bl3
        have l4 := le_tr l2 bl3
        clear n1 l2
        clear bl3
        go_wp2_with (first | ((with_reducible refine st_load 73 _ g1 ?_ r4_t Try.underlying73 ?_ ?_ ?_); exact rfl; exact rfl; exact Try.zTr))
        refine (H1 _).mono ?_
        rintro e w5 ⟨rfl, b5⟩
        have r6_t := le_on r4_t b5
        have r6_r := le_on n3 b5
        have l6 := le_tr l4 b5
        clear r4_t n3 l4
        clear b5
        go_wp2_with (first | ((with_reducible refine st_alloc 73 (tA zeroY) ?_ ?_); exact zero_r))
        refine ⟨fun V7 g7 n7 f7 => ?_⟩
        have ne7_t := f7.ne r6_t
        have ne7_r := f7.ne r6_r
        have up7 : w.heap.size ≤ g7 := f7.up l6
        have bl7 := f7.bel
        clear f7
        have r8_t := le_on r6_t bl7
        have r8_r := le_on r6_r bl7
        have l8 := le_tr l6 bl7
        clear r6_t r6_r l6
        clear bl7
        go_wp2_with (first | ((with_reducible refine st_store 73 _ _ g7 (tA (Ty.mk S.wh S.vt (updI S.ep who x))) ?_ ?_ n7 ?_ ?_ ?_ ?_); exact rfl; exact rfl; exact Try.zTr; exact rfl; exact tA_one _))
        refine ⟨fun V9 n9 k9 => ?_⟩
        have m9_t := k9.on r8_t ne7_t
        have m9_r := k9.on r8_r ne7_r
        have o9 := k9.bel _ _ l8 up7
        clear k9
        clear n7 r8_t r8_r l8
        have cv : V9.cell? ⟨g7, 8 + who, none⟩ = some (.int .i64 ((Ty.mk S.wh S.vt (updI S.ep who x)).vt who)) := (CB.cell n9 (8 + who)).trans (tA_vt (Ty.mk S.wh S.vt (updI S.ep who x)) hlt)
        rw [show (Ty.mk S.wh S.vt (updI S.ep who x)).vt who = y from hy] at cv
        go_wp2_with (first | ((with_reducible refine st_load 73 _ g1 ?_ m9_t Try.underlying73 ?_ ?_ ?_); exact rfl; exact rfl; exact Try.zTr) | ((with_reducible refine st_store 73 _ _ g3 (tA S) ?_ ?_ m9_r ?_ ?_ ?_ ?_); exact rfl; exact rfl; exact Try.zTr; exact rfl; exact tA_one _))
        refine ⟨fun V11 n11 k11 => ?_⟩
        have m11_t := k11.on m9_t ne3_t
        have m11_h := k11.on n9 (Ne.symm ne7_r)
        have o11 := k11.bel _ _ o9 up3
        clear k11
        clear m9_r m9_t n9 o9
        go_wp2_with fail
        exact bodyPost_ret (v := .tuple #[.agg (tA S), .int .i64 8]) (res_two Try.results49 rfl rfl n11 Try.underlying73 rfl Try.zTr) rfl ⟨(by rw [HE.out, HS.out] <;> rfl), o11⟩
    have HE := Lib.hid (ePut_0 (S := S) (who := who) (x := x) hv he (by rw [hy]; exact h3))
    have HS := Lib.hid (sPut_z HE.out)
    clear he
    obtain h0 | h0 : y = 0 ∨ y = v := by omega
    · subst h0
      clear h3
      obtain hv1 | hv2 : v = 1 ∨ v = 2 := by omega
      · subst hv1
        clear hv
        go_enter Try.func49, Try.ntmps49
        go_wp2_with (first | ((with_reducible refine st_box 73 _ (tA S) ?_ ?_); exact rfl))
        refine ⟨fun V1 g1 n1 f1 => ?_⟩
        have up1 : w.heap.size ≤ g1 := Nat.le_of_eq f1.at_
        have bl1 := f1.bel
        clear f1
        have l2 := le_tr (Below.refl _ _) bl1
        clear bl1
        go_wp2_with (first | ((with_reducible refine st_alloc 73 (tA zeroY) ?_ ?_); exact zero_r))
        refine ⟨fun V3 g3 n3 f3 => ?_⟩
        have ne3_t := f3.ne n1
        have up3 : w.heap.size ≤ g3 := f3.up l2
        have bl3 := f3.bel
        clear f3
        have r4_t := le_on n1 bl3
        have l4 := le_tr l2 bl3
        clear n1 l2
        clear bl3
        go_wp2_with (first | ((with_reducible refine st_load 73 _ g1 ?_ r4_t Try.underlying73 ?_ ?_ ?_); exact rfl; exact rfl; exact Try.zTr))
        refine (H1 _).mono ?_
        rintro e w5 ⟨rfl, b5⟩
        have r6_t := le_on r4_t b5
        have r6_r := le_on n3 b5
        have l6 := le_tr l4 b5
        clear r4_t n3 l4
        clear b5
        go_wp2_with (first | ((with_reducible refine st_alloc 73 (tA zeroY) ?_ ?_); exact zero_r))
        refine ⟨fun V7 g7 n7 f7 => ?_⟩
        have ne7_t := f7.ne r6_t
        have ne7_r := f7.ne r6_r
        have up7 : w.heap.size ≤ g7 := f7.up l6
        have bl7 := f7.bel
        clear f7
        have r8_t := le_on r6_t bl7
        have r8_r := le_on r6_r bl7
        have l8 := le_tr l6 bl7
        clear r6_t r6_r l6
        clear bl7
        go_wp2_with (first | ((with_reducible refine st_store 73 _ _ g7 (tA (Ty.mk S.wh S.vt (updI S.ep who x))) ?_ ?_ n7 ?_ ?_ ?_ ?_); exact rfl; exact rfl; exact Try.zTr; exact rfl; exact tA_one _))
        refine ⟨fun V9 n9 k9 => ?_⟩
        have m9_t := k9.on r8_t ne7_t
        have m9_r := k9.on r8_r ne7_r
        have o9 := k9.bel _ _ l8 up7
        clear k9
        clear n7 r8_t r8_r l8
        have cv : V9.cell? ⟨g7, 8 + who, none⟩ = some (.int .i64 ((Ty.mk S.wh S.vt (updI S.ep who x)).vt who)) := (CB.cell n9 (8 + who)).trans (tA_vt (Ty.mk S.wh S.vt (updI S.ep who x)) hlt)
        rw [show (Ty.mk S.wh S.vt (updI S.ep who x)).vt who = 0 from hy] at cv
        go_wp2_with (first | ((with_reducible refine st_part 38 _ g7 8 ?_ (pt := iA (Ty.mk S.wh S.vt (updI S.ep who x)).vt) n9 ?_ Try.underlying38 ?_ ?_ ?_); exact rfl; exact rfl; exact rfl; exact Try.zI8) | ((with_reducible refine st_alloc 38 (iA (fun _ => 0)) ?_ ?_); exact zero_i))
        refine ⟨fun V11 g11 n11 f11 => ?_⟩
        have ne11_t := f11.ne m9_t
        have ne11_r := f11.ne m9_r
        have ne11_h := f11.ne n9
        have up11 : w.heap.size ≤ g11 := f11.up o9
        have bl11 := f11.bel
        clear f11
        have r12_t := le_on m9_t bl11
        have r12_r := le_on m9_r bl11
        have r12_h := le_on n9 bl11
        have l12 := le_tr o9 bl11
        clear m9_t m9_r n9 o9
        clear bl11
        go_wp2_with (first | ((with_reducible refine st_store 38 _ _ g11 (iA (S.vt)) ?_ ?_ n11 ?_ ?_ ?_ ?_); exact rfl; exact rfl; exact Try.zI8; exact rfl; exact iA_one _))
        refine ⟨fun V13 n13 k13 => ?_⟩
        have m13_t := k13.on r12_t ne11_t
        have m13_r := k13.on r12_r ne11_r
        have m13_h := k13.on r12_h ne11_h
        have o13 := k13.bel _ _ l12 up11
        clear k13
        clear n11 r12_t r12_r r12_h l12
        go_wp2_with (first | ((with_reducible refine st_cell 3 _ _ g11 who (.int .i64 1) ?_ ?_ n13 (new := iA (updI S.vt who 1)) ?_ ?_ ?_ ?_ ?_ ?_); exact rfl; exact rfl; exact (by rw [iA_size]; omega); exact iA_set (S.vt) _ hlt; exact one_i; exact rfl; exact rfl))
        refine ⟨fun V14 n14 k14 => ?_⟩
        have m14_t := k14.on m13_t ne11_t
        have m14_r := k14.on m13_r ne11_r
        have m14_h := k14.on m13_h ne11_h
        have o14 := k14.bel _ _ o13 up11
        clear k14
        clear n13 m13_t m13_r m13_h o13
        go_wp2_with (first | ((with_reducible refine st_load 38 _ g11 ?_ n14 Try.underlying38 ?_ ?_ ?_); exact rfl; exact rfl; exact Try.zI8) | ((with_reducible refine st_mid 38 _ _ g7 8 (iA (updI S.vt who 1)) ?_ ?_ m14_h ?_ (new := tA (Ty.mk S.wh (updI S.vt who 1) (updI S.ep who x))) ?_ ?_ ?_ ?_); exact rfl; exact rfl; exact (by decide : 8 + 8 ≤ 24); exact tA_mvt _ _; exact Try.zI8; exact iA_one _))
        refine ⟨fun V15 n15 k15 => ?_⟩
        have m15_t := k15.on m14_t ne7_t
        have m15_r := k15.on m14_r ne7_r
        have m15_e := k15.on n14 (Ne.symm ne11_h)
        have o15 := k15.bel _ _ o14 up7
        clear k15
        clear m14_h m14_t m14_r n14 o14
        go_wp2_with (first | ((with_reducible refine st_load 73 _ g7 ?_ n15 Try.underlying73 ?_ ?_ ?_); exact rfl; exact rfl; exact Try.zTr) | ((with_reducible refine st_store 73 _ _ g3 (tA (Ty.mk S.wh (updI S.vt who 1) (updI S.ep who x))) ?_ ?_ m15_r ?_ ?_ ?_ ?_); exact rfl; exact rfl; exact Try.zTr; exact rfl; exact tA_one _))
        refine ⟨fun V16 n16 k16 => ?_⟩
        have m16_t := k16.on m15_t ne3_t
        have m16_h := k16.on n15 (Ne.symm ne7_r)
        have m16_e := k16.on m15_e (Ne.symm ne11_r)
        have o16 := k16.bel _ _ o15 up3
        clear k16
        clear m15_r m15_t n15 m15_e o15
        go_wp2_with fail
        exact bodyPost_ret (v := .tuple #[.agg (tA (Ty.mk S.wh (updI S.vt who 1) (updI S.ep who x))), .int .i64 0]) (res_two Try.results49 rfl rfl n16 Try.underlying73 rfl Try.zTr) rfl ⟨(by rw [HE.out, HS.out] <;> rfl), o16⟩
      · subst hv2
        clear hv
        go_enter Try.func49, Try.ntmps49
        go_wp2_with (first | ((with_reducible refine st_box 73 _ (tA S) ?_ ?_); exact rfl))
        refine ⟨fun V1 g1 n1 f1 => ?_⟩
        have up1 : w.heap.size ≤ g1 := Nat.le_of_eq f1.at_
        have bl1 := f1.bel
        clear f1
        have l2 := le_tr (Below.refl _ _) bl1
        clear bl1
        go_wp2_with (first | ((with_reducible refine st_alloc 73 (tA zeroY) ?_ ?_); exact zero_r))
        refine ⟨fun V3 g3 n3 f3 => ?_⟩
        have ne3_t := f3.ne n1
        have up3 : w.heap.size ≤ g3 := f3.up l2
        have bl3 := f3.bel
        clear f3
        have r4_t := le_on n1 bl3
        have l4 := le_tr l2 bl3
        clear n1 l2
        clear bl3
        go_wp2_with (first | ((with_reducible refine st_load 73 _ g1 ?_ r4_t Try.underlying73 ?_ ?_ ?_); exact rfl; exact rfl; exact Try.zTr))
        refine (H1 _).mono ?_
        rintro e w5 ⟨rfl, b5⟩
        have r6_t := le_on r4_t b5
        have r6_r := le_on n3 b5
        have l6 := le_tr l4 b5
        clear r4_t n3 l4
        clear b5
        go_wp2_with (first | ((with_reducible refine st_alloc 73 (tA zeroY) ?_ ?_); exact zero_r))
        refine ⟨fun V7 g7 n7 f7 => ?_⟩
        have ne7_t := f7.ne r6_t
        have ne7_r := f7.ne r6_r
        have up7 : w.heap.size ≤ g7 := f7.up l6
        have bl7 := f7.bel
        clear f7
        have r8_t := le_on r6_t bl7
        have r8_r := le_on r6_r bl7
        have l8 := le_tr l6 bl7
        clear r6_t r6_r l6
        clear bl7
        go_wp2_with (first | ((with_reducible refine st_store 73 _ _ g7 (tA (Ty.mk S.wh S.vt (updI S.ep who x))) ?_ ?_ n7 ?_ ?_ ?_ ?_); exact rfl; exact rfl; exact Try.zTr; exact rfl; exact tA_one _))
        refine ⟨fun V9 n9 k9 => ?_⟩
        have m9_t := k9.on r8_t ne7_t
        have m9_r := k9.on r8_r ne7_r
        have o9 := k9.bel _ _ l8 up7
        clear k9
        clear n7 r8_t r8_r l8
        have cv : V9.cell? ⟨g7, 8 + who, none⟩ = some (.int .i64 ((Ty.mk S.wh S.vt (updI S.ep who x)).vt who)) := (CB.cell n9 (8 + who)).trans (tA_vt (Ty.mk S.wh S.vt (updI S.ep who x)) hlt)
        rw [show (Ty.mk S.wh S.vt (updI S.ep who x)).vt who = 0 from hy] at cv
        go_wp2_with (first | ((with_reducible refine st_part 38 _ g7 8 ?_ (pt := iA (Ty.mk S.wh S.vt (updI S.ep who x)).vt) n9 ?_ Try.underlying38 ?_ ?_ ?_); exact rfl; exact rfl; exact rfl; exact Try.zI8) | ((with_reducible refine st_alloc 38 (iA (fun _ => 0)) ?_ ?_); exact zero_i))
        refine ⟨fun V11 g11 n11 f11 => ?_⟩
        have ne11_t := f11.ne m9_t
        have ne11_r := f11.ne m9_r
        have ne11_h := f11.ne n9
        have up11 : w.heap.size ≤ g11 := f11.up o9
        have bl11 := f11.bel
        clear f11
        have r12_t := le_on m9_t bl11
        have r12_r := le_on m9_r bl11
        have r12_h := le_on n9 bl11
        have l12 := le_tr o9 bl11
        clear m9_t m9_r n9 o9
        clear bl11
        go_wp2_with (first | ((with_reducible refine st_store 38 _ _ g11 (iA (S.vt)) ?_ ?_ n11 ?_ ?_ ?_ ?_); exact rfl; exact rfl; exact Try.zI8; exact rfl; exact iA_one _))
        refine ⟨fun V13 n13 k13 => ?_⟩
        have m13_t := k13.on r12_t ne11_t
        have m13_r := k13.on r12_r ne11_r
        have m13_h := k13.on r12_h ne11_h
        have o13 := k13.bel _ _ l12 up11
        clear k13
        clear n11 r12_t r12_r r12_h l12
        go_wp2_with (first | ((with_reducible refine st_cell 3 _ _ g11 who (.int .i64 2) ?_ ?_ n13 (new := iA (updI S.vt who 2)) ?_ ?_ ?_ ?_ ?_ ?_); exact rfl; exact rfl; exact (by rw [iA_size]; omega); exact iA_set (S.vt) _ hlt; exact one_i; exact rfl; exact rfl))
        refine ⟨fun V14 n14 k14 => ?_⟩
        have m14_t := k14.on m13_t ne11_t
        have m14_r := k14.on m13_r ne11_r
        have m14_h := k14.on m13_h ne11_h
        have o14 := k14.bel _ _ o13 up11
        clear k14
        clear n13 m13_t m13_r m13_h o13
        go_wp2_with (first | ((with_reducible refine st_load 38 _ g11 ?_ n14 Try.underlying38 ?_ ?_ ?_); exact rfl; exact rfl; exact Try.zI8) | ((with_reducible refine st_mid 38 _ _ g7 8 (iA (updI S.vt who 2)) ?_ ?_ m14_h ?_ (new := tA (Ty.mk S.wh (updI S.vt who 2) (updI S.ep who x))) ?_ ?_ ?_ ?_); exact rfl; exact rfl; exact (by decide : 8 + 8 ≤ 24); exact tA_mvt _ _; exact Try.zI8; exact iA_one _))
        refine ⟨fun V15 n15 k15 => ?_⟩
        have m15_t := k15.on m14_t ne7_t
        have m15_r := k15.on m14_r ne7_r
        have m15_e := k15.on n14 (Ne.symm ne11_h)
        have o15 := k15.bel _ _ o14 up7
        clear k15
        clear m14_h m14_t m14_r n14 o14
        go_wp2_with (first | ((with_reducible refine st_load 73 _ g7 ?_ n15 Try.underlying73 ?_ ?_ ?_); exact rfl; exact rfl; exact Try.zTr) | ((with_reducible refine st_store 73 _ _ g3 (tA (Ty.mk S.wh (updI S.vt who 2) (updI S.ep who x))) ?_ ?_ m15_r ?_ ?_ ?_ ?_); exact rfl; exact rfl; exact Try.zTr; exact rfl; exact tA_one _))
        refine ⟨fun V16 n16 k16 => ?_⟩
        have m16_t := k16.on m15_t ne3_t
        have m16_h := k16.on n15 (Ne.symm ne7_r)
        have m16_e := k16.on m15_e (Ne.symm ne11_r)
        have o16 := k16.bel _ _ o15 up3
        clear k16
        clear m15_r m15_t n15 m15_e o15
        go_wp2_with fail
        exact bodyPost_ret (v := .tuple #[.agg (tA (Ty.mk S.wh (updI S.vt who 2) (updI S.ep who x))), .int .i64 0]) (res_two Try.results49 rfl rfl n16 Try.underlying73 rfl Try.zTr) rfl ⟨(by rw [HE.out, HS.out] <;> rfl), o16⟩
    · subst h0
      clear h3
      have hv' := hv
      obtain hv1 | hv2 : y = 1 ∨ y = 2 := by omega
      · subst hv1
        clear hv hv'
        go_enter Try.func49, Try.ntmps49
        go_wp2_with (first | ((with_reducible refine st_box 73 _ (tA S) ?_ ?_); exact rfl))
        refine ⟨fun V1 g1 n1 f1 => ?_⟩
        have up1 : w.heap.size ≤ g1 := Nat.le_of_eq f1.at_
        have bl1 := f1.bel
        clear f1
        have l2 := le_tr (Below.refl _ _) bl1
        clear bl1
        go_wp2_with (first | ((with_reducible refine st_alloc 73 (tA zeroY) ?_ ?_); exact zero_r))
        refine ⟨fun V3 g3 n3 f3 => ?_⟩
        have ne3_t := f3.ne n1
        have up3 : w.heap.size ≤ g3 := f3.up l2
        have bl3 := f3.bel
        clear f3
        have r4_t := le_on n1 bl3
        have l4 := le_tr l2 bl3
        clear n1 l2
        clear bl3
        go_wp2_with (first | ((with_reducible refine st_load 73 _ g1 ?_ r4_t Try.underlying73 ?_ ?_ ?_); exact rfl; exact rfl; exact Try.zTr))
        refine (H1 _).mono ?_
        rintro e w5 ⟨rfl, b5⟩
        have r6_t := le_on r4_t b5
        have r6_r := le_on n3 b5
        have l6 := le_tr l4 b5
        clear r4_t n3 l4
        clear b5
        go_wp2_with (first | ((with_reducible refine st_alloc 73 (tA zeroY) ?_ ?_); exact zero_r))
        refine ⟨fun V7 g7 n7 f7 => ?_⟩
        have ne7_t := f7.ne r6_t
        have ne7_r := f7.ne r6_r
        have up7 : w.heap.size ≤ g7 := f7.up l6
        have bl7 := f7.bel
        clear f7
        have r8_t := le_on r6_t bl7
        have r8_r := le_on r6_r bl7
        have l8 := le_tr l6 bl7
        clear r6_t r6_r l6
        clear bl7
        go_wp2_with (first | ((with_reducible refine st_store 73 _ _ g7 (tA (Ty.mk S.wh S.vt (updI S.ep who x))) ?_ ?_ n7 ?_ ?_ ?_ ?_); exact rfl; exact rfl; exact Try.zTr; exact rfl; exact tA_one _))
        refine ⟨fun V9 n9 k9 => ?_⟩
        have m9_t := k9.on r8_t ne7_t
        have m9_r := k9.on r8_r ne7_r
        have o9 := k9.bel _ _ l8 up7
        clear k9
        clear n7 r8_t r8_r l8
        have cv : V9.cell? ⟨g7, 8 + who, none⟩ = some (.int .i64 ((Ty.mk S.wh S.vt (updI S.ep who x)).vt who)) := (CB.cell n9 (8 + who)).trans (tA_vt (Ty.mk S.wh S.vt (updI S.ep who x)) hlt)
        rw [show (Ty.mk S.wh S.vt (updI S.ep who x)).vt who = 1 from hy] at cv
        go_wp2_with (first | ((with_reducible refine st_part 38 _ g7 8 ?_ (pt := iA (Ty.mk S.wh S.vt (updI S.ep who x)).vt) n9 ?_ Try.underlying38 ?_ ?_ ?_); exact rfl; exact rfl; exact rfl; exact Try.zI8) | ((with_reducible refine st_alloc 38 (iA (fun _ => 0)) ?_ ?_); exact zero_i))
        refine ⟨fun V11 g11 n11 f11 => ?_⟩
        have ne11_t := f11.ne m9_t
        have ne11_r := f11.ne m9_r
        have ne11_h := f11.ne n9
        have up11 : w.heap.size ≤ g11 := f11.up o9
        have bl11 := f11.bel
        clear f11
        have r12_t := le_on m9_t bl11
        have r12_r := le_on m9_r bl11
        have r12_h := le_on n9 bl11
        have l12 := le_tr o9 bl11
        clear m9_t m9_r n9 o9
        clear bl11
        go_wp2_with (first | ((with_reducible refine st_store 38 _ _ g11 (iA (S.vt)) ?_ ?_ n11 ?_ ?_ ?_ ?_); exact rfl; exact rfl; exact Try.zI8; exact rfl; exact iA_one _))
        refine ⟨fun V13 n13 k13 => ?_⟩
        have m13_t := k13.on r12_t ne11_t
        have m13_r := k13.on r12_r ne11_r
        have m13_h := k13.on r12_h ne11_h
        have o13 := k13.bel _ _ l12 up11
        clear k13
        clear n11 r12_t r12_r r12_h l12
        go_wp2_with (first | ((with_reducible refine st_cell 3 _ _ g11 who (.int .i64 1) ?_ ?_ n13 (new := iA (updI S.vt who 1)) ?_ ?_ ?_ ?_ ?_ ?_); exact rfl; exact rfl; exact (by rw [iA_size]; omega); exact iA_set (S.vt) _ hlt; exact one_i; exact rfl; exact rfl))
        refine ⟨fun V14 n14 k14 => ?_⟩
        have m14_t := k14.on m13_t ne11_t
        have m14_r := k14.on m13_r ne11_r
        have m14_h := k14.on m13_h ne11_h
        have o14 := k14.bel _ _ o13 up11
        clear k14
        clear n13 m13_t m13_r m13_h o13
        go_wp2_with (first | ((with_reducible refine st_load 38 _ g11 ?_ n14 Try.underlying38 ?_ ?_ ?_); exact rfl; exact rfl; exact Try.zI8) | ((with_reducible refine st_mid 38 _ _ g7 8 (iA (updI S.vt who 1)) ?_ ?_ m14_h ?_ (new := tA (Ty.mk S.wh (updI S.vt who 1) (updI S.ep who x))) ?_ ?_ ?_ ?_); exact rfl; exact rfl; exact (by decide : 8 + 8 ≤ 24); exact tA_mvt _ _; exact Try.zI8; exact iA_one _))
        refine ⟨fun V15 n15 k15 => ?_⟩
        have m15_t := k15.on m14_t ne7_t
        have m15_r := k15.on m14_r ne7_r
        have m15_e := k15.on n14 (Ne.symm ne11_h)
        have o15 := k15.bel _ _ o14 up7
        clear k15
        clear m14_h m14_t m14_r n14 o14
        go_wp2_with (first | ((with_reducible refine st_load 73 _ g7 ?_ n15 Try.underlying73 ?_ ?_ ?_); exact rfl; exact rfl; exact Try.zTr) | ((with_reducible refine st_store 73 _ _ g3 (tA (Ty.mk S.wh (updI S.vt who 1) (updI S.ep who x))) ?_ ?_ m15_r ?_ ?_ ?_ ?_); exact rfl; exact rfl; exact Try.zTr; exact rfl; exact tA_one _))
        refine ⟨fun V16 n16 k16 => ?_⟩
        have m16_t := k16.on m15_t ne3_t
        have m16_h := k16.on n15 (Ne.symm ne7_r)
        have m16_e := k16.on m15_e (Ne.symm ne11_r)
        have o16 := k16.bel _ _ o15 up3
        clear k16
        clear m15_r m15_t n15 m15_e o15
        go_wp2_with fail
        exact bodyPost_ret (v := .tuple #[.agg (tA (Ty.mk S.wh (updI S.vt who 1) (updI S.ep who x))), .int .i64 0]) (res_two Try.results49 rfl rfl n16 Try.underlying73 rfl Try.zTr) rfl ⟨(by rw [HE.out, HS.out] <;> rfl), o16⟩
      · subst hv2
        clear hv hv'
        go_enter Try.func49, Try.ntmps49
        go_wp2_with (first | ((with_reducible refine st_box 73 _ (tA S) ?_ ?_); exact rfl))
        refine ⟨fun V1 g1 n1 f1 => ?_⟩
        have up1 : w.heap.size ≤ g1 := Nat.le_of_eq f1.at_
        have bl1 := f1.bel
        clear f1
        have l2 := le_tr (Below.refl _ _) bl1
        clear bl1
        go_wp2_with (first | ((with_reducible refine st_alloc 73 (tA zeroY) ?_ ?_); exact zero_r))
        refine ⟨fun V3 g3 n3 f3 => ?_⟩
        have ne3_t := f3.ne n1
        have up3 : w.heap.size ≤ g3 := f3.up l2
        have bl3 := f3.bel
        clear f3
        have r4_t := le_on n1 bl3
        have l4 := le_tr l2 bl3
        clear n1 l2
        clear bl3
        go_wp2_with (first | ((with_reducible refine st_load 73 _ g1 ?_ r4_t Try.underlying73 ?_ ?_ ?_); exact rfl; exact rfl; exact Try.zTr))
        refine (H1 _).mono ?_
        rintro e w5 ⟨rfl, b5⟩
        have r6_t := le_on r4_t b5
        have r6_r := le_on n3 b5
        have l6 := le_tr l4 b5
        clear r4_t n3 l4
        clear b5
        go_wp2_with (first | ((with_reducible refine st_alloc 73 (tA zeroY) ?_ ?_); exact zero_r))
        refine ⟨fun V7 g7 n7 f7 => ?_⟩
        have ne7_t := f7.ne r6_t
        have ne7_r := f7.ne r6_r
        have up7 : w.heap.size ≤ g7 := f7.up l6
        have bl7 := f7.bel
        clear f7
        have r8_t := le_on r6_t bl7
        have r8_r := le_on r6_r bl7
        have l8 := le_tr l6 bl7
        clear r6_t r6_r l6
        clear bl7
        go_wp2_with (first | ((with_reducible refine st_store 73 _ _ g7 (tA (Ty.mk S.wh S.vt (updI S.ep who x))) ?_ ?_ n7 ?_ ?_ ?_ ?_); exact rfl; exact rfl; exact Try.zTr; exact rfl; exact tA_one _))
        refine ⟨fun V9 n9 k9 => ?_⟩
        have m9_t := k9.on r8_t ne7_t
        have m9_r := k9.on r8_r ne7_r
        have o9 := k9.bel _ _ l8 up7
        clear k9
        clear n7 r8_t r8_r l8
        have cv : V9.cell? ⟨g7, 8 + who, none⟩ = some (.int .i64 ((Ty.mk S.wh S.vt (updI S.ep who x)).vt who)) := (CB.cell n9 (8 + who)).trans (tA_vt (Ty.mk S.wh S.vt (updI S.ep who x)) hlt)
        rw [show (Ty.mk S.wh S.vt (updI S.ep who x)).vt who = 2 from hy] at cv
        go_wp2_with (first | ((with_reducible refine st_part 38 _ g7 8 ?_ (pt := iA (Ty.mk S.wh S.vt (updI S.ep who x)).vt) n9 ?_ Try.underlying38 ?_ ?_ ?_); exact rfl; exact rfl; exact rfl; exact Try.zI8) | ((with_reducible refine st_alloc 38 (iA (fun _ => 0)) ?_ ?_); exact zero_i))
        refine ⟨fun V11 g11 n11 f11 => ?_⟩
        have ne11_t := f11.ne m9_t
        have ne11_r := f11.ne m9_r
        have ne11_h := f11.ne n9
        have up11 : w.heap.size ≤ g11 := f11.up o9
        have bl11 := f11.bel
        clear f11
        have r12_t := le_on m9_t bl11
        have r12_r := le_on m9_r bl11
        have r12_h := le_on n9 bl11
        have l12 := le_tr o9 bl11
        clear m9_t m9_r n9 o9
        clear bl11
        go_wp2_with (first | ((with_reducible refine st_store 38 _ _ g11 (iA (S.vt)) ?_ ?_ n11 ?_ ?_ ?_ ?_); exact rfl; exact rfl; exact Try.zI8; exact rfl; exact iA_one _))
        refine ⟨fun V13 n13 k13 => ?_⟩
        have m13_t := k13.on r12_t ne11_t
        have m13_r := k13.on r12_r ne11_r
        have m13_h := k13.on r12_h ne11_h
        have o13 := k13.bel _ _ l12 up11
        clear k13
        clear n11 r12_t r12_r r12_h l12
        go_wp2_with (first | ((with_reducible refine st_cell 3 _ _ g11 who (.int .i64 2) ?_ ?_ n13 (new := iA (updI S.vt who 2)) ?_ ?_ ?_ ?_ ?_ ?_); exact rfl; exact rfl; exact (by rw [iA_size]; omega); exact iA_set (S.vt) _ hlt; exact one_i; exact rfl; exact rfl))
        refine ⟨fun V14 n14 k14 => ?_⟩
        have m14_t := k14.on m13_t ne11_t
        have m14_r := k14.on m13_r ne11_r
        have m14_h := k14.on m13_h ne11_h
        have o14 := k14.bel _ _ o13 up11
        clear k14
        clear n13 m13_t m13_r m13_h o13
        go_wp2_with (first | ((with_reducible refine st_load 38 _ g11 ?_ n14 Try.underlying38 ?_ ?_ ?_); exact rfl; exact rfl; exact Try.zI8) | ((with_reducible refine st_mid 38 _ _ g7 8 (iA (updI S.vt who 2)) ?_ ?_ m14_h ?_ (new := tA (Ty.mk S.wh (updI S.vt who 2) (updI S.ep who x))) ?_ ?_ ?_ ?_); exact rfl; exact rfl; exact (by decide : 8 + 8 ≤ 24); exact tA_mvt _ _; exact Try.zI8; exact iA_one _))
        refine ⟨fun V15 n15 k15 => ?_⟩
        have m15_t := k15.on m14_t ne7_t
        have m15_r := k15.on m14_r ne7_r
        have m15_e := k15.on n14 (Ne.symm ne11_h)
        have o15 := k15.bel _ _ o14 up7
        clear k15
        clear m14_h m14_t m14_r n14 o14
        go_wp2_with (first | ((with_reducible refine st_load 73 _ g7 ?_ n15 Try.underlying73 ?_ ?_ ?_); exact rfl; exact rfl; exact Try.zTr) | ((with_reducible refine st_store 73 _ _ g3 (tA (Ty.mk S.wh (updI S.vt who 2) (updI S.ep who x))) ?_ ?_ m15_r ?_ ?_ ?_ ?_); exact rfl; exact rfl; exact Try.zTr; exact rfl; exact tA_one _))
        refine ⟨fun V16 n16 k16 => ?_⟩
        have m16_t := k16.on m15_t ne3_t
        have m16_h := k16.on n15 (Ne.symm ne7_r)
        have m16_e := k16.on m15_e (Ne.symm ne11_r)
        have o16 := k16.bel _ _ o15 up3
        clear k16
        clear m15_r m15_t n15 m15_e o15
        go_wp2_with fail
        exact bodyPost_ret (v := .tuple #[.agg (tA (Ty.mk S.wh (updI S.vt who 2) (updI S.ep who x))), .int .i64 0]) (res_two Try.results49 rfl rfl n16 Try.underlying73 rfl Try.zTr) rfl ⟨(by rw [HE.out, HS.out] <;> rfl), o16⟩
  have HE := Lib.hid (ePut_h (S := S) (who := who) (x := x) hv he)
  have HS := Lib.hid (sPut_n (S := S) (who := who) (x := x) (v := v) (by rw [HE.out]; exact he))
  rw [sHear_n he] at H1
  obtain ⟨m, hm⟩ : ∃ m : Nat, eHear S who x = m := ⟨_, rfl⟩
  rw [hm] at H1 he
  have HE := Lib.hid (HE.out.trans hm)
  have q5 : ((m : Int) != 0) = true := by simp [he]
  have q6 : (m != 0) = true := by simp [he]
  clear hm
  obtain hv1 | hv2 : v = 1 ∨ v = 2 := by omega
  · subst hv1
    clear hv he
    go_enter Try.func49, Try.ntmps49
    go_wp2_with (first | ((with_reducible refine st_box 73 _ (tA S) ?_ ?_); exact rfl))
    refine ⟨fun V1 g1 n1 f1 => ?_⟩
    have up1 : w.heap.size ≤ g1 := Nat.le_of_eq f1.at_
    have bl1 := f1.bel
    clear f1
    have l2 := le_tr (Below.refl _ _) bl1
    clear bl1
    go_wp2_with (first | ((with_reducible refine st_alloc 73 (tA zeroY) ?_ ?_); exact zero_r))
    refine ⟨fun V3 g3 n3 f3 => ?_⟩
    have ne3_t := f3.ne n1
    have up3 : w.heap.size ≤ g3 := f3.up l2
    have bl3 := f3.bel
    clear f3
    have r4_t := le_on n1 bl3
    have l4 := le_tr l2 bl3
    clear n1 l2
    clear bl3
    go_wp2_with (first | ((with_reducible refine st_load 73 _ g1 ?_ r4_t Try.underlying73 ?_ ?_ ?_); exact rfl; exact rfl; exact Try.zTr))
    refine (H1 _).mono ?_
    rintro e w5 ⟨rfl, b5⟩
    have r6_t := le_on r4_t b5
    have r6_r := le_on n3 b5
    have l6 := le_tr l4 b5
    clear r4_t n3 l4
    clear b5
    go_wp2_with (first | ((with_reducible refine st_alloc 73 (tA zeroY) ?_ ?_); exact zero_r))
    refine ⟨fun V7 g7 n7 f7 => ?_⟩
    have ne7_t := f7.ne r6_t
    have ne7_r := f7.ne r6_r
    have up7 : w.heap.size ≤ g7 := f7.up l6
    have bl7 := f7.bel
    clear f7
    have r8_t := le_on r6_t bl7
    have r8_r := le_on r6_r bl7
    have l8 := le_tr l6 bl7
    clear r6_t r6_r l6
    clear bl7
    go_wp2_with (first | ((with_reducible refine st_store 73 _ _ g7 (tA S) ?_ ?_ n7 ?_ ?_ ?_ ?_); exact rfl; exact rfl; exact Try.zTr; exact rfl; exact tA_one _))
    refine ⟨fun V9 n9 k9 => ?_⟩
    have m9_t := k9.on r8_t ne7_t
    have m9_r := k9.on r8_r ne7_r
    have o9 := k9.bel _ _ l8 up7
    clear k9
    clear n7 r8_t r8_r l8
    go_wp2_with (first | ((with_reducible refine st_load 73 _ g1 ?_ m9_t Try.underlying73 ?_ ?_ ?_); exact rfl; exact rfl; exact Try.zTr) | ((with_reducible refine st_store 73 _ _ g3 (tA S) ?_ ?_ m9_r ?_ ?_ ?_ ?_); exact rfl; exact rfl; exact Try.zTr; exact rfl; exact tA_one _))
    refine ⟨fun V10 n10 k10 => ?_⟩
    have m10_t := k10.on m9_t ne3_t
    have m10_h := k10.on n9 (Ne.symm ne7_r)
    have o10 := k10.bel _ _ o9 up3
    clear k10
    clear m9_r m9_t n9 o9
    go_wp2_with fail
    exact bodyPost_ret (v := .tuple #[.agg (tA S), .int .i64 (m : Int)]) (res_two Try.results49 rfl rfl n10 Try.underlying73 rfl Try.zTr) rfl ⟨(by rw [HE.out, HS.out] <;> rfl), o10⟩
  · subst hv2
    clear hv he
    go_enter Try.func49, Try.ntmps49
    go_wp2_with (first | ((with_reducible refine st_box 73 _ (tA S) ?_ ?_); exact rfl))
    refine ⟨fun V1 g1 n1 f1 => ?_⟩
    have up1 : w.heap.size ≤ g1 := Nat.le_of_eq f1.at_
    have bl1 := f1.bel
    clear f1
    have l2 := le_tr (Below.refl _ _) bl1
    clear bl1
    go_wp2_with (first | ((with_reducible refine st_alloc 73 (tA zeroY) ?_ ?_); exact zero_r))
    refine ⟨fun V3 g3 n3 f3 => ?_⟩
    have ne3_t := f3.ne n1
    have up3 : w.heap.size ≤ g3 := f3.up l2
    have bl3 := f3.bel
    clear f3
    have r4_t := le_on n1 bl3
    have l4 := le_tr l2 bl3
    clear n1 l2
    clear bl3
    go_wp2_with (first | ((with_reducible refine st_load 73 _ g1 ?_ r4_t Try.underlying73 ?_ ?_ ?_); exact rfl; exact rfl; exact Try.zTr))
    refine (H1 _).mono ?_
    rintro e w5 ⟨rfl, b5⟩
    have r6_t := le_on r4_t b5
    have r6_r := le_on n3 b5
    have l6 := le_tr l4 b5
    clear r4_t n3 l4
    clear b5
    go_wp2_with (first | ((with_reducible refine st_alloc 73 (tA zeroY) ?_ ?_); exact zero_r))
    refine ⟨fun V7 g7 n7 f7 => ?_⟩
    have ne7_t := f7.ne r6_t
    have ne7_r := f7.ne r6_r
    have up7 : w.heap.size ≤ g7 := f7.up l6
    have bl7 := f7.bel
    clear f7
    have r8_t := le_on r6_t bl7
    have r8_r := le_on r6_r bl7
    have l8 := le_tr l6 bl7
    clear r6_t r6_r l6
    clear bl7
    go_wp2_with (first | ((with_reducible refine st_store 73 _ _ g7 (tA S) ?_ ?_ n7 ?_ ?_ ?_ ?_); exact rfl; exact rfl; exact Try.zTr; exact rfl; exact tA_one _))
    refine ⟨fun V9 n9 k9 => ?_⟩
    have m9_t := k9.on r8_t ne7_t
    have m9_r := k9.on r8_r ne7_r
    have o9 := k9.bel _ _ l8 up7
    clear k9
    clear n7 r8_t r8_r l8
    go_wp2_with (first | ((with_reducible refine st_load 73 _ g1 ?_ m9_t Try.underlying73 ?_ ?_ ?_); exact rfl; exact rfl; exact Try.zTr) | ((with_reducible refine st_store 73 _ _ g3 (tA S) ?_ ?_ m9_r ?_ ?_ ?_ ?_); exact rfl; exact rfl; exact Try.zTr; exact rfl; exact tA_one _))
    refine ⟨fun V10 n10 k10 => ?_⟩
    have m10_t := k10.on m9_t ne3_t
    have m10_h := k10.on n9 (Ne.symm ne7_r)
    have o10 := k10.bel _ _ o9 up3
    clear k10
    clear m9_r m9_t n9 o9
    go_wp2_with fail
    exact bodyPost_ret (v := .tuple #[.agg (tA S), .int .i64 (m : Int)]) (res_two Try.results49 rfl rfl n10 Try.underlying73 rfl Try.zTr) rfl ⟨(by rw [HE.out, HS.out] <;> rfl), o10⟩
end Go.Proofs.Ytjfmahceolhfnaa
