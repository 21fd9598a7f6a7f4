/-
  The document's layer 14: Hear. No condition.
-/
import Derived.Test.YtjfmahceolhfnaaTyF
set_option linter.unusedVariables false
set_option linter.unusedSimpArgs false
namespace Go.Proofs.Ytjfmahceolhfnaa
open Go.RowKit

set_option maxRecDepth 100000 in
set_option maxHeartbeats 4000000 in
theorem hear_r (S : Ty) (who : Nat) (x : Int) (w : World) : Calls Try.prog 47 #[.agg (tA S), .int .u8 (who : Int), .int .i64 x] w fun r w' => r = .returned (.tuple #[.agg (tA (sHear S who x)), .int .i64 ((eHear S who x : Nat) : Int)]) ∧ Below w.heap.size w w' := by
  have R1 := fun W => right_r S W
  by_cases hx : rightY S = false ∨ x < 1 ∨ 1048576 < x
  · have HE := Lib.hid (eHear_2 (who := who) hx)
    have HS := Lib.hid (sHear_n (S := S) (who := who) (x := x) (by rw [eHear_2 hx]; decide))
    cases hr : rightY S with
    | false =>
      rw [hr] at R1
      clear hr hx
      go_enter Try.func47, Try.ntmps47
      go_wp2_with (first | ((with_reducible refine st_box 73 _ (tA S) ?_ ?_); exact rfl))
      refine ⟨fun V1 g1 n1 f1 => ?_⟩
      have up1 : w.heap.size ≤ g1 := Nat.le_of_eq f1.at_
      have bl1 := f1.bel
      clear f1
      have l2 := le_tr (Below.refl _ _) bl1
      clear bl1
      go_wp2_with (first | ((with_reducible refine st_alloc 73 (tA zeroY) ?_ ?_); exact zero_r))
      refine ⟨fun V3 g3 n3 f3 => ?_⟩
      have ne3_t := f3.ne n1
      have up3 : w.heap.size ≤ g3 := f3.up l2
      have bl3 := f3.bel
      clear f3
      have r4_t := le_on n1 bl3
      have l4 := le_tr l2 bl3
      clear n1 l2
      clear bl3
      go_wp2_with (first | ((with_reducible refine st_load 73 _ g1 ?_ r4_t Try.underlying73 ?_ ?_ ?_); exact rfl; exact rfl; exact Try.zTr))
      refine (R1 _).mono ?_
      rintro e w5 ⟨rfl, b5⟩
      have r6_t := le_on r4_t b5
      have r6_r := le_on n3 b5
      have l6 := le_tr l4 b5
      clear r4_t n3 l4
      clear b5
      go_wp2_with (first | ((with_reducible refine st_load 73 _ g1 ?_ r6_t Try.underlying73 ?_ ?_ ?_); exact rfl; exact rfl; exact Try.zTr) | ((with_reducible refine st_store 73 _ _ g3 (tA S) ?_ ?_ r6_r ?_ ?_ ?_ ?_); exact rfl; exact rfl; exact Try.zTr; exact rfl; exact tA_one _))
      refine ⟨fun V7 n7 k7 => ?_⟩
      have m7_t := k7.on r6_t ne3_t
      have o7 := k7.bel _ _ l6 up3
      clear k7
      clear r6_r r6_t l6
      go_wp2_with fail
      exact bodyPost_ret (v := .tuple #[.agg (tA S), .int .i64 2]) (res_two Try.results47 rfl rfl n7 Try.underlying73 rfl Try.zTr) rfl ⟨(by rw [HE.out, HS.out] <;> rfl), o7⟩
    | true =>
      rw [hr] at R1
      by_cases h1 : x < 1
      · have q1 : decide (x < 1) = true := by simp; omega
        clear hr hx
        go_enter Try.func47, Try.ntmps47
        go_wp2_with (first | ((with_reducible refine st_box 73 _ (tA S) ?_ ?_); exact rfl))
        refine ⟨fun V1 g1 n1 f1 => ?_⟩
        have up1 : w.heap.size ≤ g1 := Nat.le_of_eq f1.at_
        have bl1 := f1.bel
        clear f1
        have l2 := le_tr (Below.refl _ _) bl1
        clear bl1
        go_wp2_with (first | ((with_reducible refine st_alloc 73 (tA zeroY) ?_ ?_); exact zero_r))
        refine ⟨fun V3 g3 n3 f3 => ?_⟩
        have ne3_t := f3.ne n1
        have up3 : w.heap.size ≤ g3 := f3.up l2
        have bl3 := f3.bel
        clear f3
        have r4_t := le_on n1 bl3
        have l4 := le_tr l2 bl3
        clear n1 l2
        clear bl3
        go_wp2_with (first | ((with_reducible refine st_load 73 _ g1 ?_ r4_t Try.underlying73 ?_ ?_ ?_); exact rfl; exact rfl; exact Try.zTr))
        refine (R1 _).mono ?_
        rintro e w5 ⟨rfl, b5⟩
        have r6_t := le_on r4_t b5
        have r6_r := le_on n3 b5
        have l6 := le_tr l4 b5
        clear r4_t n3 l4
        clear b5
        go_wp2_with (first | ((with_reducible refine st_load 73 _ g1 ?_ r6_t Try.underlying73 ?_ ?_ ?_); exact rfl; exact rfl; exact Try.zTr) | ((with_reducible refine st_store 73 _ _ g3 (tA S) ?_ ?_ r6_r ?_ ?_ ?_ ?_); exact rfl; exact rfl; exact Try.zTr; exact rfl; exact tA_one _))
        refine ⟨fun V7 n7 k7 => ?_⟩
        have m7_t := k7.on r6_t ne3_t
        have o7 := k7.bel _ _ l6 up3
        clear k7
        clear r6_r r6_t l6
        go_wp2_with fail
        exact bodyPost_ret (v := .tuple #[.agg (tA S), .int .i64 2]) (res_two Try.results47 rfl rfl n7 Try.underlying73 rfl Try.zTr) rfl ⟨(by rw [HE.out, HS.out] <;> rfl), o7⟩
      have q1 : decide (x < 1) = false := by simp; omega
      have q2 : decide (1048576 < x) = true := by rw [hr] at hx; simp at hx ⊢; omega
      clear hr hx
      go_enter Try.func47, Try.ntmps47
      go_wp2_with (first | ((with_reducible refine st_box 73 _ (tA S) ?_ ?_); exact rfl))
      refine ⟨fun V1 g1 n1 f1 => ?_⟩
      have up1 : w.heap.size ≤ g1 := Nat.le_of_eq f1.at_
      have bl1 := f1.bel
      clear f1
      have l2 := le_tr (Below.refl _ _) bl1
      clear bl1
      go_wp2_with (first | ((with_reducible refine st_alloc 73 (tA zeroY) ?_ ?_); exact zero_r))
      refine ⟨fun V3 g3 n3 f3 => ?_⟩
      have ne3_t := f3.ne n1
      have up3 : w.heap.size ≤ g3 := f3.up l2
      have bl3 := f3.bel
      clear f3
      have r4_t := le_on n1 bl3
      have l4 := le_tr l2 bl3
      clear n1 l2
      clear bl3
      go_wp2_with (first | ((with_reducible refine st_load 73 _ g1 ?_ r4_t Try.underlying73 ?_ ?_ ?_); exact rfl; exact rfl; exact Try.zTr))
      refine (R1 _).mono ?_
      rintro e w5 ⟨rfl, b5⟩
      have r6_t := le_on r4_t b5
      have r6_r := le_on n3 b5
      have l6 := le_tr l4 b5
      clear r4_t n3 l4
      clear b5
      go_wp2_with (first | ((with_reducible refine st_load 73 _ g1 ?_ r6_t Try.underlying73 ?_ ?_ ?_); exact rfl; exact rfl; exact Try.zTr) | ((with_reducible refine st_store 73 _ _ g3 (tA S) ?_ ?_ r6_r ?_ ?_ ?_ ?_); exact rfl; exact rfl; exact Try.zTr; exact rfl; exact tA_one _))
      refine ⟨fun V7 n7 k7 => ?_⟩
      have m7_t := k7.on r6_t ne3_t
      have o7 := k7.bel _ _ l6 up3
      clear k7
      clear r6_r r6_t l6
      go_wp2_with fail
      exact bodyPost_ret (v := .tuple #[.agg (tA S), .int .i64 2]) (res_two Try.results47 rfl rfl n7 Try.underlying73 rfl Try.zTr) rfl ⟨(by rw [HE.out, HS.out] <;> rfl), o7⟩
  have hr : rightY S = true := by simp at hx; exact hx.1
  rw [hr] at R1
  have x1 : 1 ≤ x := by simp at hx; omega
  have x2 : x ≤ 1048576 := by simp at hx; omega
  have q1 : decide (x < 1) = false := by simp; omega
  have q2 : decide (1048576 < x) = false := by simp; omega
  by_cases h8 : 8 ≤ who
  · have HE := Lib.hid (eHear_7 hx (.inl h8))
    have HS := Lib.hid (sHear_n (S := S) (who := who) (x := x) (by rw [eHear_7 hx (.inl h8)]; decide))
    have q8 : decide (8 ≤ who) = true := by simp; omega
    have q8i : decide ((8 : Int) ≤ (who : Int)) = true := by simp; omega
    clear hr hx
    go_enter Try.func47, Try.ntmps47
    go_wp2_with (first | ((with_reducible refine st_box 73 _ (tA S) ?_ ?_); exact rfl))
    refine ⟨fun V1 g1 n1 f1 => ?_⟩
    have up1 : w.heap.size ≤ g1 := Nat.le_of_eq f1.at_
    have bl1 := f1.bel
    clear f1
    have l2 := le_tr (Below.refl _ _) bl1
    clear bl1
    go_wp2_with (first | ((with_reducible refine st_alloc 73 (tA zeroY) ?_ ?_); exact zero_r))
    refine ⟨fun V3 g3 n3 f3 => ?_⟩
    have ne3_t := f3.ne n1
    have up3 : w.heap.size ≤ g3 := f3.up l2
    have bl3 := f3.bel
    clear f3
    have r4_t := le_on n1 bl3
    have l4 := le_tr l2 bl3
    clear n1 l2
    clear bl3
    go_wp2_with (first | ((with_reducible refine st_load 73 _ g1 ?_ r4_t Try.underlying73 ?_ ?_ ?_); exact rfl; exact rfl; exact Try.zTr))
    refine (R1 _).mono ?_
    rintro e w5 ⟨rfl, b5⟩
    have r6_t := le_on r4_t b5
    have r6_r := le_on n3 b5
    have l6 := le_tr l4 b5
    clear r4_t n3 l4
    clear b5
    go_wp2_with (first | ((with_reducible refine st_load 73 _ g1 ?_ r6_t Try.underlying73 ?_ ?_ ?_); exact rfl; exact rfl; exact Try.zTr) | ((with_reducible refine st_store 73 _ _ g3 (tA S) ?_ ?_ r6_r ?_ ?_ ?_ ?_); exact rfl; exact rfl; exact Try.zTr; exact rfl; exact tA_one _))
    refine ⟨fun V7 n7 k7 => ?_⟩
    have m7_t := k7.on r6_t ne3_t
    have o7 := k7.bel _ _ l6 up3
    clear k7
    clear r6_r r6_t l6
    go_wp2_with fail
    exact bodyPost_ret (v := .tuple #[.agg (tA S), .int .i64 7]) (res_two Try.results47 rfl rfl n7 Try.underlying73 rfl Try.zTr) rfl ⟨(by rw [HE.out, HS.out] <;> rfl), o7⟩
  have q8 : decide (8 ≤ who) = false := by simp; omega
  have q8i : decide ((8 : Int) ≤ (who : Int)) = false := by simp; omega
  have hlt : who < 8 := by omega
  have j1 : (who : Int) < 8 := by omega
  have j2 : (0 : Int) ≤ (who : Int) := by omega
  obtain ⟨b, hb⟩ : ∃ b, S.wh who = b := ⟨_, rfl⟩
  cases b with
  | false =>
    have HE := Lib.hid (eHear_7 hx (.inr hb))
    have HS := Lib.hid (sHear_n (S := S) (who := who) (x := x) (by rw [eHear_7 hx (.inr hb)]; decide))
    clear hr hx
    go_enter Try.func47, Try.ntmps47
    go_wp2_with (first | ((with_reducible refine st_box 73 _ (tA S) ?_ ?_); exact rfl))
    refine ⟨fun V1 g1 n1 f1 => ?_⟩
    have up1 : w.heap.size ≤ g1 := Nat.le_of_eq f1.at_
    have bl1 := f1.bel
    clear f1
    have l2 := le_tr (Below.refl _ _) bl1
    clear bl1
    go_wp2_with (first | ((with_reducible refine st_alloc 73 (tA zeroY) ?_ ?_); exact zero_r))
    refine ⟨fun V3 g3 n3 f3 => ?_⟩
    have ne3_t := f3.ne n1
    have up3 : w.heap.size ≤ g3 := f3.up l2
    have bl3 := f3.bel
    clear f3
    have r4_t := le_on n1 bl3
    have l4 := le_tr l2 bl3
    clear n1 l2
    clear bl3
    go_wp2_with (first | ((with_reducible refine st_load 73 _ g1 ?_ r4_t Try.underlying73 ?_ ?_ ?_); exact rfl; exact rfl; exact Try.zTr))
    refine (R1 _).mono ?_
    rintro e w5 ⟨rfl, b5⟩
    have r6_t := le_on r4_t b5
    have r6_r := le_on n3 b5
    have l6 := le_tr l4 b5
    clear r4_t n3 l4
    clear b5
    have cw : w5.cell? ⟨g1, who, none⟩ = some (.bool (S.wh who)) := (CB.cell r6_t (who)).trans (tA_wh S hlt)
    rw [hb] at cw
    go_wp2_with (first | ((with_reducible refine st_load 73 _ g1 ?_ r6_t Try.underlying73 ?_ ?_ ?_); exact rfl; exact rfl; exact Try.zTr) | ((with_reducible refine st_store 73 _ _ g3 (tA S) ?_ ?_ r6_r ?_ ?_ ?_ ?_); exact rfl; exact rfl; exact Try.zTr; exact rfl; exact tA_one _))
    refine ⟨fun V8 n8 k8 => ?_⟩
    have m8_t := k8.on r6_t ne3_t
    have o8 := k8.bel _ _ l6 up3
    clear k8
    clear r6_r r6_t l6
    go_wp2_with fail
    exact bodyPost_ret (v := .tuple #[.agg (tA S), .int .i64 7]) (res_two Try.results47 rfl rfl n8 Try.underlying73 rfl Try.zTr) rfl ⟨(by rw [HE.out, HS.out] <;> rfl), o8⟩
  | true =>
    have hw : ¬ (8 ≤ who ∨ S.wh who = false) := by simp [hb]; omega
    obtain ⟨y, hy⟩ : ∃ y, S.ep who = y := ⟨_, rfl⟩
    by_cases h3 : x < y
    · have HE := Lib.hid (eHear_10 hx hw (by rw [hy]; exact h3))
      have HS := Lib.hid (sHear_n (S := S) (who := who) (x := x) (by rw [HE.out]; decide))
      clear hr hx hw
      go_enter Try.func47, Try.ntmps47
      go_wp2_with (first | ((with_reducible refine st_box 73 _ (tA S) ?_ ?_); exact rfl))
      refine ⟨fun V1 g1 n1 f1 => ?_⟩
      have up1 : w.heap.size ≤ g1 := Nat.le_of_eq f1.at_
      have bl1 := f1.bel
      clear f1
      have l2 := le_tr (Below.refl _ _) bl1
      clear bl1
      go_wp2_with (first | ((with_reducible refine st_alloc 73 (tA zeroY) ?_ ?_); exact zero_r))
      refine ⟨fun V3 g3 n3 f3 => ?_⟩
      have ne3_t := f3.ne n1
      have up3 : w.heap.size ≤ g3 := f3.up l2
      have bl3 := f3.bel
      clear f3
      have r4_t := le_on n1 bl3
      have l4 := le_tr l2 bl3
      clear n1 l2
      clear bl3
      go_wp2_with (first | ((with_reducible refine st_load 73 _ g1 ?_ r4_t Try.underlying73 ?_ ?_ ?_); exact rfl; exact rfl; exact Try.zTr))
      refine (R1 _).mono ?_
      rintro e w5 ⟨rfl, b5⟩
      have r6_t := le_on r4_t b5
      have r6_r := le_on n3 b5
      have l6 := le_tr l4 b5
      clear r4_t n3 l4
      clear b5
      have cw : w5.cell? ⟨g1, who, none⟩ = some (.bool (S.wh who)) := (CB.cell r6_t (who)).trans (tA_wh S hlt)
      rw [hb] at cw
      have ce : w5.cell? ⟨g1, 16 + who, none⟩ = some (.int .i64 (S.ep who)) := (CB.cell r6_t (16 + who)).trans (tA_ep S hlt)
      rw [hy] at ce
      go_wp2_with (first | ((with_reducible refine st_load 73 _ g1 ?_ r6_t Try.underlying73 ?_ ?_ ?_); exact rfl; exact rfl; exact Try.zTr) | ((with_reducible refine st_store 73 _ _ g3 (tA S) ?_ ?_ r6_r ?_ ?_ ?_ ?_); exact rfl; exact rfl; exact Try.zTr; exact rfl; exact tA_one _))
      refine ⟨fun V9 n9 k9 => ?_⟩
      have m9_t := k9.on r6_t ne3_t
      have o9 := k9.bel _ _ l6 up3
      clear k9
      clear r6_r r6_t l6
      go_wp2_with fail
      exact bodyPost_ret (v := .tuple #[.agg (tA S), .int .i64 10]) (res_two Try.results47 rfl rfl n9 Try.underlying73 rfl Try.zTr) rfl ⟨(by rw [HE.out, HS.out] <;> rfl), o9⟩
    have HE := Lib.hid (eHear_0 hx hw (by rw [hy]; exact h3))
    have HS := Lib.hid (sHear_z HE.out)
    clear hr hx hw
    go_enter Try.func47, Try.ntmps47
    go_wp2_with (first | ((with_reducible refine st_box 73 _ (tA S) ?_ ?_); exact rfl))
    refine ⟨fun V1 g1 n1 f1 => ?_⟩
    have up1 : w.heap.size ≤ g1 := Nat.le_of_eq f1.at_
    have bl1 := f1.bel
    clear f1
    have l2 := le_tr (Below.refl _ _) bl1
    clear bl1
    go_wp2_with (first | ((with_reducible refine st_alloc 73 (tA zeroY) ?_ ?_); exact zero_r))
    refine ⟨fun V3 g3 n3 f3 => ?_⟩
    have ne3_t := f3.ne n1
    have up3 : w.heap.size ≤ g3 := f3.up l2
    have bl3 := f3.bel
    clear f3
    have r4_t := le_on n1 bl3
    have l4 := le_tr l2 bl3
    clear n1 l2
    clear bl3
    go_wp2_with (first | ((with_reducible refine st_load 73 _ g1 ?_ r4_t Try.underlying73 ?_ ?_ ?_); exact rfl; exact rfl; exact Try.zTr))
    refine (R1 _).mono ?_
    rintro e w5 ⟨rfl, b5⟩
    have r6_t := le_on r4_t b5
    have r6_r := le_on n3 b5
    have l6 := le_tr l4 b5
    clear r4_t n3 l4
    clear b5
    have cw : w5.cell? ⟨g1, who, none⟩ = some (.bool (S.wh who)) := (CB.cell r6_t (who)).trans (tA_wh S hlt)
    rw [hb] at cw
    have ce : w5.cell? ⟨g1, 16 + who, none⟩ = some (.int .i64 (S.ep who)) := (CB.cell r6_t (16 + who)).trans (tA_ep S hlt)
    rw [hy] at ce
    go_wp2_with (first | ((with_reducible refine st_part 38 _ g1 16 ?_ (pt := iA S.ep) r6_t ?_ Try.underlying38 ?_ ?_ ?_); exact rfl; exact rfl; exact rfl; exact Try.zI8) | ((with_reducible refine st_alloc 38 (iA (fun _ => 0)) ?_ ?_); exact zero_i))
    refine ⟨fun V9 g9 n9 f9 => ?_⟩
    have ne9_t := f9.ne r6_t
    have ne9_r := f9.ne r6_r
    have up9 : w.heap.size ≤ g9 := f9.up l6
    have bl9 := f9.bel
    clear f9
    have r10_t := le_on r6_t bl9
    have r10_r := le_on r6_r bl9
    have l10 := le_tr l6 bl9
    clear r6_t r6_r l6
    clear bl9
    go_wp2_with (first | ((with_reducible refine st_store 38 _ _ g9 (iA (S.ep)) ?_ ?_ n9 ?_ ?_ ?_ ?_); exact rfl; exact rfl; exact Try.zI8; exact rfl; exact iA_one _))
    refine ⟨fun V11 n11 k11 => ?_⟩
    have m11_t := k11.on r10_t ne9_t
    have m11_r := k11.on r10_r ne9_r
    have o11 := k11.bel _ _ l10 up9
    clear k11
    clear n9 r10_t r10_r l10
    go_wp2_with (first | ((with_reducible refine st_cell 3 _ _ g9 who (.int .i64 x) ?_ ?_ n11 (new := iA (updI S.ep who x)) ?_ ?_ ?_ ?_ ?_ ?_); exact rfl; exact rfl; exact (by rw [iA_size]; omega); exact iA_set (S.ep) _ hlt; exact one_i; exact rfl; exact rfl))
    refine ⟨fun V12 n12 k12 => ?_⟩
    have m12_t := k12.on m11_t ne9_t
    have m12_r := k12.on m11_r ne9_r
    have o12 := k12.bel _ _ o11 up9
    clear k12
    clear n11 m11_t m11_r o11
    go_wp2_with (first | ((with_reducible refine st_load 38 _ g9 ?_ n12 Try.underlying38 ?_ ?_ ?_); exact rfl; exact rfl; exact Try.zI8) | ((with_reducible refine st_mid 38 _ _ g1 16 (iA (updI S.ep who x)) ?_ ?_ m12_t ?_ (new := tA (Ty.mk S.wh S.vt (updI S.ep who x))) ?_ ?_ ?_ ?_); exact rfl; exact rfl; exact (by decide : 16 + 8 ≤ 24); exact tA_mep _ _; exact Try.zI8; exact iA_one _))
    refine ⟨fun V13 n13 k13 => ?_⟩
    have m13_r := k13.on m12_r (Ne.symm ne3_t)
    have m13_e := k13.on n12 (Ne.symm ne9_t)
    have o13 := k13.bel _ _ o12 up1
    clear k13
    clear m12_t m12_r n12 o12
    go_wp2_with (first | ((with_reducible refine st_load 73 _ g1 ?_ n13 Try.underlying73 ?_ ?_ ?_); exact rfl; exact rfl; exact Try.zTr) | ((with_reducible refine st_store 73 _ _ g3 (tA (Ty.mk S.wh S.vt (updI S.ep who x))) ?_ ?_ m13_r ?_ ?_ ?_ ?_); exact rfl; exact rfl; exact Try.zTr; exact rfl; exact tA_one _))
    refine ⟨fun V14 n14 k14 => ?_⟩
    have m14_t := k14.on n13 ne3_t
    have m14_e := k14.on m13_e (Ne.symm ne9_r)
    have o14 := k14.bel _ _ o13 up3
    clear k14
    clear m13_r n13 m13_e o13
    go_wp2_with fail
    exact bodyPost_ret (v := .tuple #[.agg (tA (Ty.mk S.wh S.vt (updI S.ep who x))), .int .i64 0]) (res_two Try.results47 rfl rfl n14 Try.underlying73 rfl Try.zTr) rfl ⟨(by rw [HE.out, HS.out] <;> rfl), o14⟩
end Go.Proofs.Ytjfmahceolhfnaa
