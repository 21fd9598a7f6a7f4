/-
  The law TallyCalls, walked. Condition: the list can be read.
-/
import Derived.Test.YtjooceaclfdjjaaTyL
import Derived.Test.YtjooceaclfdjjaaTyI
import Derived.Test.YtjooceaclfdjjaaTyK
set_option linter.unusedVariables false
set_option linter.unusedSimpArgs false
namespace Go.Proofs.Ytjooceaclfdjjaa
open Go.RowKit

set_option maxRecDepth 100000 in
set_option maxHeartbeats 4000000 in
theorem calls_walk (S : Ty) (a : Ay) (A : Option Addr) (n c : Nat) (L : List Nat) (w : World) (h : RR w uc 1 A n c L) : Calls Try.prog 3 #[.agg (tA S), .agg (aA a), .slice A n c] w fun r w' => r = .returned (.bool true) ∧ Below w.heap.size w w' := by
  have hl := h.len
  have hmx : n ≤ maxLen := Nat.le_trans h.cap h.max
  simp only [maxLen] at hmx
  have ru := RU.start h
  clear h
  by_cases h1 : 100 < n
  · have q1 : decide (100 < n) = true := by simp; omega
    have q1i : decide ((100 : Int) < (n : Int)) = true := by simp; omega
    go_enter Try.func3, Try.ntmps3
    go_wp2_with (first | ((with_reducible refine st_box 25 _ (tA S) ?_ ?_); exact rfl))
    refine ⟨fun V1 g1 n1 f1 => ?_⟩
    have up1 : w.heap.size ≤ g1 := Nat.le_of_eq f1.at_
    have bl1 := f1.bel
    clear f1
    have r2_ru := (ru).on bl1
    have l2 := le_tr (Below.refl _ _) bl1
    clear ru
    clear bl1
    go_wp2_with (first | ((with_reducible refine st_box 27 _ (aA a) ?_ ?_); exact rfl))
    refine ⟨fun V3 g3 n3 f3 => ?_⟩
    have ne3_p := f3.ne n1
    have up3 : w.heap.size ≤ g3 := f3.up l2
    have bl3 := f3.bel
    clear f3
    have r4_p := le_on n1 bl3
    have r4_ru := (r2_ru).on bl3
    have l4 := le_tr l2 bl3
    clear n1 r2_ru l2
    clear bl3
    go_wp2_with fail
    refine (alive_c _).mono ?_
    rintro e w5 ⟨rfl, b5⟩
    have r6_p := le_on r4_p b5
    have r6_a := le_on n3 b5
    have r6_ru := (r4_ru).on b5
    have l6 := le_tr l4 b5
    clear r4_p n3 r4_ru l4
    clear b5
    go_wp2_with fail
    go_ret
    exact ⟨rfl, l6⟩
  have q1 : decide (100 < n) = false := by simp; omega
  have q1i : decide ((100 : Int) < (n : Int)) = false := by simp; omega
  clear h1
  have P1 := fun W => put_c S a.who a.ep a.vote W
  have P2 := fun W => put_r S a.who a.ep a.vote W
  have H1 := fun W => hear_c S a.who a.ep W
  have H2 := fun W => hear_r S a.who a.ep W
  have N1 := fun W h => new_c A n c L W h
  have N2 := fun W h => new_r A n c L W h
  have R1 := fun W => right_c S W
  have R2 := fun W => right_r S W
  have O1 := fun W => out_c S W
  have O2 := fun W => out_r S W
  obtain ⟨e1, he1⟩ : ∃ z, ePut S a.who a.ep a.vote = z := ⟨_, rfl⟩
  rw [he1] at P1 P2
  clear he1
  obtain ⟨T1, hT1⟩ : ∃ z, sPut S a.who a.ep a.vote = z := ⟨_, rfl⟩
  rw [hT1] at P1 P2
  clear hT1
  obtain ⟨e2, he2⟩ : ∃ z, eHear S a.who a.ep = z := ⟨_, rfl⟩
  rw [he2] at H1 H2
  clear he2
  obtain ⟨T2, hT2⟩ : ∃ z, sHear S a.who a.ep = z := ⟨_, rfl⟩
  rw [hT2] at H1 H2
  clear hT2
  obtain ⟨e3, he3⟩ : ∃ z, eNew L = z := ⟨_, rfl⟩
  rw [he3] at N1 N2
  clear he3
  obtain ⟨T3, hT3⟩ : ∃ z, sNew L = z := ⟨_, rfl⟩
  rw [hT3] at N1 N2
  clear hT3
  obtain ⟨rb, hrb⟩ : ∃ z, rightY S = z := ⟨_, rfl⟩
  rw [hrb] at R1 R2
  clear hrb
  obtain ⟨ov, hov⟩ : ∃ z, outY S = z := ⟨_, rfl⟩
  rw [hov] at O1 O2
  clear hov
  have hE : ∀ U V, (Op.equalIn 10000 25 (.agg (tA U)) (.agg (tA U))).run Try.prog V = .ok true V := fun U V => by have := eq_tr U U V; rw [eqY_refl] at this; exact this
  go_enter Try.func3, Try.ntmps3
  go_wp2_with (first | ((with_reducible refine st_box 25 _ (tA S) ?_ ?_); exact rfl))
  refine ⟨fun V1 g1 n1 f1 => ?_⟩
  have up1 : w.heap.size ≤ g1 := Nat.le_of_eq f1.at_
  have bl1 := f1.bel
  clear f1
  have r2_ru := (ru).on bl1
  have l2 := le_tr (Below.refl _ _) bl1
  clear ru
  clear bl1
  go_wp2_with (first | ((with_reducible refine st_box 27 _ (aA a) ?_ ?_); exact rfl))
  refine ⟨fun V3 g3 n3 f3 => ?_⟩
  have ne3_p := f3.ne n1
  have up3 : w.heap.size ≤ g3 := f3.up l2
  have bl3 := f3.bel
  clear f3
  have r4_p := le_on n1 bl3
  have r4_ru := (r2_ru).on bl3
  have l4 := le_tr l2 bl3
  clear n1 r2_ru l2
  clear bl3
  go_wp2_with fail
  refine (alive_c _).mono ?_
  rintro e w5 ⟨rfl, b5⟩
  have r6_p := le_on r4_p b5
  have r6_a := le_on n3 b5
  have r6_ru := (r4_ru).on b5
  have l6 := le_tr l4 b5
  clear r4_p n3 r4_ru l4
  clear b5
  have c7 : w5.cell? ⟨g3, 1, none⟩ = some (.int .u8 (a.who : Int)) := CB.cell r6_a 1
  have c8 : w5.cell? ⟨g3, 2, none⟩ = some (.int .i64 a.ep) := CB.cell r6_a 2
  have c9 : w5.cell? ⟨g3, 3, none⟩ = some (.int .i64 a.vote) := CB.cell r6_a 3
  go_wp2_with (first | (first | ((with_reducible refine st_load 25 _ g1 ?_ r6_p Try.underlying25 ?_ ?_ ?_); exact rfl; exact rfl; exact Try.zTr) | ((with_reducible refine st_loadG 25 _ g1 ?_ r6_p Try.underlying25 ?_ ?_ ?_ ?_); exact rfl; exact rfl; exact Try.zTr; exact rfl)))
  refine (P1 _).mono ?_
  rintro e w10 ⟨rfl, b10⟩
  clear c7 c8 c9
  have r11_p := le_on r6_p b10
  have r11_a := le_on r6_a b10
  have r11_ru := (r6_ru).on b10
  have l11 := le_tr l6 b10
  clear r6_p r6_a r6_ru l6
  clear b10
  go_wp2_with (first | ((with_reducible refine st_alloc 30 (tA zeroY) ?_ ?_); exact zero_c))
  refine ⟨fun V12 g12 n12 f12 => ?_⟩
  have ne12_p := f12.ne r11_p
  have ne12_a := f12.ne r11_a
  have up12 : w.heap.size ≤ g12 := f12.up l11
  have bl12 := f12.bel
  clear f12
  have r13_p := le_on r11_p bl12
  have r13_a := le_on r11_a bl12
  have r13_ru := (r11_ru).on bl12
  have l13 := le_tr l11 bl12
  clear r11_p r11_a r11_ru l11
  clear bl12
  go_wp2_with (first | ((with_reducible refine st_store 30 _ _ g12 (tA T1) ?_ ?_ n12 ?_ ?_ ?_ ?_); exact rfl; exact rfl; exact Try.zTc; exact rfl; exact tA_one _))
  refine ⟨fun V14 n14 k14 => ?_⟩
  have m14_p := k14.on r13_p ne12_p
  have m14_a := k14.on r13_a ne12_a
  have m14_ru := (r13_ru).wr k14 up12
  have o14 := k14.bel _ _ l13 up12
  clear k14
  clear n12 r13_p r13_a r13_ru l13
  have c15 : V14.cell? ⟨g3, 1, none⟩ = some (.int .u8 (a.who : Int)) := CB.cell m14_a 1
  have c16 : V14.cell? ⟨g3, 2, none⟩ = some (.int .i64 a.ep) := CB.cell m14_a 2
  have c17 : V14.cell? ⟨g3, 3, none⟩ = some (.int .i64 a.vote) := CB.cell m14_a 3
  go_wp2_with (first | (first | ((with_reducible refine st_load 25 _ g1 ?_ m14_p Try.underlying25 ?_ ?_ ?_); exact rfl; exact rfl; exact Try.zTr) | ((with_reducible refine st_loadG 25 _ g1 ?_ m14_p Try.underlying25 ?_ ?_ ?_ ?_); exact rfl; exact rfl; exact Try.zTr; exact rfl)))
  refine (P2 _).mono ?_
  rintro e w18 ⟨rfl, b18⟩
  clear c15 c16 c17
  have r19_p := le_on m14_p b18
  have r19_a := le_on m14_a b18
  have r19_x := le_on n14 b18
  have r19_ru := (m14_ru).on b18
  have l19 := le_tr o14 b18
  clear m14_p m14_a n14 m14_ru o14
  clear b18
  go_wp2_with (first | ((with_reducible refine st_alloc 25 (tA zeroY) ?_ ?_); exact zero_r))
  refine ⟨fun V20 g20 n20 f20 => ?_⟩
  have ne20_p := f20.ne r19_p
  have ne20_a := f20.ne r19_a
  have ne20_x := f20.ne r19_x
  have up20 : w.heap.size ≤ g20 := f20.up l19
  have bl20 := f20.bel
  clear f20
  have r21_p := le_on r19_p bl20
  have r21_a := le_on r19_a bl20
  have r21_x := le_on r19_x bl20
  have r21_ru := (r19_ru).on bl20
  have l21 := le_tr l19 bl20
  clear r19_p r19_a r19_x r19_ru l19
  clear bl20
  go_wp2_with (first | ((with_reducible refine st_store 25 _ _ g20 (tA T1) ?_ ?_ n20 ?_ ?_ ?_ ?_); exact rfl; exact rfl; exact Try.zTr; exact rfl; exact tA_one _))
  refine ⟨fun V22 n22 k22 => ?_⟩
  have m22_p := k22.on r21_p ne20_p
  have m22_a := k22.on r21_a ne20_a
  have m22_x := k22.on r21_x ne20_x
  have m22_ru := (r21_ru).wr k22 up20
  have o22 := k22.bel _ _ l21 up20
  clear k22
  clear n20 r21_p r21_a r21_x r21_ru l21
  have c23 : V22.cell? ⟨g3, 1, none⟩ = some (.int .u8 (a.who : Int)) := CB.cell m22_a 1
  have c24 : V22.cell? ⟨g3, 2, none⟩ = some (.int .i64 a.ep) := CB.cell m22_a 2
  go_wp2_with (first | (first | ((with_reducible refine st_load 25 _ g1 ?_ m22_p Try.underlying25 ?_ ?_ ?_); exact rfl; exact rfl; exact Try.zTr) | ((with_reducible refine st_loadG 25 _ g1 ?_ m22_p Try.underlying25 ?_ ?_ ?_ ?_); exact rfl; exact rfl; exact Try.zTr; exact rfl)))
  refine (H1 _).mono ?_
  rintro e w25 ⟨rfl, b25⟩
  clear c23 c24
  have r26_p := le_on m22_p b25
  have r26_a := le_on m22_a b25
  have r26_x := le_on m22_x b25
  have r26_y := le_on n22 b25
  have r26_ru := (m22_ru).on b25
  have l26 := le_tr o22 b25
  clear m22_p m22_a m22_x n22 m22_ru o22
  clear b25
  go_wp2_with (first | ((with_reducible refine st_alloc 30 (tA zeroY) ?_ ?_); exact zero_c))
  refine ⟨fun V27 g27 n27 f27 => ?_⟩
  have ne27_p := f27.ne r26_p
  have ne27_a := f27.ne r26_a
  have ne27_x := f27.ne r26_x
  have ne27_y := f27.ne r26_y
  have up27 : w.heap.size ≤ g27 := f27.up l26
  have bl27 := f27.bel
  clear f27
  have r28_p := le_on r26_p bl27
  have r28_a := le_on r26_a bl27
  have r28_x := le_on r26_x bl27
  have r28_y := le_on r26_y bl27
  have r28_ru := (r26_ru).on bl27
  have l28 := le_tr l26 bl27
  clear r26_p r26_a r26_x r26_y r26_ru l26
  clear bl27
  go_wp2_with (first | ((with_reducible refine st_store 30 _ _ g27 (tA T2) ?_ ?_ n27 ?_ ?_ ?_ ?_); exact rfl; exact rfl; exact Try.zTc; exact rfl; exact tA_one _))
  refine ⟨fun V29 n29 k29 => ?_⟩
  have m29_p := k29.on r28_p ne27_p
  have m29_a := k29.on r28_a ne27_a
  have m29_x := k29.on r28_x ne27_x
  have m29_y := k29.on r28_y ne27_y
  have m29_ru := (r28_ru).wr k29 up27
  have o29 := k29.bel _ _ l28 up27
  clear k29
  clear n27 r28_p r28_a r28_x r28_y r28_ru l28
  have c30 : V29.cell? ⟨g3, 1, none⟩ = some (.int .u8 (a.who : Int)) := CB.cell m29_a 1
  have c31 : V29.cell? ⟨g3, 2, none⟩ = some (.int .i64 a.ep) := CB.cell m29_a 2
  go_wp2_with (first | (first | ((with_reducible refine st_load 25 _ g1 ?_ m29_p Try.underlying25 ?_ ?_ ?_); exact rfl; exact rfl; exact Try.zTr) | ((with_reducible refine st_loadG 25 _ g1 ?_ m29_p Try.underlying25 ?_ ?_ ?_ ?_); exact rfl; exact rfl; exact Try.zTr; exact rfl)))
  refine (H2 _).mono ?_
  rintro e w32 ⟨rfl, b32⟩
  clear c30 c31
  have r33_p := le_on m29_p b32
  have r33_a := le_on m29_a b32
  have r33_x := le_on m29_x b32
  have r33_y := le_on m29_y b32
  have r33_u := le_on n29 b32
  have r33_ru := (m29_ru).on b32
  have l33 := le_tr o29 b32
  clear m29_p m29_a m29_x m29_y n29 m29_ru o29
  clear b32
  go_wp2_with (first | ((with_reducible refine st_alloc 25 (tA zeroY) ?_ ?_); exact zero_r))
  refine ⟨fun V34 g34 n34 f34 => ?_⟩
  have ne34_p := f34.ne r33_p
  have ne34_a := f34.ne r33_a
  have ne34_x := f34.ne r33_x
  have ne34_y := f34.ne r33_y
  have ne34_u := f34.ne r33_u
  have up34 : w.heap.size ≤ g34 := f34.up l33
  have bl34 := f34.bel
  clear f34
  have r35_p := le_on r33_p bl34
  have r35_a := le_on r33_a bl34
  have r35_x := le_on r33_x bl34
  have r35_y := le_on r33_y bl34
  have r35_u := le_on r33_u bl34
  have r35_ru := (r33_ru).on bl34
  have l35 := le_tr l33 bl34
  clear r33_p r33_a r33_x r33_y r33_u r33_ru l33
  clear bl34
  go_wp2_with (first | ((with_reducible refine st_store 25 _ _ g34 (tA T2) ?_ ?_ n34 ?_ ?_ ?_ ?_); exact rfl; exact rfl; exact Try.zTr; exact rfl; exact tA_one _))
  refine ⟨fun V36 n36 k36 => ?_⟩
  have m36_p := k36.on r35_p ne34_p
  have m36_a := k36.on r35_a ne34_a
  have m36_x := k36.on r35_x ne34_x
  have m36_y := k36.on r35_y ne34_y
  have m36_u := k36.on r35_u ne34_u
  have m36_ru := (r35_ru).wr k36 up34
  have o36 := k36.bel _ _ l35 up34
  clear k36
  clear n34 r35_p r35_a r35_x r35_y r35_u r35_ru l35
  go_wp2_with fail
  refine (N1 _ (m36_ru).rr).mono ?_
  rintro e w37 ⟨rfl, b37⟩
  have r38_p := le_on m36_p b37
  have r38_a := le_on m36_a b37
  have r38_x := le_on m36_x b37
  have r38_y := le_on m36_y b37
  have r38_u := le_on m36_u b37
  have r38_v := le_on n36 b37
  have r38_ru := (m36_ru).on b37
  have l38 := le_tr o36 b37
  clear m36_p m36_a m36_x m36_y m36_u n36 m36_ru o36
  clear b37
  go_wp2_with (first | ((with_reducible refine st_alloc 30 (tA zeroY) ?_ ?_); exact zero_c))
  refine ⟨fun V39 g39 n39 f39 => ?_⟩
  have ne39_p := f39.ne r38_p
  have ne39_a := f39.ne r38_a
  have ne39_x := f39.ne r38_x
  have ne39_y := f39.ne r38_y
  have ne39_u := f39.ne r38_u
  have ne39_v := f39.ne r38_v
  have up39 : w.heap.size ≤ g39 := f39.up l38
  have bl39 := f39.bel
  clear f39
  have r40_p := le_on r38_p bl39
  have r40_a := le_on r38_a bl39
  have r40_x := le_on r38_x bl39
  have r40_y := le_on r38_y bl39
  have r40_u := le_on r38_u bl39
  have r40_v := le_on r38_v bl39
  have r40_ru := (r38_ru).on bl39
  have l40 := le_tr l38 bl39
  clear r38_p r38_a r38_x r38_y r38_u r38_v r38_ru l38
  clear bl39
  go_wp2_with (first | ((with_reducible refine st_store 30 _ _ g39 (tA T3) ?_ ?_ n39 ?_ ?_ ?_ ?_); exact rfl; exact rfl; exact Try.zTc; exact rfl; exact tA_one _))
  refine ⟨fun V41 n41 k41 => ?_⟩
  have m41_p := k41.on r40_p ne39_p
  have m41_a := k41.on r40_a ne39_a
  have m41_x := k41.on r40_x ne39_x
  have m41_y := k41.on r40_y ne39_y
  have m41_u := k41.on r40_u ne39_u
  have m41_v := k41.on r40_v ne39_v
  have m41_ru := (r40_ru).wr k41 up39
  have o41 := k41.bel _ _ l40 up39
  clear k41
  clear n39 r40_p r40_a r40_x r40_y r40_u r40_v r40_ru l40
  go_wp2_with fail
  refine (N2 _ (m41_ru).rr).mono ?_
  rintro e w42 ⟨rfl, b42⟩
  have r43_p := le_on m41_p b42
  have r43_a := le_on m41_a b42
  have r43_x := le_on m41_x b42
  have r43_y := le_on m41_y b42
  have r43_u := le_on m41_u b42
  have r43_v := le_on m41_v b42
  have r43_n := le_on n41 b42
  have r43_ru := (m41_ru).on b42
  have l43 := le_tr o41 b42
  clear m41_p m41_a m41_x m41_y m41_u m41_v n41 m41_ru o41
  clear b42
  go_wp2_with (first | ((with_reducible refine st_alloc 25 (tA zeroY) ?_ ?_); exact zero_r))
  refine ⟨fun V44 g44 n44 f44 => ?_⟩
  have ne44_p := f44.ne r43_p
  have ne44_a := f44.ne r43_a
  have ne44_x := f44.ne r43_x
  have ne44_y := f44.ne r43_y
  have ne44_u := f44.ne r43_u
  have ne44_v := f44.ne r43_v
  have ne44_n := f44.ne r43_n
  have up44 : w.heap.size ≤ g44 := f44.up l43
  have bl44 := f44.bel
  clear f44
  have r45_p := le_on r43_p bl44
  have r45_a := le_on r43_a bl44
  have r45_x := le_on r43_x bl44
  have r45_y := le_on r43_y bl44
  have r45_u := le_on r43_u bl44
  have r45_v := le_on r43_v bl44
  have r45_n := le_on r43_n bl44
  have r45_ru := (r43_ru).on bl44
  have l45 := le_tr l43 bl44
  clear r43_p r43_a r43_x r43_y r43_u r43_v r43_n r43_ru l43
  clear bl44
  go_wp2_with (first | ((with_reducible refine st_store 25 _ _ g44 (tA T3) ?_ ?_ n44 ?_ ?_ ?_ ?_); exact rfl; exact rfl; exact Try.zTr; exact rfl; exact tA_one _))
  refine ⟨fun V46 n46 k46 => ?_⟩
  have m46_p := k46.on r45_p ne44_p
  have m46_a := k46.on r45_a ne44_a
  have m46_x := k46.on r45_x ne44_x
  have m46_y := k46.on r45_y ne44_y
  have m46_u := k46.on r45_u ne44_u
  have m46_v := k46.on r45_v ne44_v
  have m46_n := k46.on r45_n ne44_n
  have m46_ru := (r45_ru).wr k46 up44
  have o46 := k46.bel _ _ l45 up44
  clear k46
  clear n44 r45_p r45_a r45_x r45_y r45_u r45_v r45_n r45_ru l45
  go_wp2_with (first | (first | ((with_reducible refine st_load 30 _ g12 ?_ m46_x Try.underlying30 ?_ ?_ ?_); exact rfl; exact rfl; exact Try.zTc) | ((with_reducible refine st_loadG 30 _ g12 ?_ m46_x Try.underlying30 ?_ ?_ ?_ ?_); exact rfl; exact rfl; exact Try.zTc; exact rfl)) | (first | ((with_reducible refine st_load 25 _ g20 ?_ m46_y Try.underlying25 ?_ ?_ ?_); exact rfl; exact rfl; exact Try.zTr) | ((with_reducible refine st_loadG 25 _ g20 ?_ m46_y Try.underlying25 ?_ ?_ ?_ ?_); exact rfl; exact rfl; exact Try.zTr; exact rfl)) | (first | ((with_reducible refine st_load 30 _ g27 ?_ m46_u Try.underlying30 ?_ ?_ ?_); exact rfl; exact rfl; exact Try.zTc) | ((with_reducible refine st_loadG 30 _ g27 ?_ m46_u Try.underlying30 ?_ ?_ ?_ ?_); exact rfl; exact rfl; exact Try.zTc; exact rfl)) | (first | ((with_reducible refine st_load 25 _ g34 ?_ m46_v Try.underlying25 ?_ ?_ ?_); exact rfl; exact rfl; exact Try.zTr) | ((with_reducible refine st_loadG 25 _ g34 ?_ m46_v Try.underlying25 ?_ ?_ ?_ ?_); exact rfl; exact rfl; exact Try.zTr; exact rfl)) | (first | ((with_reducible refine st_load 30 _ g39 ?_ m46_n Try.underlying30 ?_ ?_ ?_); exact rfl; exact rfl; exact Try.zTc) | ((with_reducible refine st_loadG 30 _ g39 ?_ m46_n Try.underlying30 ?_ ?_ ?_ ?_); exact rfl; exact rfl; exact Try.zTc; exact rfl)) | (first | ((with_reducible refine st_load 25 _ g44 ?_ n46 Try.underlying25 ?_ ?_ ?_); exact rfl; exact rfl; exact Try.zTr) | ((with_reducible refine st_loadG 25 _ g44 ?_ n46 Try.underlying25 ?_ ?_ ?_ ?_); exact rfl; exact rfl; exact Try.zTr; exact rfl)))
  have y47 := Lib.hid (show (fun V : World => CB V g1 25 (tA S)) V46 from m46_p)
  refine wp_region_held_drew (S := (fun V : World => CB V g1 25 (tA S))) (by kernel_rfl) y47.out (fun hHeld => ?_)
  obtain ⟨D47, hD47⟩ : ∃ V, V46.drew = V := ⟨_, rfl⟩
  have b47 : Below V46.heap.size V46 D47 := by rw [← hD47]; exact le_dr (Below.refl _ _)
  rw [hD47] at hHeld ⊢
  clear hD47
  have r48_p := le_on m46_p b47
  have r48_a := le_on m46_a b47
  have r48_x := le_on m46_x b47
  have r48_y := le_on m46_y b47
  have r48_u := le_on m46_u b47
  have r48_v := le_on m46_v b47
  have r48_n := le_on m46_n b47
  have r48_m := le_on n46 b47
  have r48_ru := (m46_ru).on b47
  have l48 := le_tr o46 b47
  clear m46_p m46_a m46_x m46_y m46_u m46_v m46_n n46 m46_ru o46
  clear b47
  refine wpAnyH_takeL (i := 0) (d := some 102) (v := .agg (tA S)) rfl rfl (by kernel_rfl) (by kernel_rfl) (by kernel_rfl) (fun _ _ _ h => h) (Or.inl ⟨by rfl, ?_⟩) hHeld ?_
  · intro w hSw; exact yl_whole 25 _ g1 rfl hSw Try.underlying25 rfl Try.zTr
  try simp only [Act.put, List.setIfInBounds_toArray, List.set_cons_zero, List.set_cons_succ]
  refine wpAnyH_takeL (i := 2) (d := some 104) (v := .agg (tA S)) rfl rfl (by kernel_rfl) (by kernel_rfl) (by kernel_rfl) (fun _ _ _ h => h) (Or.inl ⟨by rfl, ?_⟩) hHeld ?_
  · intro w hSw; exact yl_whole 25 _ g1 rfl hSw Try.underlying25 rfl Try.zTr
  try simp only [Act.put, List.setIfInBounds_toArray, List.set_cons_zero, List.set_cons_succ]
  refine wpAnyH_ready (rs := [1]) (by kernel_rfl) (by simp) ?_
  refine AllReadyH.cons rfl (fun K hK => ?_) AllReadyH.nil
  go_simp
  refine (R1 _).mono ?_
  rintro e u49 ⟨rfl, b49⟩
  have r50_p := le_on r48_p b49
  have r50_a := le_on r48_a b49
  have r50_x := le_on r48_x b49
  have r50_y := le_on r48_y b49
  have r50_u := le_on r48_u b49
  have r50_v := le_on r48_v b49
  have r50_n := le_on r48_n b49
  have r50_m := le_on r48_m b49
  have r50_ru := (r48_ru).on b49
  have l50 := le_tr l48 b49
  clear r48_p r48_a r48_x r48_y r48_u r48_v r48_n r48_m r48_ru l48
  clear b49
  go_wp2_with fail
  have y51 := Lib.hid (show (fun V : World => CB V g1 25 (tA S)) u49 from r50_p)
  refine hK.out _ _ y51.out (fun hHeld => ?_)
  clear hK K y51
  try simp only [Act.put, List.setIfInBounds_toArray, List.set_cons_zero, List.set_cons_succ]
  refine wpAnyH_ready (rs := [3]) (by kernel_rfl) (by simp) ?_
  refine AllReadyH.cons rfl (fun K hK => ?_) AllReadyH.nil
  go_simp
  refine (R2 _).mono ?_
  rintro e u52 ⟨rfl, b52⟩
  have r53_p := le_on r50_p b52
  have r53_a := le_on r50_a b52
  have r53_x := le_on r50_x b52
  have r53_y := le_on r50_y b52
  have r53_u := le_on r50_u b52
  have r53_v := le_on r50_v b52
  have r53_n := le_on r50_n b52
  have r53_m := le_on r50_m b52
  have r53_ru := (r50_ru).on b52
  have l53 := le_tr l50 b52
  clear r50_p r50_a r50_x r50_y r50_u r50_v r50_n r50_m r50_ru l50
  clear b52
  go_wp2_with fail
  have y54 := Lib.hid (show (fun V : World => CB V g1 25 (tA S)) u52 from r53_p)
  refine hK.out _ _ y54.out (fun hHeld => ?_)
  clear hK K y54
  try simp only [Act.put, List.setIfInBounds_toArray, List.set_cons_zero, List.set_cons_succ]
  refine wpAnyH_takeL (i := 4) (d := some 106) (v := .bool true) rfl rfl (by kernel_rfl) (by kernel_rfl) (by kernel_rfl) (fun _ _ _ h => h) (Or.inl ⟨by rfl, ?_⟩) hHeld ?_
  · intro w hSw; (try dsimp only at hSw); go_simp
  try simp only [Act.put, List.setIfInBounds_toArray, List.set_cons_zero, List.set_cons_succ]
  refine wpAnyH_takeL (i := 5) (d := some 107) (v := .bool true) rfl rfl (by kernel_rfl) (by kernel_rfl) (by kernel_rfl) (fun _ _ _ h => h) (Or.inl ⟨by rfl, ?_⟩) hHeld ?_
  · intro w hSw; (try dsimp only at hSw); go_simp
  try simp only [Act.put, List.setIfInBounds_toArray, List.set_cons_zero, List.set_cons_succ]
  refine wpAnyH_takeL (i := 6) (d := some 108) (v := .agg (tA S)) rfl rfl (by kernel_rfl) (by kernel_rfl) (by kernel_rfl) (fun _ _ _ h => h) (Or.inl ⟨by rfl, ?_⟩) hHeld ?_
  · intro w hSw; exact yl_whole 25 _ g1 rfl hSw Try.underlying25 rfl Try.zTr
  try simp only [Act.put, List.setIfInBounds_toArray, List.set_cons_zero, List.set_cons_succ]
  refine wpAnyH_takeL (i := 8) (d := some 110) (v := .agg (tA S)) rfl rfl (by kernel_rfl) (by kernel_rfl) (by kernel_rfl) (fun _ _ _ h => h) (Or.inl ⟨by rfl, ?_⟩) hHeld ?_
  · intro w hSw; exact yl_whole 25 _ g1 rfl hSw Try.underlying25 rfl Try.zTr
  try simp only [Act.put, List.setIfInBounds_toArray, List.set_cons_zero, List.set_cons_succ]
  refine wpAnyH_ready (rs := [7]) (by kernel_rfl) (by simp) ?_
  refine AllReadyH.cons rfl (fun K hK => ?_) AllReadyH.nil
  go_simp
  refine (O1 _).mono ?_
  rintro e u55 ⟨rfl, b55⟩
  have r56_p := le_on r53_p b55
  have r56_a := le_on r53_a b55
  have r56_x := le_on r53_x b55
  have r56_y := le_on r53_y b55
  have r56_u := le_on r53_u b55
  have r56_v := le_on r53_v b55
  have r56_n := le_on r53_n b55
  have r56_m := le_on r53_m b55
  have r56_ru := (r53_ru).on b55
  have l56 := le_tr l53 b55
  clear r53_p r53_a r53_x r53_y r53_u r53_v r53_n r53_m r53_ru l53
  clear b55
  go_wp2_with fail
  have y57 := Lib.hid (show (fun V : World => CB V g1 25 (tA S)) u55 from r56_p)
  refine hK.out _ _ y57.out (fun hHeld => ?_)
  clear hK K y57
  try simp only [Act.put, List.setIfInBounds_toArray, List.set_cons_zero, List.set_cons_succ]
  refine wpAnyH_ready (rs := [9]) (by kernel_rfl) (by simp) ?_
  refine AllReadyH.cons rfl (fun K hK => ?_) AllReadyH.nil
  go_simp
  refine (O2 _).mono ?_
  rintro e u58 ⟨rfl, b58⟩
  have r59_p := le_on r56_p b58
  have r59_a := le_on r56_a b58
  have r59_x := le_on r56_x b58
  have r59_y := le_on r56_y b58
  have r59_u := le_on r56_u b58
  have r59_v := le_on r56_v b58
  have r59_n := le_on r56_n b58
  have r59_m := le_on r56_m b58
  have r59_ru := (r56_ru).on b58
  have l59 := le_tr l56 b58
  clear r56_p r56_a r56_x r56_y r56_u r56_v r56_n r56_m r56_ru l56
  clear b58
  go_wp2_with fail
  have y60 := Lib.hid (show (fun V : World => CB V g1 25 (tA S)) u58 from r59_p)
  refine hK.out _ _ y60.out (fun hHeld => ?_)
  clear hK K y60
  try simp only [Act.put, List.setIfInBounds_toArray, List.set_cons_zero, List.set_cons_succ]
  refine wpAnyH_takeL (i := 10) (d := some 112) (v := .bool true) rfl rfl (by kernel_rfl) (by kernel_rfl) (by kernel_rfl) (fun _ _ _ h => h) (Or.inl ⟨by rfl, ?_⟩) hHeld ?_
  · intro w hSw; (try dsimp only at hSw); go_simp
  try simp only [Act.put, List.setIfInBounds_toArray, List.set_cons_zero, List.set_cons_succ]
  refine wpAnyH_takeL (i := 11) (d := some 113) (v := .bool true) rfl rfl (by kernel_rfl) (by kernel_rfl) (by kernel_rfl) (fun _ _ _ h => h) (Or.inl ⟨by rfl, ?_⟩) hHeld ?_
  · intro w hSw; (try dsimp only at hSw); go_simp
  try simp only [Act.put, List.setIfInBounds_toArray, List.set_cons_zero, List.set_cons_succ]
  refine wpAnyH_takeL (i := 12) (d := some 6) (v := .bool true) rfl rfl (by kernel_rfl) (by kernel_rfl) (by kernel_rfl) (fun _ _ _ h => h) (Or.inl ⟨by rfl, ?_⟩) hHeld ?_
  · intro w hSw; (try dsimp only at hSw); go_simp
  try simp only [Act.put, List.setIfInBounds_toArray, List.set_cons_zero, List.set_cons_succ]
  refine wpAnyH_done (by kernel_rfl) ?_ _
  go_wp2_with fail
  go_ret
  exact ⟨rfl, l59⟩
end Go.Proofs.Ytjooceaclfdjjaa
