/-
  The law NoteKinds, walked. Condition: the bytes are in their type's range.
-/
import Derived.Test.YtbkfepgcnijlfaaNoL
set_option linter.unusedVariables false
set_option linter.unusedSimpArgs false
namespace Go.Proofs.Ytbkfepgcnijlfaa
open Go.RowKit
open Dk (Nt InN RightN BoundN MsgN NoMsg KindN EpN bound_n)


/-- A note that differs in one number. -/
theorem by_ne {n m : Nt} (hi : InN n) (hj : InN m) (hr : RightN n) (hs : RightN m) (h : ¬ n = m) : ((Dk.mkS (Dk.byN n)).toList == (Dk.mkS (Dk.byN m)).toList) = false := by
  rw [ts_bs, ts_bs, beq_eq_false_iff_ne]
  exact fun e => h (Dk.byN_inj hi hj hr hs e)
theorem wrap_ne64 (x : Int) : ¬ x = IntKind.i64.wrap (x + 1) := by rw [IntKind.wrap_i64]; omega
theorem wrap_ne8 (x : Int) : ¬ x = IntKind.u8.wrap (x + 1) := by rw [IntKind.wrap_u8]; omega
theorem wrap_8 (x : Int) : 0 ≤ IntKind.u8.wrap (x + 1) ∧ IntKind.u8.wrap (x + 1) < 256 := by rw [IntKind.wrap_u8]; omega
set_option maxRecDepth 100000 in
set_option maxHeartbeats 4000000 in
theorem kinds_walk (n : Nt) (a : Nat) (w : World) (hi : InN n) (ha : a < 256) : Calls Try.prog 6 #[.agg (ntA n), .int .u8 (a : Int)] w fun r w' => r = .returned (.bool true) ∧ Below w.heap.size w w' := by
  by_cases hs : n.cg.size ≤ 700
  rotate_left
  · skip
    have q1 : decide ((700 : Int) < (n.cg.size : Int)) = true := by simp; omega
    have q1' : decide ((n.cg.size : Int) > 700) = true := by simp; omega
    go_enter Try.func6, Try.ntmps6
    go_wp2_with (first | ((with_reducible refine st_box 25 _ (ntA n) ?_ ?_); exact rfl))
    refine ⟨fun V1 g1 n1 f1 => ?_⟩
    have up1 : w.heap.size ≤ g1 := Nat.le_of_eq f1.at_
    have bl1 := f1.bel
    clear f1
    have l3 := le_tr (Below.refl _ _) bl1
    clear bl1
    go_wp2_with fail
    (with_reducible refine (alive_c _).mono ?_)
    rintro e w4 ⟨rfl, b4⟩
    have r6_n := le_on n1 b4
    have l6 := le_tr l3 b4
    clear n1 l3
    clear b4
    have c7 : w4.cell? ⟨g1, 9, none⟩ = some (.string (n.cg)) := CB.cell r6_n 9
    go_wp2_with fail
    go_ret
    exact ⟨rfl, l6⟩
  have q1 : decide ((700 : Int) < (n.cg.size : Int)) = false := by simp; omega
  have q1' : decide ((n.cg.size : Int) > 700) = false := by simp; omega
  clear hs
  have hm4 := tmod_nat a 4
  have hlt4 : a % 4 < 4 := Nat.mod_lt _ (by omega)
  obtain ⟨r, hr⟩ : ∃ r, a % 4 = r := ⟨_, rfl⟩
  rw [hr] at hm4 hlt4
  have hm4' : Int.tmod (a : Int) 4 = (r : Int) := hm4
  clear hm4 hr
  obtain ⟨k, hk⟩ : ∃ k, 25 + n.cg.size = k := ⟨_, rfl⟩
  have C1 := fun W => right_c n W
  have hmod : ∀ x : Int, x = (r : Int) → IntKind.u8.wrap x = (r : Int) := fun x e => by rw [e]; exact IntWalk.u8_in _ (by omega)
  by_cases c0 : r = 0
  · skip
    subst c0
    obtain ⟨x, hx⟩ : ∃ x, IntKind.i64.wrap (n.kd + 1) = x := ⟨_, rfl⟩
    obtain ⟨m, hm⟩ : ∃ m : Nt, { n with kd := x } = m := ⟨_, rfl⟩
    have hne : ¬ n = m := by rw [← hm]; intro e; have e2 := congrArg Nt.kd e; simp only at e2; rw [← hx] at e2; exact wrap_ne64 _ e2
    have hj : InN m := by rw [← hm]; exact hi
    have hkm : 25 + m.cg.size = k := by rw [← hm]; exact hk
    have hst := Lib.hid (show (ntA n).setIfInBounds 0 (.int .i64 x) = ntA m by rw [← hm]; rfl)
    have C2 := fun W => right_c m W
    clear hm
    by_cases hr : RightN n
    · by_cases ht : RightN m
      · skip
        have q2 : decide (RightN n) = true := decide_eq_true hr
        have q3 : decide (RightN m) = true := decide_eq_true ht
        simp only [q2] at C1
        simp only [q3] at C2
        have qn := by_ne hi hj hr ht hne
        have HI := Lib.hid hi
        have HJ := Lib.hid hj
        have HR := Lib.hid hr
        have HT := Lib.hid ht
        have HK := Lib.hid hk
        have HM := Lib.hid hkm
        clear hi hj hr ht hk hkm hne q2 q3
        go_enter Try.func6, Try.ntmps6
        go_wp2_with (first | ((with_reducible refine st_box 25 _ (ntA n) ?_ ?_); exact rfl))
        refine ⟨fun V1 g1 n1 f1 => ?_⟩
        have up1 : w.heap.size ≤ g1 := Nat.le_of_eq f1.at_
        have bl1 := f1.bel
        clear f1
        have l3 := le_tr (Below.refl _ _) bl1
        clear bl1
        go_wp2_with fail
        (with_reducible refine (alive_c _).mono ?_)
        rintro e w4 ⟨rfl, b4⟩
        have r6_n := le_on n1 b4
        have l6 := le_tr l3 b4
        clear n1 l3
        clear b4
        have c7 : w4.cell? ⟨g1, 9, none⟩ = some (.string (n.cg)) := CB.cell r6_n 9
        go_wp2_with (first | (first | ((with_reducible refine st_load 25 _ g1 ?_ r6_n Try.underlying25 ?_ ?_ ?_); exact rfl; exact rfl; exact Try.zNr) | ((with_reducible refine st_loadG 25 _ g1 ?_ r6_n Try.underlying25 ?_ ?_ ?_ ?_); exact rfl; exact rfl; exact Try.zNr; exact rfl)) | ((with_reducible refine st_alloc 25 (ntA zN) ?_ ?_); exact zero_nr))
        refine ⟨fun V9 g9 n9 f9 => ?_⟩
        clear c7
        have ne9_n := f9.ne r6_n
        have up9 : w.heap.size ≤ g9 := f9.up l6
        have bl9 := f9.bel
        clear f9
        have r11_n := le_on r6_n bl9
        have l11 := le_tr l6 bl9
        clear r6_n l6
        clear bl9
        go_wp2_with (first | (first | ((with_reducible refine st_load 25 _ g1 ?_ r11_n Try.underlying25 ?_ ?_ ?_); exact rfl; exact rfl; exact Try.zNr) | ((with_reducible refine st_loadG 25 _ g1 ?_ r11_n Try.underlying25 ?_ ?_ ?_ ?_); exact rfl; exact rfl; exact Try.zNr; exact rfl)) | ((with_reducible refine st_store 25 _ _ g9 (ntA n) ?_ ?_ n9 ?_ ?_ ?_ ?_); exact rfl; exact rfl; exact Try.zNr; exact rfl; exact ntA_one _))
        refine ⟨fun V12 n12 k12 => ?_⟩
        have m12_n := k12.on r11_n ne9_n
        have o12 := k12.bel _ _ l11 up9
        clear k12
        clear n9 r11_n l11
        have c13 : V12.cell? ⟨g9, 0, none⟩ = some (.int .i64 (n.kd)) := CB.cell n12 0
        go_wp2_with (first | ((with_reducible refine st_cell 3 _ _ g9 0 (.int .i64 x) ?_ ?_ n12 (new := ntA m) ?_ ?_ ?_ ?_ ?_ ?_); exact rfl; exact rfl; exact (by rw [ntA_size]; decide); exact hst.out; exact one_i; exact rfl; exact rfl))
        refine ⟨fun V14 n14 k14 => ?_⟩
        clear c13
        have m14_n := k14.on m12_n ne9_n
        have o14 := k14.bel _ _ o12 up9
        clear k14
        clear n12 m12_n o12
        go_wp2_with (first | (first | ((with_reducible refine st_load 25 _ g1 ?_ m14_n Try.underlying25 ?_ ?_ ?_); exact rfl; exact rfl; exact Try.zNr) | ((with_reducible refine st_loadG 25 _ g1 ?_ m14_n Try.underlying25 ?_ ?_ ?_ ?_); exact rfl; exact rfl; exact Try.zNr; exact rfl)))
        (with_reducible refine (theirs_c n _).mono ?_)
        rintro e w15 ⟨rfl, b15⟩
        have r17_n := le_on m14_n b15
        have r17_m := le_on n14 b15
        have l17 := le_tr o14 b15
        clear m14_n n14 o14
        clear b15
        go_wp2_with (first | (first | ((with_reducible refine st_load 25 _ g1 ?_ r17_n Try.underlying25 ?_ ?_ ?_); exact rfl; exact rfl; exact Try.zNr) | ((with_reducible refine st_loadG 25 _ g1 ?_ r17_n Try.underlying25 ?_ ?_ ?_ ?_); exact rfl; exact rfl; exact Try.zNr; exact rfl)))
        have lt18_n := CB.lt r17_n
        have lt18_m := CB.lt r17_m
        have lb18 : w.heap.size ≤ w15.heap.size := Below.size (B := w.heap.size) l17
        (with_reducible refine (enc_yes n k _ HI.out HR.out HK.out).mono ?_)
        rintro e w18 ⟨A901, q901, G901, rfl, h901, b18⟩
        have r20_n := le_on r17_n b18
        have r20_m := le_on r17_m b18
        have l20 := le_tr l17 b18
        clear r17_n r17_m l17
        clear b18
        have na21 := SO.above h901 lt18_n
        have na22 := SO.above h901 lt18_m
        have sm18_x := SO.mono h901 lb18
        clear h901
        clear lb18 lt18_n lt18_m
        go_wp2_with (first | (first | ((with_reducible refine st_load 25 _ g9 ?_ r20_m Try.underlying25 ?_ ?_ ?_); exact rfl; exact rfl; exact Try.zNr) | ((with_reducible refine st_loadG 25 _ g9 ?_ r20_m Try.underlying25 ?_ ?_ ?_ ?_); exact rfl; exact rfl; exact Try.zNr; exact rfl)))
        (with_reducible refine (theirs_c m _).mono ?_)
        rintro e w23 ⟨rfl, b23⟩
        have r24_x := SO.on sm18_x b23
        have r25_n := le_on r20_n b23
        have r25_m := le_on r20_m b23
        have l25 := le_tr l20 b23
        clear r20_n r20_m l20
        clear sm18_x
        clear b23
        go_wp2_with (first | (first | ((with_reducible refine st_load 25 _ g9 ?_ r25_m Try.underlying25 ?_ ?_ ?_); exact rfl; exact rfl; exact Try.zNr) | ((with_reducible refine st_loadG 25 _ g9 ?_ r25_m Try.underlying25 ?_ ?_ ?_ ?_); exact rfl; exact rfl; exact Try.zNr; exact rfl)))
        have lt26_n := CB.lt r25_n
        have lt26_m := CB.lt r25_m
        have lb26 : w.heap.size ≤ w23.heap.size := Below.size (B := w.heap.size) l25
        (with_reducible refine (enc_yes m k _ HJ.out HT.out HM.out).mono ?_)
        rintro e w26 ⟨A902, q902, G902, rfl, h902, b26⟩
        have r27_x := SO.on r24_x b26
        have r28_n := le_on r25_n b26
        have r28_m := le_on r25_m b26
        have l28 := le_tr l25 b26
        clear r25_n r25_m l25
        clear r24_x
        clear b26
        have na29 := SO.above h902 lt26_n
        have na30 := SO.above h902 lt26_m
        have sm26_y := SO.mono h902 lb26
        clear h902
        clear lb26 lt26_n lt26_m
        go_wp2_with (first | (first | ((with_reducible refine st_load 25 _ g1 ?_ r28_n Try.underlying25 ?_ ?_ ?_); exact rfl; exact rfl; exact Try.zNr) | ((with_reducible refine st_loadG 25 _ g1 ?_ r28_n Try.underlying25 ?_ ?_ ?_ ?_); exact rfl; exact rfl; exact Try.zNr; exact rfl)))
        (with_reducible refine (theirs_c n _).mono ?_)
        rintro e w31 ⟨rfl, b31⟩
        have r32_x := SO.on r27_x b31
        have r32_y := SO.on sm26_y b31
        have r33_n := le_on r28_n b31
        have r33_m := le_on r28_m b31
        have l33 := le_tr l28 b31
        clear r28_n r28_m l28
        clear r27_x sm26_y
        clear b31
        go_wp2_with fail
        (with_reducible refine (C1 _).mono ?_)
        rintro e w34 ⟨rfl, b34⟩
        have r35_x := SO.on r32_x b34
        have r35_y := SO.on r32_y b34
        have r36_n := le_on r33_n b34
        have r36_m := le_on r33_m b34
        have l36 := le_tr l33 b34
        clear r33_n r33_m l33
        clear r32_x r32_y
        clear b34
        go_wp2_with (first | (first | ((with_reducible refine st_load 25 _ g9 ?_ r36_m Try.underlying25 ?_ ?_ ?_); exact rfl; exact rfl; exact Try.zNr) | ((with_reducible refine st_loadG 25 _ g9 ?_ r36_m Try.underlying25 ?_ ?_ ?_ ?_); exact rfl; exact rfl; exact Try.zNr; exact rfl)))
        (with_reducible refine (theirs_c m _).mono ?_)
        rintro e w37 ⟨rfl, b37⟩
        have r38_x := SO.on r35_x b37
        have r38_y := SO.on r35_y b37
        have r39_n := le_on r36_n b37
        have r39_m := le_on r36_m b37
        have l39 := le_tr l36 b37
        clear r36_n r36_m l36
        clear r35_x r35_y
        clear b37
        go_wp2_with fail
        (with_reducible refine (C2 _).mono ?_)
        rintro e w40 ⟨rfl, b40⟩
        have r41_x := SO.on r38_x b40
        have r41_y := SO.on r38_y b40
        have r42_n := le_on r39_n b40
        have r42_m := le_on r39_m b40
        have l42 := le_tr l39 b40
        clear r39_n r39_m l39
        clear r38_x r38_y
        clear b40
        have v1 := conv_C _ _ _ _ _ (SO.rr r41_x)
        have v2 := conv_C _ _ _ _ _ (SO.rr r41_y)
        go_wp2_with fail
        go_ret
        exact ⟨rfl, l42⟩
      have q2 : decide (RightN n) = true := decide_eq_true hr
      have q3 : decide (RightN m) = false := decide_eq_false ht
      simp only [q2] at C1
      simp only [q3] at C2
      have HI := Lib.hid hi
      have HJ := Lib.hid hj
      have HR := Lib.hid hr
      have HT := Lib.hid ht
      have HK := Lib.hid hk
      have HM := Lib.hid hkm
      clear hi hj hr ht hk hkm hne q2 q3
      go_enter Try.func6, Try.ntmps6
      go_wp2_with (first | ((with_reducible refine st_box 25 _ (ntA n) ?_ ?_); exact rfl))
      refine ⟨fun V1 g1 n1 f1 => ?_⟩
      have up1 : w.heap.size ≤ g1 := Nat.le_of_eq f1.at_
      have bl1 := f1.bel
      clear f1
      have l3 := le_tr (Below.refl _ _) bl1
      clear bl1
      go_wp2_with fail
      (with_reducible refine (alive_c _).mono ?_)
      rintro e w4 ⟨rfl, b4⟩
      have r6_n := le_on n1 b4
      have l6 := le_tr l3 b4
      clear n1 l3
      clear b4
      have c7 : w4.cell? ⟨g1, 9, none⟩ = some (.string (n.cg)) := CB.cell r6_n 9
      go_wp2_with (first | (first | ((with_reducible refine st_load 25 _ g1 ?_ r6_n Try.underlying25 ?_ ?_ ?_); exact rfl; exact rfl; exact Try.zNr) | ((with_reducible refine st_loadG 25 _ g1 ?_ r6_n Try.underlying25 ?_ ?_ ?_ ?_); exact rfl; exact rfl; exact Try.zNr; exact rfl)) | ((with_reducible refine st_alloc 25 (ntA zN) ?_ ?_); exact zero_nr))
      refine ⟨fun V9 g9 n9 f9 => ?_⟩
      clear c7
      have ne9_n := f9.ne r6_n
      have up9 : w.heap.size ≤ g9 := f9.up l6
      have bl9 := f9.bel
      clear f9
      have r11_n := le_on r6_n bl9
      have l11 := le_tr l6 bl9
      clear r6_n l6
      clear bl9
      go_wp2_with (first | (first | ((with_reducible refine st_load 25 _ g1 ?_ r11_n Try.underlying25 ?_ ?_ ?_); exact rfl; exact rfl; exact Try.zNr) | ((with_reducible refine st_loadG 25 _ g1 ?_ r11_n Try.underlying25 ?_ ?_ ?_ ?_); exact rfl; exact rfl; exact Try.zNr; exact rfl)) | ((with_reducible refine st_store 25 _ _ g9 (ntA n) ?_ ?_ n9 ?_ ?_ ?_ ?_); exact rfl; exact rfl; exact Try.zNr; exact rfl; exact ntA_one _))
      refine ⟨fun V12 n12 k12 => ?_⟩
      have m12_n := k12.on r11_n ne9_n
      have o12 := k12.bel _ _ l11 up9
      clear k12
      clear n9 r11_n l11
      have c13 : V12.cell? ⟨g9, 0, none⟩ = some (.int .i64 (n.kd)) := CB.cell n12 0
      go_wp2_with (first | ((with_reducible refine st_cell 3 _ _ g9 0 (.int .i64 x) ?_ ?_ n12 (new := ntA m) ?_ ?_ ?_ ?_ ?_ ?_); exact rfl; exact rfl; exact (by rw [ntA_size]; decide); exact hst.out; exact one_i; exact rfl; exact rfl))
      refine ⟨fun V14 n14 k14 => ?_⟩
      clear c13
      have m14_n := k14.on m12_n ne9_n
      have o14 := k14.bel _ _ o12 up9
      clear k14
      clear n12 m12_n o12
      go_wp2_with (first | (first | ((with_reducible refine st_load 25 _ g1 ?_ m14_n Try.underlying25 ?_ ?_ ?_); exact rfl; exact rfl; exact Try.zNr) | ((with_reducible refine st_loadG 25 _ g1 ?_ m14_n Try.underlying25 ?_ ?_ ?_ ?_); exact rfl; exact rfl; exact Try.zNr; exact rfl)))
      (with_reducible refine (theirs_c n _).mono ?_)
      rintro e w15 ⟨rfl, b15⟩
      have r17_n := le_on m14_n b15
      have r17_m := le_on n14 b15
      have l17 := le_tr o14 b15
      clear m14_n n14 o14
      clear b15
      go_wp2_with (first | (first | ((with_reducible refine st_load 25 _ g1 ?_ r17_n Try.underlying25 ?_ ?_ ?_); exact rfl; exact rfl; exact Try.zNr) | ((with_reducible refine st_loadG 25 _ g1 ?_ r17_n Try.underlying25 ?_ ?_ ?_ ?_); exact rfl; exact rfl; exact Try.zNr; exact rfl)))
      have lt18_n := CB.lt r17_n
      have lt18_m := CB.lt r17_m
      have lb18 : w.heap.size ≤ w15.heap.size := Below.size (B := w.heap.size) l17
      (with_reducible refine (enc_yes n k _ HI.out HR.out HK.out).mono ?_)
      rintro e w18 ⟨A901, q901, G901, rfl, h901, b18⟩
      have r20_n := le_on r17_n b18
      have r20_m := le_on r17_m b18
      have l20 := le_tr l17 b18
      clear r17_n r17_m l17
      clear b18
      have na21 := SO.above h901 lt18_n
      have na22 := SO.above h901 lt18_m
      have sm18_x := SO.mono h901 lb18
      clear h901
      clear lb18 lt18_n lt18_m
      go_wp2_with (first | (first | ((with_reducible refine st_load 25 _ g9 ?_ r20_m Try.underlying25 ?_ ?_ ?_); exact rfl; exact rfl; exact Try.zNr) | ((with_reducible refine st_loadG 25 _ g9 ?_ r20_m Try.underlying25 ?_ ?_ ?_ ?_); exact rfl; exact rfl; exact Try.zNr; exact rfl)))
      (with_reducible refine (theirs_c m _).mono ?_)
      rintro e w23 ⟨rfl, b23⟩
      have r24_x := SO.on sm18_x b23
      have r25_n := le_on r20_n b23
      have r25_m := le_on r20_m b23
      have l25 := le_tr l20 b23
      clear r20_n r20_m l20
      clear sm18_x
      clear b23
      go_wp2_with (first | (first | ((with_reducible refine st_load 25 _ g9 ?_ r25_m Try.underlying25 ?_ ?_ ?_); exact rfl; exact rfl; exact Try.zNr) | ((with_reducible refine st_loadG 25 _ g9 ?_ r25_m Try.underlying25 ?_ ?_ ?_ ?_); exact rfl; exact rfl; exact Try.zNr; exact rfl)))
      have lt26_n := CB.lt r25_n
      have lt26_m := CB.lt r25_m
      have lb26 : w.heap.size ≤ w23.heap.size := Below.size (B := w.heap.size) l25
      (with_reducible refine (enc_not m _ HJ.out HT.out).mono ?_)
      rintro e w26 ⟨A902, q902, G902, rfl, h902, b26⟩
      have r27_x := SO.on r24_x b26
      have r28_n := le_on r25_n b26
      have r28_m := le_on r25_m b26
      have l28 := le_tr l25 b26
      clear r25_n r25_m l25
      clear r24_x
      clear b26
      have na29 := SO.above h902 lt26_n
      have na30 := SO.above h902 lt26_m
      have sm26_y := SO.mono h902 lb26
      clear h902
      clear lb26 lt26_n lt26_m
      go_wp2_with (first | (first | ((with_reducible refine st_load 25 _ g1 ?_ r28_n Try.underlying25 ?_ ?_ ?_); exact rfl; exact rfl; exact Try.zNr) | ((with_reducible refine st_loadG 25 _ g1 ?_ r28_n Try.underlying25 ?_ ?_ ?_ ?_); exact rfl; exact rfl; exact Try.zNr; exact rfl)))
      (with_reducible refine (theirs_c n _).mono ?_)
      rintro e w31 ⟨rfl, b31⟩
      have r32_x := SO.on r27_x b31
      have r32_y := SO.on sm26_y b31
      have r33_n := le_on r28_n b31
      have r33_m := le_on r28_m b31
      have l33 := le_tr l28 b31
      clear r28_n r28_m l28
      clear r27_x sm26_y
      clear b31
      go_wp2_with fail
      (with_reducible refine (C1 _).mono ?_)
      rintro e w34 ⟨rfl, b34⟩
      have r35_x := SO.on r32_x b34
      have r35_y := SO.on r32_y b34
      have r36_n := le_on r33_n b34
      have r36_m := le_on r33_m b34
      have l36 := le_tr l33 b34
      clear r33_n r33_m l33
      clear r32_x r32_y
      clear b34
      go_wp2_with (first | (first | ((with_reducible refine st_load 25 _ g9 ?_ r36_m Try.underlying25 ?_ ?_ ?_); exact rfl; exact rfl; exact Try.zNr) | ((with_reducible refine st_loadG 25 _ g9 ?_ r36_m Try.underlying25 ?_ ?_ ?_ ?_); exact rfl; exact rfl; exact Try.zNr; exact rfl)))
      (with_reducible refine (theirs_c m _).mono ?_)
      rintro e w37 ⟨rfl, b37⟩
      have r38_x := SO.on r35_x b37
      have r38_y := SO.on r35_y b37
      have r39_n := le_on r36_n b37
      have r39_m := le_on r36_m b37
      have l39 := le_tr l36 b37
      clear r36_n r36_m l36
      clear r35_x r35_y
      clear b37
      go_wp2_with fail
      (with_reducible refine (C2 _).mono ?_)
      rintro e w40 ⟨rfl, b40⟩
      have r41_x := SO.on r38_x b40
      have r41_y := SO.on r38_y b40
      have r42_n := le_on r39_n b40
      have r42_m := le_on r39_m b40
      have l42 := le_tr l39 b40
      clear r39_n r39_m l39
      clear r38_x r38_y
      clear b40
      go_wp2_with fail
      go_ret
      exact ⟨rfl, l42⟩
    by_cases ht : RightN m
    · skip
      have q2 : decide (RightN n) = false := decide_eq_false hr
      have q3 : decide (RightN m) = true := decide_eq_true ht
      simp only [q2] at C1
      simp only [q3] at C2
      have HI := Lib.hid hi
      have HJ := Lib.hid hj
      have HR := Lib.hid hr
      have HT := Lib.hid ht
      have HK := Lib.hid hk
      have HM := Lib.hid hkm
      clear hi hj hr ht hk hkm hne q2 q3
      go_enter Try.func6, Try.ntmps6
      go_wp2_with (first | ((with_reducible refine st_box 25 _ (ntA n) ?_ ?_); exact rfl))
      refine ⟨fun V1 g1 n1 f1 => ?_⟩
      have up1 : w.heap.size ≤ g1 := Nat.le_of_eq f1.at_
      have bl1 := f1.bel
      clear f1
      have l3 := le_tr (Below.refl _ _) bl1
      clear bl1
      go_wp2_with fail
      (with_reducible refine (alive_c _).mono ?_)
      rintro e w4 ⟨rfl, b4⟩
      have r6_n := le_on n1 b4
      have l6 := le_tr l3 b4
      clear n1 l3
      clear b4
      have c7 : w4.cell? ⟨g1, 9, none⟩ = some (.string (n.cg)) := CB.cell r6_n 9
      go_wp2_with (first | (first | ((with_reducible refine st_load 25 _ g1 ?_ r6_n Try.underlying25 ?_ ?_ ?_); exact rfl; exact rfl; exact Try.zNr) | ((with_reducible refine st_loadG 25 _ g1 ?_ r6_n Try.underlying25 ?_ ?_ ?_ ?_); exact rfl; exact rfl; exact Try.zNr; exact rfl)) | ((with_reducible refine st_alloc 25 (ntA zN) ?_ ?_); exact zero_nr))
      refine ⟨fun V9 g9 n9 f9 => ?_⟩
      clear c7
      have ne9_n := f9.ne r6_n
      have up9 : w.heap.size ≤ g9 := f9.up l6
      have bl9 := f9.bel
      clear f9
      have r11_n := le_on r6_n bl9
      have l11 := le_tr l6 bl9
      clear r6_n l6
      clear bl9
      go_wp2_with (first | (first | ((with_reducible refine st_load 25 _ g1 ?_ r11_n Try.underlying25 ?_ ?_ ?_); exact rfl; exact rfl; exact Try.zNr) | ((with_reducible refine st_loadG 25 _ g1 ?_ r11_n Try.underlying25 ?_ ?_ ?_ ?_); exact rfl; exact rfl; exact Try.zNr; exact rfl)) | ((with_reducible refine st_store 25 _ _ g9 (ntA n) ?_ ?_ n9 ?_ ?_ ?_ ?_); exact rfl; exact rfl; exact Try.zNr; exact rfl; exact ntA_one _))
      refine ⟨fun V12 n12 k12 => ?_⟩
      have m12_n := k12.on r11_n ne9_n
      have o12 := k12.bel _ _ l11 up9
      clear k12
      clear n9 r11_n l11
      have c13 : V12.cell? ⟨g9, 0, none⟩ = some (.int .i64 (n.kd)) := CB.cell n12 0
      go_wp2_with (first | ((with_reducible refine st_cell 3 _ _ g9 0 (.int .i64 x) ?_ ?_ n12 (new := ntA m) ?_ ?_ ?_ ?_ ?_ ?_); exact rfl; exact rfl; exact (by rw [ntA_size]; decide); exact hst.out; exact one_i; exact rfl; exact rfl))
      refine ⟨fun V14 n14 k14 => ?_⟩
      clear c13
      have m14_n := k14.on m12_n ne9_n
      have o14 := k14.bel _ _ o12 up9
      clear k14
      clear n12 m12_n o12
      go_wp2_with (first | (first | ((with_reducible refine st_load 25 _ g1 ?_ m14_n Try.underlying25 ?_ ?_ ?_); exact rfl; exact rfl; exact Try.zNr) | ((with_reducible refine st_loadG 25 _ g1 ?_ m14_n Try.underlying25 ?_ ?_ ?_ ?_); exact rfl; exact rfl; exact Try.zNr; exact rfl)))
      (with_reducible refine (theirs_c n _).mono ?_)
      rintro e w15 ⟨rfl, b15⟩
      have r17_n := le_on m14_n b15
      have r17_m := le_on n14 b15
      have l17 := le_tr o14 b15
      clear m14_n n14 o14
      clear b15
      go_wp2_with (first | (first | ((with_reducible refine st_load 25 _ g1 ?_ r17_n Try.underlying25 ?_ ?_ ?_); exact rfl; exact rfl; exact Try.zNr) | ((with_reducible refine st_loadG 25 _ g1 ?_ r17_n Try.underlying25 ?_ ?_ ?_ ?_); exact rfl; exact rfl; exact Try.zNr; exact rfl)))
      have lt18_n := CB.lt r17_n
      have lt18_m := CB.lt r17_m
      have lb18 : w.heap.size ≤ w15.heap.size := Below.size (B := w.heap.size) l17
      (with_reducible refine (enc_not n _ HI.out HR.out).mono ?_)
      rintro e w18 ⟨A901, q901, G901, rfl, h901, b18⟩
      have r20_n := le_on r17_n b18
      have r20_m := le_on r17_m b18
      have l20 := le_tr l17 b18
      clear r17_n r17_m l17
      clear b18
      have na21 := SO.above h901 lt18_n
      have na22 := SO.above h901 lt18_m
      have sm18_x := SO.mono h901 lb18
      clear h901
      clear lb18 lt18_n lt18_m
      go_wp2_with (first | (first | ((with_reducible refine st_load 25 _ g9 ?_ r20_m Try.underlying25 ?_ ?_ ?_); exact rfl; exact rfl; exact Try.zNr) | ((with_reducible refine st_loadG 25 _ g9 ?_ r20_m Try.underlying25 ?_ ?_ ?_ ?_); exact rfl; exact rfl; exact Try.zNr; exact rfl)))
      (with_reducible refine (theirs_c m _).mono ?_)
      rintro e w23 ⟨rfl, b23⟩
      have r24_x := SO.on sm18_x b23
      have r25_n := le_on r20_n b23
      have r25_m := le_on r20_m b23
      have l25 := le_tr l20 b23
      clear r20_n r20_m l20
      clear sm18_x
      clear b23
      go_wp2_with (first | (first | ((with_reducible refine st_load 25 _ g9 ?_ r25_m Try.underlying25 ?_ ?_ ?_); exact rfl; exact rfl; exact Try.zNr) | ((with_reducible refine st_loadG 25 _ g9 ?_ r25_m Try.underlying25 ?_ ?_ ?_ ?_); exact rfl; exact rfl; exact Try.zNr; exact rfl)))
      have lt26_n := CB.lt r25_n
      have lt26_m := CB.lt r25_m
      have lb26 : w.heap.size ≤ w23.heap.size := Below.size (B := w.heap.size) l25
      (with_reducible refine (enc_yes m k _ HJ.out HT.out HM.out).mono ?_)
      rintro e w26 ⟨A902, q902, G902, rfl, h902, b26⟩
      have r27_x := SO.on r24_x b26
      have r28_n := le_on r25_n b26
      have r28_m := le_on r25_m b26
      have l28 := le_tr l25 b26
      clear r25_n r25_m l25
      clear r24_x
      clear b26
      have na29 := SO.above h902 lt26_n
      have na30 := SO.above h902 lt26_m
      have sm26_y := SO.mono h902 lb26
      clear h902
      clear lb26 lt26_n lt26_m
      go_wp2_with (first | (first | ((with_reducible refine st_load 25 _ g1 ?_ r28_n Try.underlying25 ?_ ?_ ?_); exact rfl; exact rfl; exact Try.zNr) | ((with_reducible refine st_loadG 25 _ g1 ?_ r28_n Try.underlying25 ?_ ?_ ?_ ?_); exact rfl; exact rfl; exact Try.zNr; exact rfl)))
      (with_reducible refine (theirs_c n _).mono ?_)
      rintro e w31 ⟨rfl, b31⟩
      have r32_x := SO.on r27_x b31
      have r32_y := SO.on sm26_y b31
      have r33_n := le_on r28_n b31
      have r33_m := le_on r28_m b31
      have l33 := le_tr l28 b31
      clear r28_n r28_m l28
      clear r27_x sm26_y
      clear b31
      go_wp2_with fail
      (with_reducible refine (C1 _).mono ?_)
      rintro e w34 ⟨rfl, b34⟩
      have r35_x := SO.on r32_x b34
      have r35_y := SO.on r32_y b34
      have r36_n := le_on r33_n b34
      have r36_m := le_on r33_m b34
      have l36 := le_tr l33 b34
      clear r33_n r33_m l33
      clear r32_x r32_y
      clear b34
      go_wp2_with (first | (first | ((with_reducible refine st_load 25 _ g9 ?_ r36_m Try.underlying25 ?_ ?_ ?_); exact rfl; exact rfl; exact Try.zNr) | ((with_reducible refine st_loadG 25 _ g9 ?_ r36_m Try.underlying25 ?_ ?_ ?_ ?_); exact rfl; exact rfl; exact Try.zNr; exact rfl)))
      (with_reducible refine (theirs_c m _).mono ?_)
      rintro e w37 ⟨rfl, b37⟩
      have r38_x := SO.on r35_x b37
      have r38_y := SO.on r35_y b37
      have r39_n := le_on r36_n b37
      have r39_m := le_on r36_m b37
      have l39 := le_tr l36 b37
      clear r36_n r36_m l36
      clear r35_x r35_y
      clear b37
      go_wp2_with fail
      (with_reducible refine (C2 _).mono ?_)
      rintro e w40 ⟨rfl, b40⟩
      have r41_x := SO.on r38_x b40
      have r41_y := SO.on r38_y b40
      have r42_n := le_on r39_n b40
      have r42_m := le_on r39_m b40
      have l42 := le_tr l39 b40
      clear r39_n r39_m l39
      clear r38_x r38_y
      clear b40
      go_wp2_with fail
      go_ret
      exact ⟨rfl, l42⟩
    have q2 : decide (RightN n) = false := decide_eq_false hr
    have q3 : decide (RightN m) = false := decide_eq_false ht
    simp only [q2] at C1
    simp only [q3] at C2
    have HI := Lib.hid hi
    have HJ := Lib.hid hj
    have HR := Lib.hid hr
    have HT := Lib.hid ht
    have HK := Lib.hid hk
    have HM := Lib.hid hkm
    clear hi hj hr ht hk hkm hne q2 q3
    go_enter Try.func6, Try.ntmps6
    go_wp2_with (first | ((with_reducible refine st_box 25 _ (ntA n) ?_ ?_); exact rfl))
    refine ⟨fun V1 g1 n1 f1 => ?_⟩
    have up1 : w.heap.size ≤ g1 := Nat.le_of_eq f1.at_
    have bl1 := f1.bel
    clear f1
    have l3 := le_tr (Below.refl _ _) bl1
    clear bl1
    go_wp2_with fail
    (with_reducible refine (alive_c _).mono ?_)
    rintro e w4 ⟨rfl, b4⟩
    have r6_n := le_on n1 b4
    have l6 := le_tr l3 b4
    clear n1 l3
    clear b4
    have c7 : w4.cell? ⟨g1, 9, none⟩ = some (.string (n.cg)) := CB.cell r6_n 9
    go_wp2_with (first | (first | ((with_reducible refine st_load 25 _ g1 ?_ r6_n Try.underlying25 ?_ ?_ ?_); exact rfl; exact rfl; exact Try.zNr) | ((with_reducible refine st_loadG 25 _ g1 ?_ r6_n Try.underlying25 ?_ ?_ ?_ ?_); exact rfl; exact rfl; exact Try.zNr; exact rfl)) | ((with_reducible refine st_alloc 25 (ntA zN) ?_ ?_); exact zero_nr))
    refine ⟨fun V9 g9 n9 f9 => ?_⟩
    clear c7
    have ne9_n := f9.ne r6_n
    have up9 : w.heap.size ≤ g9 := f9.up l6
    have bl9 := f9.bel
    clear f9
    have r11_n := le_on r6_n bl9
    have l11 := le_tr l6 bl9
    clear r6_n l6
    clear bl9
    go_wp2_with (first | (first | ((with_reducible refine st_load 25 _ g1 ?_ r11_n Try.underlying25 ?_ ?_ ?_); exact rfl; exact rfl; exact Try.zNr) | ((with_reducible refine st_loadG 25 _ g1 ?_ r11_n Try.underlying25 ?_ ?_ ?_ ?_); exact rfl; exact rfl; exact Try.zNr; exact rfl)) | ((with_reducible refine st_store 25 _ _ g9 (ntA n) ?_ ?_ n9 ?_ ?_ ?_ ?_); exact rfl; exact rfl; exact Try.zNr; exact rfl; exact ntA_one _))
    refine ⟨fun V12 n12 k12 => ?_⟩
    have m12_n := k12.on r11_n ne9_n
    have o12 := k12.bel _ _ l11 up9
    clear k12
    clear n9 r11_n l11
    have c13 : V12.cell? ⟨g9, 0, none⟩ = some (.int .i64 (n.kd)) := CB.cell n12 0
    go_wp2_with (first | ((with_reducible refine st_cell 3 _ _ g9 0 (.int .i64 x) ?_ ?_ n12 (new := ntA m) ?_ ?_ ?_ ?_ ?_ ?_); exact rfl; exact rfl; exact (by rw [ntA_size]; decide); exact hst.out; exact one_i; exact rfl; exact rfl))
    refine ⟨fun V14 n14 k14 => ?_⟩
    clear c13
    have m14_n := k14.on m12_n ne9_n
    have o14 := k14.bel _ _ o12 up9
    clear k14
    clear n12 m12_n o12
    go_wp2_with (first | (first | ((with_reducible refine st_load 25 _ g1 ?_ m14_n Try.underlying25 ?_ ?_ ?_); exact rfl; exact rfl; exact Try.zNr) | ((with_reducible refine st_loadG 25 _ g1 ?_ m14_n Try.underlying25 ?_ ?_ ?_ ?_); exact rfl; exact rfl; exact Try.zNr; exact rfl)))
    (with_reducible refine (theirs_c n _).mono ?_)
    rintro e w15 ⟨rfl, b15⟩
    have r17_n := le_on m14_n b15
    have r17_m := le_on n14 b15
    have l17 := le_tr o14 b15
    clear m14_n n14 o14
    clear b15
    go_wp2_with (first | (first | ((with_reducible refine st_load 25 _ g1 ?_ r17_n Try.underlying25 ?_ ?_ ?_); exact rfl; exact rfl; exact Try.zNr) | ((with_reducible refine st_loadG 25 _ g1 ?_ r17_n Try.underlying25 ?_ ?_ ?_ ?_); exact rfl; exact rfl; exact Try.zNr; exact rfl)))
    have lt18_n := CB.lt r17_n
    have lt18_m := CB.lt r17_m
    have lb18 : w.heap.size ≤ w15.heap.size := Below.size (B := w.heap.size) l17
    (with_reducible refine (enc_not n _ HI.out HR.out).mono ?_)
    rintro e w18 ⟨A901, q901, G901, rfl, h901, b18⟩
    have r20_n := le_on r17_n b18
    have r20_m := le_on r17_m b18
    have l20 := le_tr l17 b18
    clear r17_n r17_m l17
    clear b18
    have na21 := SO.above h901 lt18_n
    have na22 := SO.above h901 lt18_m
    have sm18_x := SO.mono h901 lb18
    clear h901
    clear lb18 lt18_n lt18_m
    go_wp2_with (first | (first | ((with_reducible refine st_load 25 _ g9 ?_ r20_m Try.underlying25 ?_ ?_ ?_); exact rfl; exact rfl; exact Try.zNr) | ((with_reducible refine st_loadG 25 _ g9 ?_ r20_m Try.underlying25 ?_ ?_ ?_ ?_); exact rfl; exact rfl; exact Try.zNr; exact rfl)))
    (with_reducible refine (theirs_c m _).mono ?_)
    rintro e w23 ⟨rfl, b23⟩
    have r24_x := SO.on sm18_x b23
    have r25_n := le_on r20_n b23
    have r25_m := le_on r20_m b23
    have l25 := le_tr l20 b23
    clear r20_n r20_m l20
    clear sm18_x
    clear b23
    go_wp2_with (first | (first | ((with_reducible refine st_load 25 _ g9 ?_ r25_m Try.underlying25 ?_ ?_ ?_); exact rfl; exact rfl; exact Try.zNr) | ((with_reducible refine st_loadG 25 _ g9 ?_ r25_m Try.underlying25 ?_ ?_ ?_ ?_); exact rfl; exact rfl; exact Try.zNr; exact rfl)))
    have lt26_n := CB.lt r25_n
    have lt26_m := CB.lt r25_m
    have lb26 : w.heap.size ≤ w23.heap.size := Below.size (B := w.heap.size) l25
    (with_reducible refine (enc_not m _ HJ.out HT.out).mono ?_)
    rintro e w26 ⟨A902, q902, G902, rfl, h902, b26⟩
    have r27_x := SO.on r24_x b26
    have r28_n := le_on r25_n b26
    have r28_m := le_on r25_m b26
    have l28 := le_tr l25 b26
    clear r25_n r25_m l25
    clear r24_x
    clear b26
    have na29 := SO.above h902 lt26_n
    have na30 := SO.above h902 lt26_m
    have sm26_y := SO.mono h902 lb26
    clear h902
    clear lb26 lt26_n lt26_m
    go_wp2_with (first | (first | ((with_reducible refine st_load 25 _ g1 ?_ r28_n Try.underlying25 ?_ ?_ ?_); exact rfl; exact rfl; exact Try.zNr) | ((with_reducible refine st_loadG 25 _ g1 ?_ r28_n Try.underlying25 ?_ ?_ ?_ ?_); exact rfl; exact rfl; exact Try.zNr; exact rfl)))
    (with_reducible refine (theirs_c n _).mono ?_)
    rintro e w31 ⟨rfl, b31⟩
    have r32_x := SO.on r27_x b31
    have r32_y := SO.on sm26_y b31
    have r33_n := le_on r28_n b31
    have r33_m := le_on r28_m b31
    have l33 := le_tr l28 b31
    clear r28_n r28_m l28
    clear r27_x sm26_y
    clear b31
    go_wp2_with fail
    (with_reducible refine (C1 _).mono ?_)
    rintro e w34 ⟨rfl, b34⟩
    have r35_x := SO.on r32_x b34
    have r35_y := SO.on r32_y b34
    have r36_n := le_on r33_n b34
    have r36_m := le_on r33_m b34
    have l36 := le_tr l33 b34
    clear r33_n r33_m l33
    clear r32_x r32_y
    clear b34
    go_wp2_with (first | (first | ((with_reducible refine st_load 25 _ g9 ?_ r36_m Try.underlying25 ?_ ?_ ?_); exact rfl; exact rfl; exact Try.zNr) | ((with_reducible refine st_loadG 25 _ g9 ?_ r36_m Try.underlying25 ?_ ?_ ?_ ?_); exact rfl; exact rfl; exact Try.zNr; exact rfl)))
    (with_reducible refine (theirs_c m _).mono ?_)
    rintro e w37 ⟨rfl, b37⟩
    have r38_x := SO.on r35_x b37
    have r38_y := SO.on r35_y b37
    have r39_n := le_on r36_n b37
    have r39_m := le_on r36_m b37
    have l39 := le_tr l36 b37
    clear r36_n r36_m l36
    clear r35_x r35_y
    clear b37
    go_wp2_with fail
    (with_reducible refine (C2 _).mono ?_)
    rintro e w40 ⟨rfl, b40⟩
    have r41_x := SO.on r38_x b40
    have r41_y := SO.on r38_y b40
    have r42_n := le_on r39_n b40
    have r42_m := le_on r39_m b40
    have l42 := le_tr l39 b40
    clear r39_n r39_m l39
    clear r38_x r38_y
    clear b40
    go_wp2_with fail
    go_ret
    exact ⟨rfl, l42⟩
  by_cases c1 : r = 1
  · skip
    subst c1
    obtain ⟨x, hx⟩ : ∃ x, IntKind.u8.wrap (n.mb + 1) = x := ⟨_, rfl⟩
    obtain ⟨m, hm⟩ : ∃ m : Nt, { n with mb := x } = m := ⟨_, rfl⟩
    have hne : ¬ n = m := by rw [← hm]; intro e; have e2 := congrArg Nt.mb e; simp only at e2; rw [← hx] at e2; exact wrap_ne8 _ e2
    have hj : InN m := by rw [← hm]; exact ⟨by rw [← hx]; exact wrap_8 _, hi.2⟩
    have hkm : 25 + m.cg.size = k := by rw [← hm]; exact hk
    have hst := Lib.hid (show (ntA n).setIfInBounds 1 (.int .u8 x) = ntA m by rw [← hm]; rfl)
    have C2 := fun W => right_c m W
    clear hm
    by_cases hr : RightN n
    · by_cases ht : RightN m
      · skip
        have q2 : decide (RightN n) = true := decide_eq_true hr
        have q3 : decide (RightN m) = true := decide_eq_true ht
        simp only [q2] at C1
        simp only [q3] at C2
        have qn := by_ne hi hj hr ht hne
        have HI := Lib.hid hi
        have HJ := Lib.hid hj
        have HR := Lib.hid hr
        have HT := Lib.hid ht
        have HK := Lib.hid hk
        have HM := Lib.hid hkm
        clear hi hj hr ht hk hkm hne q2 q3
        go_enter Try.func6, Try.ntmps6
        go_wp2_with (first | ((with_reducible refine st_box 25 _ (ntA n) ?_ ?_); exact rfl))
        refine ⟨fun V1 g1 n1 f1 => ?_⟩
        have up1 : w.heap.size ≤ g1 := Nat.le_of_eq f1.at_
        have bl1 := f1.bel
        clear f1
        have l3 := le_tr (Below.refl _ _) bl1
        clear bl1
        go_wp2_with fail
        (with_reducible refine (alive_c _).mono ?_)
        rintro e w4 ⟨rfl, b4⟩
        have r6_n := le_on n1 b4
        have l6 := le_tr l3 b4
        clear n1 l3
        clear b4
        have c7 : w4.cell? ⟨g1, 9, none⟩ = some (.string (n.cg)) := CB.cell r6_n 9
        go_wp2_with (first | (first | ((with_reducible refine st_load 25 _ g1 ?_ r6_n Try.underlying25 ?_ ?_ ?_); exact rfl; exact rfl; exact Try.zNr) | ((with_reducible refine st_loadG 25 _ g1 ?_ r6_n Try.underlying25 ?_ ?_ ?_ ?_); exact rfl; exact rfl; exact Try.zNr; exact rfl)) | ((with_reducible refine st_alloc 25 (ntA zN) ?_ ?_); exact zero_nr))
        refine ⟨fun V9 g9 n9 f9 => ?_⟩
        clear c7
        have ne9_n := f9.ne r6_n
        have up9 : w.heap.size ≤ g9 := f9.up l6
        have bl9 := f9.bel
        clear f9
        have r11_n := le_on r6_n bl9
        have l11 := le_tr l6 bl9
        clear r6_n l6
        clear bl9
        go_wp2_with (first | (first | ((with_reducible refine st_load 25 _ g1 ?_ r11_n Try.underlying25 ?_ ?_ ?_); exact rfl; exact rfl; exact Try.zNr) | ((with_reducible refine st_loadG 25 _ g1 ?_ r11_n Try.underlying25 ?_ ?_ ?_ ?_); exact rfl; exact rfl; exact Try.zNr; exact rfl)) | ((with_reducible refine st_store 25 _ _ g9 (ntA n) ?_ ?_ n9 ?_ ?_ ?_ ?_); exact rfl; exact rfl; exact Try.zNr; exact rfl; exact ntA_one _))
        refine ⟨fun V12 n12 k12 => ?_⟩
        have m12_n := k12.on r11_n ne9_n
        have o12 := k12.bel _ _ l11 up9
        clear k12
        clear n9 r11_n l11
        have c13 : V12.cell? ⟨g9, 1, none⟩ = some (.int .u8 (n.mb)) := CB.cell n12 1
        go_wp2_with (first | ((with_reducible refine st_cell 5 _ _ g9 1 (.int .u8 x) ?_ ?_ n12 (new := ntA m) ?_ ?_ ?_ ?_ ?_ ?_); exact rfl; exact rfl; exact (by rw [ntA_size]; decide); exact hst.out; exact one_b8; exact rfl; exact rfl))
        refine ⟨fun V14 n14 k14 => ?_⟩
        clear c13
        have m14_n := k14.on m12_n ne9_n
        have o14 := k14.bel _ _ o12 up9
        clear k14
        clear n12 m12_n o12
        go_wp2_with (first | (first | ((with_reducible refine st_load 25 _ g1 ?_ m14_n Try.underlying25 ?_ ?_ ?_); exact rfl; exact rfl; exact Try.zNr) | ((with_reducible refine st_loadG 25 _ g1 ?_ m14_n Try.underlying25 ?_ ?_ ?_ ?_); exact rfl; exact rfl; exact Try.zNr; exact rfl)))
        (with_reducible refine (theirs_c n _).mono ?_)
        rintro e w15 ⟨rfl, b15⟩
        have r17_n := le_on m14_n b15
        have r17_m := le_on n14 b15
        have l17 := le_tr o14 b15
        clear m14_n n14 o14
        clear b15
        go_wp2_with (first | (first | ((with_reducible refine st_load 25 _ g1 ?_ r17_n Try.underlying25 ?_ ?_ ?_); exact rfl; exact rfl; exact Try.zNr) | ((with_reducible refine st_loadG 25 _ g1 ?_ r17_n Try.underlying25 ?_ ?_ ?_ ?_); exact rfl; exact rfl; exact Try.zNr; exact rfl)))
        have lt18_n := CB.lt r17_n
        have lt18_m := CB.lt r17_m
        have lb18 : w.heap.size ≤ w15.heap.size := Below.size (B := w.heap.size) l17
        (with_reducible refine (enc_yes n k _ HI.out HR.out HK.out).mono ?_)
        rintro e w18 ⟨A901, q901, G901, rfl, h901, b18⟩
        have r20_n := le_on r17_n b18
        have r20_m := le_on r17_m b18
        have l20 := le_tr l17 b18
        clear r17_n r17_m l17
        clear b18
        have na21 := SO.above h901 lt18_n
        have na22 := SO.above h901 lt18_m
        have sm18_x := SO.mono h901 lb18
        clear h901
        clear lb18 lt18_n lt18_m
        go_wp2_with (first | (first | ((with_reducible refine st_load 25 _ g9 ?_ r20_m Try.underlying25 ?_ ?_ ?_); exact rfl; exact rfl; exact Try.zNr) | ((with_reducible refine st_loadG 25 _ g9 ?_ r20_m Try.underlying25 ?_ ?_ ?_ ?_); exact rfl; exact rfl; exact Try.zNr; exact rfl)))
        (with_reducible refine (theirs_c m _).mono ?_)
        rintro e w23 ⟨rfl, b23⟩
        have r24_x := SO.on sm18_x b23
        have r25_n := le_on r20_n b23
        have r25_m := le_on r20_m b23
        have l25 := le_tr l20 b23
        clear r20_n r20_m l20
        clear sm18_x
        clear b23
        go_wp2_with (first | (first | ((with_reducible refine st_load 25 _ g9 ?_ r25_m Try.underlying25 ?_ ?_ ?_); exact rfl; exact rfl; exact Try.zNr) | ((with_reducible refine st_loadG 25 _ g9 ?_ r25_m Try.underlying25 ?_ ?_ ?_ ?_); exact rfl; exact rfl; exact Try.zNr; exact rfl)))
        have lt26_n := CB.lt r25_n
        have lt26_m := CB.lt r25_m
        have lb26 : w.heap.size ≤ w23.heap.size := Below.size (B := w.heap.size) l25
        (with_reducible refine (enc_yes m k _ HJ.out HT.out HM.out).mono ?_)
        rintro e w26 ⟨A902, q902, G902, rfl, h902, b26⟩
        have r27_x := SO.on r24_x b26
        have r28_n := le_on r25_n b26
        have r28_m := le_on r25_m b26
        have l28 := le_tr l25 b26
        clear r25_n r25_m l25
        clear r24_x
        clear b26
        have na29 := SO.above h902 lt26_n
        have na30 := SO.above h902 lt26_m
        have sm26_y := SO.mono h902 lb26
        clear h902
        clear lb26 lt26_n lt26_m
        go_wp2_with (first | (first | ((with_reducible refine st_load 25 _ g1 ?_ r28_n Try.underlying25 ?_ ?_ ?_); exact rfl; exact rfl; exact Try.zNr) | ((with_reducible refine st_loadG 25 _ g1 ?_ r28_n Try.underlying25 ?_ ?_ ?_ ?_); exact rfl; exact rfl; exact Try.zNr; exact rfl)))
        (with_reducible refine (theirs_c n _).mono ?_)
        rintro e w31 ⟨rfl, b31⟩
        have r32_x := SO.on r27_x b31
        have r32_y := SO.on sm26_y b31
        have r33_n := le_on r28_n b31
        have r33_m := le_on r28_m b31
        have l33 := le_tr l28 b31
        clear r28_n r28_m l28
        clear r27_x sm26_y
        clear b31
        go_wp2_with fail
        (with_reducible refine (C1 _).mono ?_)
        rintro e w34 ⟨rfl, b34⟩
        have r35_x := SO.on r32_x b34
        have r35_y := SO.on r32_y b34
        have r36_n := le_on r33_n b34
        have r36_m := le_on r33_m b34
        have l36 := le_tr l33 b34
        clear r33_n r33_m l33
        clear r32_x r32_y
        clear b34
        go_wp2_with (first | (first | ((with_reducible refine st_load 25 _ g9 ?_ r36_m Try.underlying25 ?_ ?_ ?_); exact rfl; exact rfl; exact Try.zNr) | ((with_reducible refine st_loadG 25 _ g9 ?_ r36_m Try.underlying25 ?_ ?_ ?_ ?_); exact rfl; exact rfl; exact Try.zNr; exact rfl)))
        (with_reducible refine (theirs_c m _).mono ?_)
        rintro e w37 ⟨rfl, b37⟩
        have r38_x := SO.on r35_x b37
        have r38_y := SO.on r35_y b37
        have r39_n := le_on r36_n b37
        have r39_m := le_on r36_m b37
        have l39 := le_tr l36 b37
        clear r36_n r36_m l36
        clear r35_x r35_y
        clear b37
        go_wp2_with fail
        (with_reducible refine (C2 _).mono ?_)
        rintro e w40 ⟨rfl, b40⟩
        have r41_x := SO.on r38_x b40
        have r41_y := SO.on r38_y b40
        have r42_n := le_on r39_n b40
        have r42_m := le_on r39_m b40
        have l42 := le_tr l39 b40
        clear r39_n r39_m l39
        clear r38_x r38_y
        clear b40
        have v1 := conv_C _ _ _ _ _ (SO.rr r41_x)
        have v2 := conv_C _ _ _ _ _ (SO.rr r41_y)
        go_wp2_with fail
        go_ret
        exact ⟨rfl, l42⟩
      have q2 : decide (RightN n) = true := decide_eq_true hr
      have q3 : decide (RightN m) = false := decide_eq_false ht
      simp only [q2] at C1
      simp only [q3] at C2
      have HI := Lib.hid hi
      have HJ := Lib.hid hj
      have HR := Lib.hid hr
      have HT := Lib.hid ht
      have HK := Lib.hid hk
      have HM := Lib.hid hkm
      clear hi hj hr ht hk hkm hne q2 q3
      go_enter Try.func6, Try.ntmps6
      go_wp2_with (first | ((with_reducible refine st_box 25 _ (ntA n) ?_ ?_); exact rfl))
      refine ⟨fun V1 g1 n1 f1 => ?_⟩
      have up1 : w.heap.size ≤ g1 := Nat.le_of_eq f1.at_
      have bl1 := f1.bel
      clear f1
      have l3 := le_tr (Below.refl _ _) bl1
      clear bl1
      go_wp2_with fail
      (with_reducible refine (alive_c _).mono ?_)
      rintro e w4 ⟨rfl, b4⟩
      have r6_n := le_on n1 b4
      have l6 := le_tr l3 b4
      clear n1 l3
      clear b4
      have c7 : w4.cell? ⟨g1, 9, none⟩ = some (.string (n.cg)) := CB.cell r6_n 9
      go_wp2_with (first | (first | ((with_reducible refine st_load 25 _ g1 ?_ r6_n Try.underlying25 ?_ ?_ ?_); exact rfl; exact rfl; exact Try.zNr) | ((with_reducible refine st_loadG 25 _ g1 ?_ r6_n Try.underlying25 ?_ ?_ ?_ ?_); exact rfl; exact rfl; exact Try.zNr; exact rfl)) | ((with_reducible refine st_alloc 25 (ntA zN) ?_ ?_); exact zero_nr))
      refine ⟨fun V9 g9 n9 f9 => ?_⟩
      clear c7
      have ne9_n := f9.ne r6_n
      have up9 : w.heap.size ≤ g9 := f9.up l6
      have bl9 := f9.bel
      clear f9
      have r11_n := le_on r6_n bl9
      have l11 := le_tr l6 bl9
      clear r6_n l6
      clear bl9
      go_wp2_with (first | (first | ((with_reducible refine st_load 25 _ g1 ?_ r11_n Try.underlying25 ?_ ?_ ?_); exact rfl; exact rfl; exact Try.zNr) | ((with_reducible refine st_loadG 25 _ g1 ?_ r11_n Try.underlying25 ?_ ?_ ?_ ?_); exact rfl; exact rfl; exact Try.zNr; exact rfl)) | ((with_reducible refine st_store 25 _ _ g9 (ntA n) ?_ ?_ n9 ?_ ?_ ?_ ?_); exact rfl; exact rfl; exact Try.zNr; exact rfl; exact ntA_one _))
      refine ⟨fun V12 n12 k12 => ?_⟩
      have m12_n := k12.on r11_n ne9_n
      have o12 := k12.bel _ _ l11 up9
      clear k12
      clear n9 r11_n l11
      have c13 : V12.cell? ⟨g9, 1, none⟩ = some (.int .u8 (n.mb)) := CB.cell n12 1
      go_wp2_with (first | ((with_reducible refine st_cell 5 _ _ g9 1 (.int .u8 x) ?_ ?_ n12 (new := ntA m) ?_ ?_ ?_ ?_ ?_ ?_); exact rfl; exact rfl; exact (by rw [ntA_size]; decide); exact hst.out; exact one_b8; exact rfl; exact rfl))
      refine ⟨fun V14 n14 k14 => ?_⟩
      clear c13
      have m14_n := k14.on m12_n ne9_n
      have o14 := k14.bel _ _ o12 up9
      clear k14
      clear n12 m12_n o12
      go_wp2_with (first | (first | ((with_reducible refine st_load 25 _ g1 ?_ m14_n Try.underlying25 ?_ ?_ ?_); exact rfl; exact rfl; exact Try.zNr) | ((with_reducible refine st_loadG 25 _ g1 ?_ m14_n Try.underlying25 ?_ ?_ ?_ ?_); exact rfl; exact rfl; exact Try.zNr; exact rfl)))
      (with_reducible refine (theirs_c n _).mono ?_)
      rintro e w15 ⟨rfl, b15⟩
      have r17_n := le_on m14_n b15
      have r17_m := le_on n14 b15
      have l17 := le_tr o14 b15
      clear m14_n n14 o14
      clear b15
      go_wp2_with (first | (first | ((with_reducible refine st_load 25 _ g1 ?_ r17_n Try.underlying25 ?_ ?_ ?_); exact rfl; exact rfl; exact Try.zNr) | ((with_reducible refine st_loadG 25 _ g1 ?_ r17_n Try.underlying25 ?_ ?_ ?_ ?_); exact rfl; exact rfl; exact Try.zNr; exact rfl)))
      have lt18_n := CB.lt r17_n
      have lt18_m := CB.lt r17_m
      have lb18 : w.heap.size ≤ w15.heap.size := Below.size (B := w.heap.size) l17
      (with_reducible refine (enc_yes n k _ HI.out HR.out HK.out).mono ?_)
      rintro e w18 ⟨A901, q901, G901, rfl, h901, b18⟩
      have r20_n := le_on r17_n b18
      have r20_m := le_on r17_m b18
      have l20 := le_tr l17 b18
      clear r17_n r17_m l17
      clear b18
      have na21 := SO.above h901 lt18_n
      have na22 := SO.above h901 lt18_m
      have sm18_x := SO.mono h901 lb18
      clear h901
      clear lb18 lt18_n lt18_m
      go_wp2_with (first | (first | ((with_reducible refine st_load 25 _ g9 ?_ r20_m Try.underlying25 ?_ ?_ ?_); exact rfl; exact rfl; exact Try.zNr) | ((with_reducible refine st_loadG 25 _ g9 ?_ r20_m Try.underlying25 ?_ ?_ ?_ ?_); exact rfl; exact rfl; exact Try.zNr; exact rfl)))
      (with_reducible refine (theirs_c m _).mono ?_)
      rintro e w23 ⟨rfl, b23⟩
      have r24_x := SO.on sm18_x b23
      have r25_n := le_on r20_n b23
      have r25_m := le_on r20_m b23
      have l25 := le_tr l20 b23
      clear r20_n r20_m l20
      clear sm18_x
      clear b23
      go_wp2_with (first | (first | ((with_reducible refine st_load 25 _ g9 ?_ r25_m Try.underlying25 ?_ ?_ ?_); exact rfl; exact rfl; exact Try.zNr) | ((with_reducible refine st_loadG 25 _ g9 ?_ r25_m Try.underlying25 ?_ ?_ ?_ ?_); exact rfl; exact rfl; exact Try.zNr; exact rfl)))
      have lt26_n := CB.lt r25_n
      have lt26_m := CB.lt r25_m
      have lb26 : w.heap.size ≤ w23.heap.size := Below.size (B := w.heap.size) l25
      (with_reducible refine (enc_not m _ HJ.out HT.out).mono ?_)
      rintro e w26 ⟨A902, q902, G902, rfl, h902, b26⟩
      have r27_x := SO.on r24_x b26
      have r28_n := le_on r25_n b26
      have r28_m := le_on r25_m b26
      have l28 := le_tr l25 b26
      clear r25_n r25_m l25
      clear r24_x
      clear b26
      have na29 := SO.above h902 lt26_n
      have na30 := SO.above h902 lt26_m
      have sm26_y := SO.mono h902 lb26
      clear h902
      clear lb26 lt26_n lt26_m
      go_wp2_with (first | (first | ((with_reducible refine st_load 25 _ g1 ?_ r28_n Try.underlying25 ?_ ?_ ?_); exact rfl; exact rfl; exact Try.zNr) | ((with_reducible refine st_loadG 25 _ g1 ?_ r28_n Try.underlying25 ?_ ?_ ?_ ?_); exact rfl; exact rfl; exact Try.zNr; exact rfl)))
      (with_reducible refine (theirs_c n _).mono ?_)
      rintro e w31 ⟨rfl, b31⟩
      have r32_x := SO.on r27_x b31
      have r32_y := SO.on sm26_y b31
      have r33_n := le_on r28_n b31
      have r33_m := le_on r28_m b31
      have l33 := le_tr l28 b31
      clear r28_n r28_m l28
      clear r27_x sm26_y
      clear b31
      go_wp2_with fail
      (with_reducible refine (C1 _).mono ?_)
      rintro e w34 ⟨rfl, b34⟩
      have r35_x := SO.on r32_x b34
      have r35_y := SO.on r32_y b34
      have r36_n := le_on r33_n b34
      have r36_m := le_on r33_m b34
      have l36 := le_tr l33 b34
      clear r33_n r33_m l33
      clear r32_x r32_y
      clear b34
      go_wp2_with (first | (first | ((with_reducible refine st_load 25 _ g9 ?_ r36_m Try.underlying25 ?_ ?_ ?_); exact rfl; exact rfl; exact Try.zNr) | ((with_reducible refine st_loadG 25 _ g9 ?_ r36_m Try.underlying25 ?_ ?_ ?_ ?_); exact rfl; exact rfl; exact Try.zNr; exact rfl)))
      (with_reducible refine (theirs_c m _).mono ?_)
      rintro e w37 ⟨rfl, b37⟩
      have r38_x := SO.on r35_x b37
      have r38_y := SO.on r35_y b37
      have r39_n := le_on r36_n b37
      have r39_m := le_on r36_m b37
      have l39 := le_tr l36 b37
      clear r36_n r36_m l36
      clear r35_x r35_y
      clear b37
      go_wp2_with fail
      (with_reducible refine (C2 _).mono ?_)
      rintro e w40 ⟨rfl, b40⟩
      have r41_x := SO.on r38_x b40
      have r41_y := SO.on r38_y b40
      have r42_n := le_on r39_n b40
      have r42_m := le_on r39_m b40
      have l42 := le_tr l39 b40
      clear r39_n r39_m l39
      clear r38_x r38_y
      clear b40
      go_wp2_with fail
      go_ret
      exact ⟨rfl, l42⟩
    by_cases ht : RightN m
    · skip
      have q2 : decide (RightN n) = false := decide_eq_false hr
      have q3 : decide (RightN m) = true := decide_eq_true ht
      simp only [q2] at C1
      simp only [q3] at C2
      have HI := Lib.hid hi
      have HJ := Lib.hid hj
      have HR := Lib.hid hr
      have HT := Lib.hid ht
      have HK := Lib.hid hk
      have HM := Lib.hid hkm
      clear hi hj hr ht hk hkm hne q2 q3
      go_enter Try.func6, Try.ntmps6
      go_wp2_with (first | ((with_reducible refine st_box 25 _ (ntA n) ?_ ?_); exact rfl))
      refine ⟨fun V1 g1 n1 f1 => ?_⟩
      have up1 : w.heap.size ≤ g1 := Nat.le_of_eq f1.at_
      have bl1 := f1.bel
      clear f1
      have l3 := le_tr (Below.refl _ _) bl1
      clear bl1
      go_wp2_with fail
      (with_reducible refine (alive_c _).mono ?_)
      rintro e w4 ⟨rfl, b4⟩
      have r6_n := le_on n1 b4
      have l6 := le_tr l3 b4
      clear n1 l3
      clear b4
      have c7 : w4.cell? ⟨g1, 9, none⟩ = some (.string (n.cg)) := CB.cell r6_n 9
      go_wp2_with (first | (first | ((with_reducible refine st_load 25 _ g1 ?_ r6_n Try.underlying25 ?_ ?_ ?_); exact rfl; exact rfl; exact Try.zNr) | ((with_reducible refine st_loadG 25 _ g1 ?_ r6_n Try.underlying25 ?_ ?_ ?_ ?_); exact rfl; exact rfl; exact Try.zNr; exact rfl)) | ((with_reducible refine st_alloc 25 (ntA zN) ?_ ?_); exact zero_nr))
      refine ⟨fun V9 g9 n9 f9 => ?_⟩
      clear c7
      have ne9_n := f9.ne r6_n
      have up9 : w.heap.size ≤ g9 := f9.up l6
      have bl9 := f9.bel
      clear f9
      have r11_n := le_on r6_n bl9
      have l11 := le_tr l6 bl9
      clear r6_n l6
      clear bl9
      go_wp2_with (first | (first | ((with_reducible refine st_load 25 _ g1 ?_ r11_n Try.underlying25 ?_ ?_ ?_); exact rfl; exact rfl; exact Try.zNr) | ((with_reducible refine st_loadG 25 _ g1 ?_ r11_n Try.underlying25 ?_ ?_ ?_ ?_); exact rfl; exact rfl; exact Try.zNr; exact rfl)) | ((with_reducible refine st_store 25 _ _ g9 (ntA n) ?_ ?_ n9 ?_ ?_ ?_ ?_); exact rfl; exact rfl; exact Try.zNr; exact rfl; exact ntA_one _))
      refine ⟨fun V12 n12 k12 => ?_⟩
      have m12_n := k12.on r11_n ne9_n
      have o12 := k12.bel _ _ l11 up9
      clear k12
      clear n9 r11_n l11
      have c13 : V12.cell? ⟨g9, 1, none⟩ = some (.int .u8 (n.mb)) := CB.cell n12 1
      go_wp2_with (first | ((with_reducible refine st_cell 5 _ _ g9 1 (.int .u8 x) ?_ ?_ n12 (new := ntA m) ?_ ?_ ?_ ?_ ?_ ?_); exact rfl; exact rfl; exact (by rw [ntA_size]; decide); exact hst.out; exact one_b8; exact rfl; exact rfl))
      refine ⟨fun V14 n14 k14 => ?_⟩
      clear c13
      have m14_n := k14.on m12_n ne9_n
      have o14 := k14.bel _ _ o12 up9
      clear k14
      clear n12 m12_n o12
      go_wp2_with (first | (first | ((with_reducible refine st_load 25 _ g1 ?_ m14_n Try.underlying25 ?_ ?_ ?_); exact rfl; exact rfl; exact Try.zNr) | ((with_reducible refine st_loadG 25 _ g1 ?_ m14_n Try.underlying25 ?_ ?_ ?_ ?_); exact rfl; exact rfl; exact Try.zNr; exact rfl)))
      (with_reducible refine (theirs_c n _).mono ?_)
      rintro e w15 ⟨rfl, b15⟩
      have r17_n := le_on m14_n b15
      have r17_m := le_on n14 b15
      have l17 := le_tr o14 b15
      clear m14_n n14 o14
      clear b15
      go_wp2_with (first | (first | ((with_reducible refine st_load 25 _ g1 ?_ r17_n Try.underlying25 ?_ ?_ ?_); exact rfl; exact rfl; exact Try.zNr) | ((with_reducible refine st_loadG 25 _ g1 ?_ r17_n Try.underlying25 ?_ ?_ ?_ ?_); exact rfl; exact rfl; exact Try.zNr; exact rfl)))
      have lt18_n := CB.lt r17_n
      have lt18_m := CB.lt r17_m
      have lb18 : w.heap.size ≤ w15.heap.size := Below.size (B := w.heap.size) l17
      (with_reducible refine (enc_not n _ HI.out HR.out).mono ?_)
      rintro e w18 ⟨A901, q901, G901, rfl, h901, b18⟩
      have r20_n := le_on r17_n b18
      have r20_m := le_on r17_m b18
      have l20 := le_tr l17 b18
      clear r17_n r17_m l17
      clear b18
      have na21 := SO.above h901 lt18_n
      have na22 := SO.above h901 lt18_m
      have sm18_x := SO.mono h901 lb18
      clear h901
      clear lb18 lt18_n lt18_m
      go_wp2_with (first | (first | ((with_reducible refine st_load 25 _ g9 ?_ r20_m Try.underlying25 ?_ ?_ ?_); exact rfl; exact rfl; exact Try.zNr) | ((with_reducible refine st_loadG 25 _ g9 ?_ r20_m Try.underlying25 ?_ ?_ ?_ ?_); exact rfl; exact rfl; exact Try.zNr; exact rfl)))
      (with_reducible refine (theirs_c m _).mono ?_)
      rintro e w23 ⟨rfl, b23⟩
      have r24_x := SO.on sm18_x b23
      have r25_n := le_on r20_n b23
      have r25_m := le_on r20_m b23
      have l25 := le_tr l20 b23
      clear r20_n r20_m l20
      clear sm18_x
      clear b23
      go_wp2_with (first | (first | ((with_reducible refine st_load 25 _ g9 ?_ r25_m Try.underlying25 ?_ ?_ ?_); exact rfl; exact rfl; exact Try.zNr) | ((with_reducible refine st_loadG 25 _ g9 ?_ r25_m Try.underlying25 ?_ ?_ ?_ ?_); exact rfl; exact rfl; exact Try.zNr; exact rfl)))
      have lt26_n := CB.lt r25_n
      have lt26_m := CB.lt r25_m
      have lb26 : w.heap.size ≤ w23.heap.size := Below.size (B := w.heap.size) l25
      (with_reducible refine (enc_yes m k _ HJ.out HT.out HM.out).mono ?_)
      rintro e w26 ⟨A902, q902, G902, rfl, h902, b26⟩
      have r27_x := SO.on r24_x b26
      have r28_n := le_on r25_n b26
      have r28_m := le_on r25_m b26
      have l28 := le_tr l25 b26
      clear r25_n r25_m l25
      clear r24_x
      clear b26
      have na29 := SO.above h902 lt26_n
      have na30 := SO.above h902 lt26_m
      have sm26_y := SO.mono h902 lb26
      clear h902
      clear lb26 lt26_n lt26_m
      go_wp2_with (first | (first | ((with_reducible refine st_load 25 _ g1 ?_ r28_n Try.underlying25 ?_ ?_ ?_); exact rfl; exact rfl; exact Try.zNr) | ((with_reducible refine st_loadG 25 _ g1 ?_ r28_n Try.underlying25 ?_ ?_ ?_ ?_); exact rfl; exact rfl; exact Try.zNr; exact rfl)))
      (with_reducible refine (theirs_c n _).mono ?_)
      rintro e w31 ⟨rfl, b31⟩
      have r32_x := SO.on r27_x b31
      have r32_y := SO.on sm26_y b31
      have r33_n := le_on r28_n b31
      have r33_m := le_on r28_m b31
      have l33 := le_tr l28 b31
      clear r28_n r28_m l28
      clear r27_x sm26_y
      clear b31
      go_wp2_with fail
      (with_reducible refine (C1 _).mono ?_)
      rintro e w34 ⟨rfl, b34⟩
      have r35_x := SO.on r32_x b34
      have r35_y := SO.on r32_y b34
      have r36_n := le_on r33_n b34
      have r36_m := le_on r33_m b34
      have l36 := le_tr l33 b34
      clear r33_n r33_m l33
      clear r32_x r32_y
      clear b34
      go_wp2_with (first | (first | ((with_reducible refine st_load 25 _ g9 ?_ r36_m Try.underlying25 ?_ ?_ ?_); exact rfl; exact rfl; exact Try.zNr) | ((with_reducible refine st_loadG 25 _ g9 ?_ r36_m Try.underlying25 ?_ ?_ ?_ ?_); exact rfl; exact rfl; exact Try.zNr; exact rfl)))
      (with_reducible refine (theirs_c m _).mono ?_)
      rintro e w37 ⟨rfl, b37⟩
      have r38_x := SO.on r35_x b37
      have r38_y := SO.on r35_y b37
      have r39_n := le_on r36_n b37
      have r39_m := le_on r36_m b37
      have l39 := le_tr l36 b37
      clear r36_n r36_m l36
      clear r35_x r35_y
      clear b37
      go_wp2_with fail
      (with_reducible refine (C2 _).mono ?_)
      rintro e w40 ⟨rfl, b40⟩
      have r41_x := SO.on r38_x b40
      have r41_y := SO.on r38_y b40
      have r42_n := le_on r39_n b40
      have r42_m := le_on r39_m b40
      have l42 := le_tr l39 b40
      clear r39_n r39_m l39
      clear r38_x r38_y
      clear b40
      go_wp2_with fail
      go_ret
      exact ⟨rfl, l42⟩
    have q2 : decide (RightN n) = false := decide_eq_false hr
    have q3 : decide (RightN m) = false := decide_eq_false ht
    simp only [q2] at C1
    simp only [q3] at C2
    have HI := Lib.hid hi
    have HJ := Lib.hid hj
    have HR := Lib.hid hr
    have HT := Lib.hid ht
    have HK := Lib.hid hk
    have HM := Lib.hid hkm
    clear hi hj hr ht hk hkm hne q2 q3
    go_enter Try.func6, Try.ntmps6
    go_wp2_with (first | ((with_reducible refine st_box 25 _ (ntA n) ?_ ?_); exact rfl))
    refine ⟨fun V1 g1 n1 f1 => ?_⟩
    have up1 : w.heap.size ≤ g1 := Nat.le_of_eq f1.at_
    have bl1 := f1.bel
    clear f1
    have l3 := le_tr (Below.refl _ _) bl1
    clear bl1
    go_wp2_with fail
    (with_reducible refine (alive_c _).mono ?_)
    rintro e w4 ⟨rfl, b4⟩
    have r6_n := le_on n1 b4
    have l6 := le_tr l3 b4
    clear n1 l3
    clear b4
    have c7 : w4.cell? ⟨g1, 9, none⟩ = some (.string (n.cg)) := CB.cell r6_n 9
    go_wp2_with (first | (first | ((with_reducible refine st_load 25 _ g1 ?_ r6_n Try.underlying25 ?_ ?_ ?_); exact rfl; exact rfl; exact Try.zNr) | ((with_reducible refine st_loadG 25 _ g1 ?_ r6_n Try.underlying25 ?_ ?_ ?_ ?_); exact rfl; exact rfl; exact Try.zNr; exact rfl)) | ((with_reducible refine st_alloc 25 (ntA zN) ?_ ?_); exact zero_nr))
    refine ⟨fun V9 g9 n9 f9 => ?_⟩
    clear c7
    have ne9_n := f9.ne r6_n
    have up9 : w.heap.size ≤ g9 := f9.up l6
    have bl9 := f9.bel
    clear f9
    have r11_n := le_on r6_n bl9
    have l11 := le_tr l6 bl9
    clear r6_n l6
    clear bl9
    go_wp2_with (first | (first | ((with_reducible refine st_load 25 _ g1 ?_ r11_n Try.underlying25 ?_ ?_ ?_); exact rfl; exact rfl; exact Try.zNr) | ((with_reducible refine st_loadG 25 _ g1 ?_ r11_n Try.underlying25 ?_ ?_ ?_ ?_); exact rfl; exact rfl; exact Try.zNr; exact rfl)) | ((with_reducible refine st_store 25 _ _ g9 (ntA n) ?_ ?_ n9 ?_ ?_ ?_ ?_); exact rfl; exact rfl; exact Try.zNr; exact rfl; exact ntA_one _))
    refine ⟨fun V12 n12 k12 => ?_⟩
    have m12_n := k12.on r11_n ne9_n
    have o12 := k12.bel _ _ l11 up9
    clear k12
    clear n9 r11_n l11
    have c13 : V12.cell? ⟨g9, 1, none⟩ = some (.int .u8 (n.mb)) := CB.cell n12 1
    go_wp2_with (first | ((with_reducible refine st_cell 5 _ _ g9 1 (.int .u8 x) ?_ ?_ n12 (new := ntA m) ?_ ?_ ?_ ?_ ?_ ?_); exact rfl; exact rfl; exact (by rw [ntA_size]; decide); exact hst.out; exact one_b8; exact rfl; exact rfl))
    refine ⟨fun V14 n14 k14 => ?_⟩
    clear c13
    have m14_n := k14.on m12_n ne9_n
    have o14 := k14.bel _ _ o12 up9
    clear k14
    clear n12 m12_n o12
    go_wp2_with (first | (first | ((with_reducible refine st_load 25 _ g1 ?_ m14_n Try.underlying25 ?_ ?_ ?_); exact rfl; exact rfl; exact Try.zNr) | ((with_reducible refine st_loadG 25 _ g1 ?_ m14_n Try.underlying25 ?_ ?_ ?_ ?_); exact rfl; exact rfl; exact Try.zNr; exact rfl)))
    (with_reducible refine (theirs_c n _).mono ?_)
    rintro e w15 ⟨rfl, b15⟩
    have r17_n := le_on m14_n b15
    have r17_m := le_on n14 b15
    have l17 := le_tr o14 b15
    clear m14_n n14 o14
    clear b15
    go_wp2_with (first | (first | ((with_reducible refine st_load 25 _ g1 ?_ r17_n Try.underlying25 ?_ ?_ ?_); exact rfl; exact rfl; exact Try.zNr) | ((with_reducible refine st_loadG 25 _ g1 ?_ r17_n Try.underlying25 ?_ ?_ ?_ ?_); exact rfl; exact rfl; exact Try.zNr; exact rfl)))
    have lt18_n := CB.lt r17_n
    have lt18_m := CB.lt r17_m
    have lb18 : w.heap.size ≤ w15.heap.size := Below.size (B := w.heap.size) l17
    (with_reducible refine (enc_not n _ HI.out HR.out).mono ?_)
    rintro e w18 ⟨A901, q901, G901, rfl, h901, b18⟩
    have r20_n := le_on r17_n b18
    have r20_m := le_on r17_m b18
    have l20 := le_tr l17 b18
    clear r17_n r17_m l17
    clear b18
    have na21 := SO.above h901 lt18_n
    have na22 := SO.above h901 lt18_m
    have sm18_x := SO.mono h901 lb18
    clear h901
    clear lb18 lt18_n lt18_m
    go_wp2_with (first | (first | ((with_reducible refine st_load 25 _ g9 ?_ r20_m Try.underlying25 ?_ ?_ ?_); exact rfl; exact rfl; exact Try.zNr) | ((with_reducible refine st_loadG 25 _ g9 ?_ r20_m Try.underlying25 ?_ ?_ ?_ ?_); exact rfl; exact rfl; exact Try.zNr; exact rfl)))
    (with_reducible refine (theirs_c m _).mono ?_)
    rintro e w23 ⟨rfl, b23⟩
    have r24_x := SO.on sm18_x b23
    have r25_n := le_on r20_n b23
    have r25_m := le_on r20_m b23
    have l25 := le_tr l20 b23
    clear r20_n r20_m l20
    clear sm18_x
    clear b23
    go_wp2_with (first | (first | ((with_reducible refine st_load 25 _ g9 ?_ r25_m Try.underlying25 ?_ ?_ ?_); exact rfl; exact rfl; exact Try.zNr) | ((with_reducible refine st_loadG 25 _ g9 ?_ r25_m Try.underlying25 ?_ ?_ ?_ ?_); exact rfl; exact rfl; exact Try.zNr; exact rfl)))
    have lt26_n := CB.lt r25_n
    have lt26_m := CB.lt r25_m
    have lb26 : w.heap.size ≤ w23.heap.size := Below.size (B := w.heap.size) l25
    (with_reducible refine (enc_not m _ HJ.out HT.out).mono ?_)
    rintro e w26 ⟨A902, q902, G902, rfl, h902, b26⟩
    have r27_x := SO.on r24_x b26
    have r28_n := le_on r25_n b26
    have r28_m := le_on r25_m b26
    have l28 := le_tr l25 b26
    clear r25_n r25_m l25
    clear r24_x
    clear b26
    have na29 := SO.above h902 lt26_n
    have na30 := SO.above h902 lt26_m
    have sm26_y := SO.mono h902 lb26
    clear h902
    clear lb26 lt26_n lt26_m
    go_wp2_with (first | (first | ((with_reducible refine st_load 25 _ g1 ?_ r28_n Try.underlying25 ?_ ?_ ?_); exact rfl; exact rfl; exact Try.zNr) | ((with_reducible refine st_loadG 25 _ g1 ?_ r28_n Try.underlying25 ?_ ?_ ?_ ?_); exact rfl; exact rfl; exact Try.zNr; exact rfl)))
    (with_reducible refine (theirs_c n _).mono ?_)
    rintro e w31 ⟨rfl, b31⟩
    have r32_x := SO.on r27_x b31
    have r32_y := SO.on sm26_y b31
    have r33_n := le_on r28_n b31
    have r33_m := le_on r28_m b31
    have l33 := le_tr l28 b31
    clear r28_n r28_m l28
    clear r27_x sm26_y
    clear b31
    go_wp2_with fail
    (with_reducible refine (C1 _).mono ?_)
    rintro e w34 ⟨rfl, b34⟩
    have r35_x := SO.on r32_x b34
    have r35_y := SO.on r32_y b34
    have r36_n := le_on r33_n b34
    have r36_m := le_on r33_m b34
    have l36 := le_tr l33 b34
    clear r33_n r33_m l33
    clear r32_x r32_y
    clear b34
    go_wp2_with (first | (first | ((with_reducible refine st_load 25 _ g9 ?_ r36_m Try.underlying25 ?_ ?_ ?_); exact rfl; exact rfl; exact Try.zNr) | ((with_reducible refine st_loadG 25 _ g9 ?_ r36_m Try.underlying25 ?_ ?_ ?_ ?_); exact rfl; exact rfl; exact Try.zNr; exact rfl)))
    (with_reducible refine (theirs_c m _).mono ?_)
    rintro e w37 ⟨rfl, b37⟩
    have r38_x := SO.on r35_x b37
    have r38_y := SO.on r35_y b37
    have r39_n := le_on r36_n b37
    have r39_m := le_on r36_m b37
    have l39 := le_tr l36 b37
    clear r36_n r36_m l36
    clear r35_x r35_y
    clear b37
    go_wp2_with fail
    (with_reducible refine (C2 _).mono ?_)
    rintro e w40 ⟨rfl, b40⟩
    have r41_x := SO.on r38_x b40
    have r41_y := SO.on r38_y b40
    have r42_n := le_on r39_n b40
    have r42_m := le_on r39_m b40
    have l42 := le_tr l39 b40
    clear r39_n r39_m l39
    clear r38_x r38_y
    clear b40
    go_wp2_with fail
    go_ret
    exact ⟨rfl, l42⟩
  by_cases c2 : r = 2
  · skip
    subst c2
    obtain ⟨x, hx⟩ : ∃ x, IntKind.i64.wrap (n.tx + 1) = x := ⟨_, rfl⟩
    obtain ⟨m, hm⟩ : ∃ m : Nt, { n with tx := x } = m := ⟨_, rfl⟩
    have hne : ¬ n = m := by rw [← hm]; intro e; have e2 := congrArg Nt.tx e; simp only at e2; rw [← hx] at e2; exact wrap_ne64 _ e2
    have hj : InN m := by rw [← hm]; exact hi
    have hkm : 25 + m.cg.size = k := by rw [← hm]; exact hk
    have hst := Lib.hid (show (ntA n).setIfInBounds 2 (.int .i64 x) = ntA m by rw [← hm]; rfl)
    have C2 := fun W => right_c m W
    clear hm
    by_cases hr : RightN n
    · by_cases ht : RightN m
      · skip
        have q2 : decide (RightN n) = true := decide_eq_true hr
        have q3 : decide (RightN m) = true := decide_eq_true ht
        simp only [q2] at C1
        simp only [q3] at C2
        have qn := by_ne hi hj hr ht hne
        have HI := Lib.hid hi
        have HJ := Lib.hid hj
        have HR := Lib.hid hr
        have HT := Lib.hid ht
        have HK := Lib.hid hk
        have HM := Lib.hid hkm
        clear hi hj hr ht hk hkm hne q2 q3
        go_enter Try.func6, Try.ntmps6
        go_wp2_with (first | ((with_reducible refine st_box 25 _ (ntA n) ?_ ?_); exact rfl))
        refine ⟨fun V1 g1 n1 f1 => ?_⟩
        have up1 : w.heap.size ≤ g1 := Nat.le_of_eq f1.at_
        have bl1 := f1.bel
        clear f1
        have l3 := le_tr (Below.refl _ _) bl1
        clear bl1
        go_wp2_with fail
        (with_reducible refine (alive_c _).mono ?_)
        rintro e w4 ⟨rfl, b4⟩
        have r6_n := le_on n1 b4
        have l6 := le_tr l3 b4
        clear n1 l3
        clear b4
        have c7 : w4.cell? ⟨g1, 9, none⟩ = some (.string (n.cg)) := CB.cell r6_n 9
        go_wp2_with (first | (first | ((with_reducible refine st_load 25 _ g1 ?_ r6_n Try.underlying25 ?_ ?_ ?_); exact rfl; exact rfl; exact Try.zNr) | ((with_reducible refine st_loadG 25 _ g1 ?_ r6_n Try.underlying25 ?_ ?_ ?_ ?_); exact rfl; exact rfl; exact Try.zNr; exact rfl)) | ((with_reducible refine st_alloc 25 (ntA zN) ?_ ?_); exact zero_nr))
        refine ⟨fun V9 g9 n9 f9 => ?_⟩
        clear c7
        have ne9_n := f9.ne r6_n
        have up9 : w.heap.size ≤ g9 := f9.up l6
        have bl9 := f9.bel
        clear f9
        have r11_n := le_on r6_n bl9
        have l11 := le_tr l6 bl9
        clear r6_n l6
        clear bl9
        go_wp2_with (first | (first | ((with_reducible refine st_load 25 _ g1 ?_ r11_n Try.underlying25 ?_ ?_ ?_); exact rfl; exact rfl; exact Try.zNr) | ((with_reducible refine st_loadG 25 _ g1 ?_ r11_n Try.underlying25 ?_ ?_ ?_ ?_); exact rfl; exact rfl; exact Try.zNr; exact rfl)) | ((with_reducible refine st_store 25 _ _ g9 (ntA n) ?_ ?_ n9 ?_ ?_ ?_ ?_); exact rfl; exact rfl; exact Try.zNr; exact rfl; exact ntA_one _))
        refine ⟨fun V12 n12 k12 => ?_⟩
        have m12_n := k12.on r11_n ne9_n
        have o12 := k12.bel _ _ l11 up9
        clear k12
        clear n9 r11_n l11
        have c13 : V12.cell? ⟨g9, 2, none⟩ = some (.int .i64 (n.tx)) := CB.cell n12 2
        go_wp2_with (first | ((with_reducible refine st_cell 3 _ _ g9 2 (.int .i64 x) ?_ ?_ n12 (new := ntA m) ?_ ?_ ?_ ?_ ?_ ?_); exact rfl; exact rfl; exact (by rw [ntA_size]; decide); exact hst.out; exact one_i; exact rfl; exact rfl))
        refine ⟨fun V14 n14 k14 => ?_⟩
        clear c13
        have m14_n := k14.on m12_n ne9_n
        have o14 := k14.bel _ _ o12 up9
        clear k14
        clear n12 m12_n o12
        go_wp2_with (first | (first | ((with_reducible refine st_load 25 _ g1 ?_ m14_n Try.underlying25 ?_ ?_ ?_); exact rfl; exact rfl; exact Try.zNr) | ((with_reducible refine st_loadG 25 _ g1 ?_ m14_n Try.underlying25 ?_ ?_ ?_ ?_); exact rfl; exact rfl; exact Try.zNr; exact rfl)))
        (with_reducible refine (theirs_c n _).mono ?_)
        rintro e w15 ⟨rfl, b15⟩
        have r17_n := le_on m14_n b15
        have r17_m := le_on n14 b15
        have l17 := le_tr o14 b15
        clear m14_n n14 o14
        clear b15
        go_wp2_with (first | (first | ((with_reducible refine st_load 25 _ g1 ?_ r17_n Try.underlying25 ?_ ?_ ?_); exact rfl; exact rfl; exact Try.zNr) | ((with_reducible refine st_loadG 25 _ g1 ?_ r17_n Try.underlying25 ?_ ?_ ?_ ?_); exact rfl; exact rfl; exact Try.zNr; exact rfl)))
        have lt18_n := CB.lt r17_n
        have lt18_m := CB.lt r17_m
        have lb18 : w.heap.size ≤ w15.heap.size := Below.size (B := w.heap.size) l17
        (with_reducible refine (enc_yes n k _ HI.out HR.out HK.out).mono ?_)
        rintro e w18 ⟨A901, q901, G901, rfl, h901, b18⟩
        have r20_n := le_on r17_n b18
        have r20_m := le_on r17_m b18
        have l20 := le_tr l17 b18
        clear r17_n r17_m l17
        clear b18
        have na21 := SO.above h901 lt18_n
        have na22 := SO.above h901 lt18_m
        have sm18_x := SO.mono h901 lb18
        clear h901
        clear lb18 lt18_n lt18_m
        go_wp2_with (first | (first | ((with_reducible refine st_load 25 _ g9 ?_ r20_m Try.underlying25 ?_ ?_ ?_); exact rfl; exact rfl; exact Try.zNr) | ((with_reducible refine st_loadG 25 _ g9 ?_ r20_m Try.underlying25 ?_ ?_ ?_ ?_); exact rfl; exact rfl; exact Try.zNr; exact rfl)))
        (with_reducible refine (theirs_c m _).mono ?_)
        rintro e w23 ⟨rfl, b23⟩
        have r24_x := SO.on sm18_x b23
        have r25_n := le_on r20_n b23
        have r25_m := le_on r20_m b23
        have l25 := le_tr l20 b23
        clear r20_n r20_m l20
        clear sm18_x
        clear b23
        go_wp2_with (first | (first | ((with_reducible refine st_load 25 _ g9 ?_ r25_m Try.underlying25 ?_ ?_ ?_); exact rfl; exact rfl; exact Try.zNr) | ((with_reducible refine st_loadG 25 _ g9 ?_ r25_m Try.underlying25 ?_ ?_ ?_ ?_); exact rfl; exact rfl; exact Try.zNr; exact rfl)))
        have lt26_n := CB.lt r25_n
        have lt26_m := CB.lt r25_m
        have lb26 : w.heap.size ≤ w23.heap.size := Below.size (B := w.heap.size) l25
        (with_reducible refine (enc_yes m k _ HJ.out HT.out HM.out).mono ?_)
        rintro e w26 ⟨A902, q902, G902, rfl, h902, b26⟩
        have r27_x := SO.on r24_x b26
        have r28_n := le_on r25_n b26
        have r28_m := le_on r25_m b26
        have l28 := le_tr l25 b26
        clear r25_n r25_m l25
        clear r24_x
        clear b26
        have na29 := SO.above h902 lt26_n
        have na30 := SO.above h902 lt26_m
        have sm26_y := SO.mono h902 lb26
        clear h902
        clear lb26 lt26_n lt26_m
        go_wp2_with (first | (first | ((with_reducible refine st_load 25 _ g1 ?_ r28_n Try.underlying25 ?_ ?_ ?_); exact rfl; exact rfl; exact Try.zNr) | ((with_reducible refine st_loadG 25 _ g1 ?_ r28_n Try.underlying25 ?_ ?_ ?_ ?_); exact rfl; exact rfl; exact Try.zNr; exact rfl)))
        (with_reducible refine (theirs_c n _).mono ?_)
        rintro e w31 ⟨rfl, b31⟩
        have r32_x := SO.on r27_x b31
        have r32_y := SO.on sm26_y b31
        have r33_n := le_on r28_n b31
        have r33_m := le_on r28_m b31
        have l33 := le_tr l28 b31
        clear r28_n r28_m l28
        clear r27_x sm26_y
        clear b31
        go_wp2_with fail
        (with_reducible refine (C1 _).mono ?_)
        rintro e w34 ⟨rfl, b34⟩
        have r35_x := SO.on r32_x b34
        have r35_y := SO.on r32_y b34
        have r36_n := le_on r33_n b34
        have r36_m := le_on r33_m b34
        have l36 := le_tr l33 b34
        clear r33_n r33_m l33
        clear r32_x r32_y
        clear b34
        go_wp2_with (first | (first | ((with_reducible refine st_load 25 _ g9 ?_ r36_m Try.underlying25 ?_ ?_ ?_); exact rfl; exact rfl; exact Try.zNr) | ((with_reducible refine st_loadG 25 _ g9 ?_ r36_m Try.underlying25 ?_ ?_ ?_ ?_); exact rfl; exact rfl; exact Try.zNr; exact rfl)))
        (with_reducible refine (theirs_c m _).mono ?_)
        rintro e w37 ⟨rfl, b37⟩
        have r38_x := SO.on r35_x b37
        have r38_y := SO.on r35_y b37
        have r39_n := le_on r36_n b37
        have r39_m := le_on r36_m b37
        have l39 := le_tr l36 b37
        clear r36_n r36_m l36
        clear r35_x r35_y
        clear b37
        go_wp2_with fail
        (with_reducible refine (C2 _).mono ?_)
        rintro e w40 ⟨rfl, b40⟩
        have r41_x := SO.on r38_x b40
        have r41_y := SO.on r38_y b40
        have r42_n := le_on r39_n b40
        have r42_m := le_on r39_m b40
        have l42 := le_tr l39 b40
        clear r39_n r39_m l39
        clear r38_x r38_y
        clear b40
        have v1 := conv_C _ _ _ _ _ (SO.rr r41_x)
        have v2 := conv_C _ _ _ _ _ (SO.rr r41_y)
        go_wp2_with fail
        go_ret
        exact ⟨rfl, l42⟩
      have q2 : decide (RightN n) = true := decide_eq_true hr
      have q3 : decide (RightN m) = false := decide_eq_false ht
      simp only [q2] at C1
      simp only [q3] at C2
      have HI := Lib.hid hi
      have HJ := Lib.hid hj
      have HR := Lib.hid hr
      have HT := Lib.hid ht
      have HK := Lib.hid hk
      have HM := Lib.hid hkm
      clear hi hj hr ht hk hkm hne q2 q3
      go_enter Try.func6, Try.ntmps6
      go_wp2_with (first | ((with_reducible refine st_box 25 _ (ntA n) ?_ ?_); exact rfl))
      refine ⟨fun V1 g1 n1 f1 => ?_⟩
      have up1 : w.heap.size ≤ g1 := Nat.le_of_eq f1.at_
      have bl1 := f1.bel
      clear f1
      have l3 := le_tr (Below.refl _ _) bl1
      clear bl1
      go_wp2_with fail
      (with_reducible refine (alive_c _).mono ?_)
      rintro e w4 ⟨rfl, b4⟩
      have r6_n := le_on n1 b4
      have l6 := le_tr l3 b4
      clear n1 l3
      clear b4
      have c7 : w4.cell? ⟨g1, 9, none⟩ = some (.string (n.cg)) := CB.cell r6_n 9
      go_wp2_with (first | (first | ((with_reducible refine st_load 25 _ g1 ?_ r6_n Try.underlying25 ?_ ?_ ?_); exact rfl; exact rfl; exact Try.zNr) | ((with_reducible refine st_loadG 25 _ g1 ?_ r6_n Try.underlying25 ?_ ?_ ?_ ?_); exact rfl; exact rfl; exact Try.zNr; exact rfl)) | ((with_reducible refine st_alloc 25 (ntA zN) ?_ ?_); exact zero_nr))
      refine ⟨fun V9 g9 n9 f9 => ?_⟩
      clear c7
      have ne9_n := f9.ne r6_n
      have up9 : w.heap.size ≤ g9 := f9.up l6
      have bl9 := f9.bel
      clear f9
      have r11_n := le_on r6_n bl9
      have l11 := le_tr l6 bl9
      clear r6_n l6
      clear bl9
      go_wp2_with (first | (first | ((with_reducible refine st_load 25 _ g1 ?_ r11_n Try.underlying25 ?_ ?_ ?_); exact rfl; exact rfl; exact Try.zNr) | ((with_reducible refine st_loadG 25 _ g1 ?_ r11_n Try.underlying25 ?_ ?_ ?_ ?_); exact rfl; exact rfl; exact Try.zNr; exact rfl)) | ((with_reducible refine st_store 25 _ _ g9 (ntA n) ?_ ?_ n9 ?_ ?_ ?_ ?_); exact rfl; exact rfl; exact Try.zNr; exact rfl; exact ntA_one _))
      refine ⟨fun V12 n12 k12 => ?_⟩
      have m12_n := k12.on r11_n ne9_n
      have o12 := k12.bel _ _ l11 up9
      clear k12
      clear n9 r11_n l11
      have c13 : V12.cell? ⟨g9, 2, none⟩ = some (.int .i64 (n.tx)) := CB.cell n12 2
      go_wp2_with (first | ((with_reducible refine st_cell 3 _ _ g9 2 (.int .i64 x) ?_ ?_ n12 (new := ntA m) ?_ ?_ ?_ ?_ ?_ ?_); exact rfl; exact rfl; exact (by rw [ntA_size]; decide); exact hst.out; exact one_i; exact rfl; exact rfl))
      refine ⟨fun V14 n14 k14 => ?_⟩
      clear c13
      have m14_n := k14.on m12_n ne9_n
      have o14 := k14.bel _ _ o12 up9
      clear k14
      clear n12 m12_n o12
      go_wp2_with (first | (first | ((with_reducible refine st_load 25 _ g1 ?_ m14_n Try.underlying25 ?_ ?_ ?_); exact rfl; exact rfl; exact Try.zNr) | ((with_reducible refine st_loadG 25 _ g1 ?_ m14_n Try.underlying25 ?_ ?_ ?_ ?_); exact rfl; exact rfl; exact Try.zNr; exact rfl)))
      (with_reducible refine (theirs_c n _).mono ?_)
      rintro e w15 ⟨rfl, b15⟩
      have r17_n := le_on m14_n b15
      have r17_m := le_on n14 b15
      have l17 := le_tr o14 b15
      clear m14_n n14 o14
      clear b15
      go_wp2_with (first | (first | ((with_reducible refine st_load 25 _ g1 ?_ r17_n Try.underlying25 ?_ ?_ ?_); exact rfl; exact rfl; exact Try.zNr) | ((with_reducible refine st_loadG 25 _ g1 ?_ r17_n Try.underlying25 ?_ ?_ ?_ ?_); exact rfl; exact rfl; exact Try.zNr; exact rfl)))
      have lt18_n := CB.lt r17_n
      have lt18_m := CB.lt r17_m
      have lb18 : w.heap.size ≤ w15.heap.size := Below.size (B := w.heap.size) l17
      (with_reducible refine (enc_yes n k _ HI.out HR.out HK.out).mono ?_)
      rintro e w18 ⟨A901, q901, G901, rfl, h901, b18⟩
      have r20_n := le_on r17_n b18
      have r20_m := le_on r17_m b18
      have l20 := le_tr l17 b18
      clear r17_n r17_m l17
      clear b18
      have na21 := SO.above h901 lt18_n
      have na22 := SO.above h901 lt18_m
      have sm18_x := SO.mono h901 lb18
      clear h901
      clear lb18 lt18_n lt18_m
      go_wp2_with (first | (first | ((with_reducible refine st_load 25 _ g9 ?_ r20_m Try.underlying25 ?_ ?_ ?_); exact rfl; exact rfl; exact Try.zNr) | ((with_reducible refine st_loadG 25 _ g9 ?_ r20_m Try.underlying25 ?_ ?_ ?_ ?_); exact rfl; exact rfl; exact Try.zNr; exact rfl)))
      (with_reducible refine (theirs_c m _).mono ?_)
      rintro e w23 ⟨rfl, b23⟩
      have r24_x := SO.on sm18_x b23
      have r25_n := le_on r20_n b23
      have r25_m := le_on r20_m b23
      have l25 := le_tr l20 b23
      clear r20_n r20_m l20
      clear sm18_x
      clear b23
      go_wp2_with (first | (first | ((with_reducible refine st_load 25 _ g9 ?_ r25_m Try.underlying25 ?_ ?_ ?_); exact rfl; exact rfl; exact Try.zNr) | ((with_reducible refine st_loadG 25 _ g9 ?_ r25_m Try.underlying25 ?_ ?_ ?_ ?_); exact rfl; exact rfl; exact Try.zNr; exact rfl)))
      have lt26_n := CB.lt r25_n
      have lt26_m := CB.lt r25_m
      have lb26 : w.heap.size ≤ w23.heap.size := Below.size (B := w.heap.size) l25
      (with_reducible refine (enc_not m _ HJ.out HT.out).mono ?_)
      rintro e w26 ⟨A902, q902, G902, rfl, h902, b26⟩
      have r27_x := SO.on r24_x b26
      have r28_n := le_on r25_n b26
      have r28_m := le_on r25_m b26
      have l28 := le_tr l25 b26
      clear r25_n r25_m l25
      clear r24_x
      clear b26
      have na29 := SO.above h902 lt26_n
      have na30 := SO.above h902 lt26_m
      have sm26_y := SO.mono h902 lb26
      clear h902
      clear lb26 lt26_n lt26_m
      go_wp2_with (first | (first | ((with_reducible refine st_load 25 _ g1 ?_ r28_n Try.underlying25 ?_ ?_ ?_); exact rfl; exact rfl; exact Try.zNr) | ((with_reducible refine st_loadG 25 _ g1 ?_ r28_n Try.underlying25 ?_ ?_ ?_ ?_); exact rfl; exact rfl; exact Try.zNr; exact rfl)))
      (with_reducible refine (theirs_c n _).mono ?_)
      rintro e w31 ⟨rfl, b31⟩
      have r32_x := SO.on r27_x b31
      have r32_y := SO.on sm26_y b31
      have r33_n := le_on r28_n b31
      have r33_m := le_on r28_m b31
      have l33 := le_tr l28 b31
      clear r28_n r28_m l28
      clear r27_x sm26_y
      clear b31
      go_wp2_with fail
      (with_reducible refine (C1 _).mono ?_)
      rintro e w34 ⟨rfl, b34⟩
      have r35_x := SO.on r32_x b34
      have r35_y := SO.on r32_y b34
      have r36_n := le_on r33_n b34
      have r36_m := le_on r33_m b34
      have l36 := le_tr l33 b34
      clear r33_n r33_m l33
      clear r32_x r32_y
      clear b34
      go_wp2_with (first | (first | ((with_reducible refine st_load 25 _ g9 ?_ r36_m Try.underlying25 ?_ ?_ ?_); exact rfl; exact rfl; exact Try.zNr) | ((with_reducible refine st_loadG 25 _ g9 ?_ r36_m Try.underlying25 ?_ ?_ ?_ ?_); exact rfl; exact rfl; exact Try.zNr; exact rfl)))
      (with_reducible refine (theirs_c m _).mono ?_)
      rintro e w37 ⟨rfl, b37⟩
      have r38_x := SO.on r35_x b37
      have r38_y := SO.on r35_y b37
      have r39_n := le_on r36_n b37
      have r39_m := le_on r36_m b37
      have l39 := le_tr l36 b37
      clear r36_n r36_m l36
      clear r35_x r35_y
      clear b37
      go_wp2_with fail
      (with_reducible refine (C2 _).mono ?_)
      rintro e w40 ⟨rfl, b40⟩
      have r41_x := SO.on r38_x b40
      have r41_y := SO.on r38_y b40
      have r42_n := le_on r39_n b40
      have r42_m := le_on r39_m b40
      have l42 := le_tr l39 b40
      clear r39_n r39_m l39
      clear r38_x r38_y
      clear b40
      go_wp2_with fail
      go_ret
      exact ⟨rfl, l42⟩
    by_cases ht : RightN m
    · skip
      have q2 : decide (RightN n) = false := decide_eq_false hr
      have q3 : decide (RightN m) = true := decide_eq_true ht
      simp only [q2] at C1
      simp only [q3] at C2
      have HI := Lib.hid hi
      have HJ := Lib.hid hj
      have HR := Lib.hid hr
      have HT := Lib.hid ht
      have HK := Lib.hid hk
      have HM := Lib.hid hkm
      clear hi hj hr ht hk hkm hne q2 q3
      go_enter Try.func6, Try.ntmps6
      go_wp2_with (first | ((with_reducible refine st_box 25 _ (ntA n) ?_ ?_); exact rfl))
      refine ⟨fun V1 g1 n1 f1 => ?_⟩
      have up1 : w.heap.size ≤ g1 := Nat.le_of_eq f1.at_
      have bl1 := f1.bel
      clear f1
      have l3 := le_tr (Below.refl _ _) bl1
      clear bl1
      go_wp2_with fail
      (with_reducible refine (alive_c _).mono ?_)
      rintro e w4 ⟨rfl, b4⟩
      have r6_n := le_on n1 b4
      have l6 := le_tr l3 b4
      clear n1 l3
      clear b4
      have c7 : w4.cell? ⟨g1, 9, none⟩ = some (.string (n.cg)) := CB.cell r6_n 9
      go_wp2_with (first | (first | ((with_reducible refine st_load 25 _ g1 ?_ r6_n Try.underlying25 ?_ ?_ ?_); exact rfl; exact rfl; exact Try.zNr) | ((with_reducible refine st_loadG 25 _ g1 ?_ r6_n Try.underlying25 ?_ ?_ ?_ ?_); exact rfl; exact rfl; exact Try.zNr; exact rfl)) | ((with_reducible refine st_alloc 25 (ntA zN) ?_ ?_); exact zero_nr))
      refine ⟨fun V9 g9 n9 f9 => ?_⟩
      clear c7
      have ne9_n := f9.ne r6_n
      have up9 : w.heap.size ≤ g9 := f9.up l6
      have bl9 := f9.bel
      clear f9
      have r11_n := le_on r6_n bl9
      have l11 := le_tr l6 bl9
      clear r6_n l6
      clear bl9
      go_wp2_with (first | (first | ((with_reducible refine st_load 25 _ g1 ?_ r11_n Try.underlying25 ?_ ?_ ?_); exact rfl; exact rfl; exact Try.zNr) | ((with_reducible refine st_loadG 25 _ g1 ?_ r11_n Try.underlying25 ?_ ?_ ?_ ?_); exact rfl; exact rfl; exact Try.zNr; exact rfl)) | ((with_reducible refine st_store 25 _ _ g9 (ntA n) ?_ ?_ n9 ?_ ?_ ?_ ?_); exact rfl; exact rfl; exact Try.zNr; exact rfl; exact ntA_one _))
      refine ⟨fun V12 n12 k12 => ?_⟩
      have m12_n := k12.on r11_n ne9_n
      have o12 := k12.bel _ _ l11 up9
      clear k12
      clear n9 r11_n l11
      have c13 : V12.cell? ⟨g9, 2, none⟩ = some (.int .i64 (n.tx)) := CB.cell n12 2
      go_wp2_with (first | ((with_reducible refine st_cell 3 _ _ g9 2 (.int .i64 x) ?_ ?_ n12 (new := ntA m) ?_ ?_ ?_ ?_ ?_ ?_); exact rfl; exact rfl; exact (by rw [ntA_size]; decide); exact hst.out; exact one_i; exact rfl; exact rfl))
      refine ⟨fun V14 n14 k14 => ?_⟩
      clear c13
      have m14_n := k14.on m12_n ne9_n
      have o14 := k14.bel _ _ o12 up9
      clear k14
      clear n12 m12_n o12
      go_wp2_with (first | (first | ((with_reducible refine st_load 25 _ g1 ?_ m14_n Try.underlying25 ?_ ?_ ?_); exact rfl; exact rfl; exact Try.zNr) | ((with_reducible refine st_loadG 25 _ g1 ?_ m14_n Try.underlying25 ?_ ?_ ?_ ?_); exact rfl; exact rfl; exact Try.zNr; exact rfl)))
      (with_reducible refine (theirs_c n _).mono ?_)
      rintro e w15 ⟨rfl, b15⟩
      have r17_n := le_on m14_n b15
      have r17_m := le_on n14 b15
      have l17 := le_tr o14 b15
      clear m14_n n14 o14
      clear b15
      go_wp2_with (first | (first | ((with_reducible refine st_load 25 _ g1 ?_ r17_n Try.underlying25 ?_ ?_ ?_); exact rfl; exact rfl; exact Try.zNr) | ((with_reducible refine st_loadG 25 _ g1 ?_ r17_n Try.underlying25 ?_ ?_ ?_ ?_); exact rfl; exact rfl; exact Try.zNr; exact rfl)))
      have lt18_n := CB.lt r17_n
      have lt18_m := CB.lt r17_m
      have lb18 : w.heap.size ≤ w15.heap.size := Below.size (B := w.heap.size) l17
      (with_reducible refine (enc_not n _ HI.out HR.out).mono ?_)
      rintro e w18 ⟨A901, q901, G901, rfl, h901, b18⟩
      have r20_n := le_on r17_n b18
      have r20_m := le_on r17_m b18
      have l20 := le_tr l17 b18
      clear r17_n r17_m l17
      clear b18
      have na21 := SO.above h901 lt18_n
      have na22 := SO.above h901 lt18_m
      have sm18_x := SO.mono h901 lb18
      clear h901
      clear lb18 lt18_n lt18_m
      go_wp2_with (first | (first | ((with_reducible refine st_load 25 _ g9 ?_ r20_m Try.underlying25 ?_ ?_ ?_); exact rfl; exact rfl; exact Try.zNr) | ((with_reducible refine st_loadG 25 _ g9 ?_ r20_m Try.underlying25 ?_ ?_ ?_ ?_); exact rfl; exact rfl; exact Try.zNr; exact rfl)))
      (with_reducible refine (theirs_c m _).mono ?_)
      rintro e w23 ⟨rfl, b23⟩
      have r24_x := SO.on sm18_x b23
      have r25_n := le_on r20_n b23
      have r25_m := le_on r20_m b23
      have l25 := le_tr l20 b23
      clear r20_n r20_m l20
      clear sm18_x
      clear b23
      go_wp2_with (first | (first | ((with_reducible refine st_load 25 _ g9 ?_ r25_m Try.underlying25 ?_ ?_ ?_); exact rfl; exact rfl; exact Try.zNr) | ((with_reducible refine st_loadG 25 _ g9 ?_ r25_m Try.underlying25 ?_ ?_ ?_ ?_); exact rfl; exact rfl; exact Try.zNr; exact rfl)))
      have lt26_n := CB.lt r25_n
      have lt26_m := CB.lt r25_m
      have lb26 : w.heap.size ≤ w23.heap.size := Below.size (B := w.heap.size) l25
      (with_reducible refine (enc_yes m k _ HJ.out HT.out HM.out).mono ?_)
      rintro e w26 ⟨A902, q902, G902, rfl, h902, b26⟩
      have r27_x := SO.on r24_x b26
      have r28_n := le_on r25_n b26
      have r28_m := le_on r25_m b26
      have l28 := le_tr l25 b26
      clear r25_n r25_m l25
      clear r24_x
      clear b26
      have na29 := SO.above h902 lt26_n
      have na30 := SO.above h902 lt26_m
      have sm26_y := SO.mono h902 lb26
      clear h902
      clear lb26 lt26_n lt26_m
      go_wp2_with (first | (first | ((with_reducible refine st_load 25 _ g1 ?_ r28_n Try.underlying25 ?_ ?_ ?_); exact rfl; exact rfl; exact Try.zNr) | ((with_reducible refine st_loadG 25 _ g1 ?_ r28_n Try.underlying25 ?_ ?_ ?_ ?_); exact rfl; exact rfl; exact Try.zNr; exact rfl)))
      (with_reducible refine (theirs_c n _).mono ?_)
      rintro e w31 ⟨rfl, b31⟩
      have r32_x := SO.on r27_x b31
      have r32_y := SO.on sm26_y b31
      have r33_n := le_on r28_n b31
      have r33_m := le_on r28_m b31
      have l33 := le_tr l28 b31
      clear r28_n r28_m l28
      clear r27_x sm26_y
      clear b31
      go_wp2_with fail
      (with_reducible refine (C1 _).mono ?_)
      rintro e w34 ⟨rfl, b34⟩
      have r35_x := SO.on r32_x b34
      have r35_y := SO.on r32_y b34
      have r36_n := le_on r33_n b34
      have r36_m := le_on r33_m b34
      have l36 := le_tr l33 b34
      clear r33_n r33_m l33
      clear r32_x r32_y
      clear b34
      go_wp2_with (first | (first | ((with_reducible refine st_load 25 _ g9 ?_ r36_m Try.underlying25 ?_ ?_ ?_); exact rfl; exact rfl; exact Try.zNr) | ((with_reducible refine st_loadG 25 _ g9 ?_ r36_m Try.underlying25 ?_ ?_ ?_ ?_); exact rfl; exact rfl; exact Try.zNr; exact rfl)))
      (with_reducible refine (theirs_c m _).mono ?_)
      rintro e w37 ⟨rfl, b37⟩
      have r38_x := SO.on r35_x b37
      have r38_y := SO.on r35_y b37
      have r39_n := le_on r36_n b37
      have r39_m := le_on r36_m b37
      have l39 := le_tr l36 b37
      clear r36_n r36_m l36
      clear r35_x r35_y
      clear b37
      go_wp2_with fail
      (with_reducible refine (C2 _).mono ?_)
      rintro e w40 ⟨rfl, b40⟩
      have r41_x := SO.on r38_x b40
      have r41_y := SO.on r38_y b40
      have r42_n := le_on r39_n b40
      have r42_m := le_on r39_m b40
      have l42 := le_tr l39 b40
      clear r39_n r39_m l39
      clear r38_x r38_y
      clear b40
      go_wp2_with fail
      go_ret
      exact ⟨rfl, l42⟩
    have q2 : decide (RightN n) = false := decide_eq_false hr
    have q3 : decide (RightN m) = false := decide_eq_false ht
    simp only [q2] at C1
    simp only [q3] at C2
    have HI := Lib.hid hi
    have HJ := Lib.hid hj
    have HR := Lib.hid hr
    have HT := Lib.hid ht
    have HK := Lib.hid hk
    have HM := Lib.hid hkm
    clear hi hj hr ht hk hkm hne q2 q3
    go_enter Try.func6, Try.ntmps6
    go_wp2_with (first | ((with_reducible refine st_box 25 _ (ntA n) ?_ ?_); exact rfl))
    refine ⟨fun V1 g1 n1 f1 => ?_⟩
    have up1 : w.heap.size ≤ g1 := Nat.le_of_eq f1.at_
    have bl1 := f1.bel
    clear f1
    have l3 := le_tr (Below.refl _ _) bl1
    clear bl1
    go_wp2_with fail
    (with_reducible refine (alive_c _).mono ?_)
    rintro e w4 ⟨rfl, b4⟩
    have r6_n := le_on n1 b4
    have l6 := le_tr l3 b4
    clear n1 l3
    clear b4
    have c7 : w4.cell? ⟨g1, 9, none⟩ = some (.string (n.cg)) := CB.cell r6_n 9
    go_wp2_with (first | (first | ((with_reducible refine st_load 25 _ g1 ?_ r6_n Try.underlying25 ?_ ?_ ?_); exact rfl; exact rfl; exact Try.zNr) | ((with_reducible refine st_loadG 25 _ g1 ?_ r6_n Try.underlying25 ?_ ?_ ?_ ?_); exact rfl; exact rfl; exact Try.zNr; exact rfl)) | ((with_reducible refine st_alloc 25 (ntA zN) ?_ ?_); exact zero_nr))
    refine ⟨fun V9 g9 n9 f9 => ?_⟩
    clear c7
    have ne9_n := f9.ne r6_n
    have up9 : w.heap.size ≤ g9 := f9.up l6
    have bl9 := f9.bel
    clear f9
    have r11_n := le_on r6_n bl9
    have l11 := le_tr l6 bl9
    clear r6_n l6
    clear bl9
    go_wp2_with (first | (first | ((with_reducible refine st_load 25 _ g1 ?_ r11_n Try.underlying25 ?_ ?_ ?_); exact rfl; exact rfl; exact Try.zNr) | ((with_reducible refine st_loadG 25 _ g1 ?_ r11_n Try.underlying25 ?_ ?_ ?_ ?_); exact rfl; exact rfl; exact Try.zNr; exact rfl)) | ((with_reducible refine st_store 25 _ _ g9 (ntA n) ?_ ?_ n9 ?_ ?_ ?_ ?_); exact rfl; exact rfl; exact Try.zNr; exact rfl; exact ntA_one _))
    refine ⟨fun V12 n12 k12 => ?_⟩
    have m12_n := k12.on r11_n ne9_n
    have o12 := k12.bel _ _ l11 up9
    clear k12
    clear n9 r11_n l11
    have c13 : V12.cell? ⟨g9, 2, none⟩ = some (.int .i64 (n.tx)) := CB.cell n12 2
    go_wp2_with (first | ((with_reducible refine st_cell 3 _ _ g9 2 (.int .i64 x) ?_ ?_ n12 (new := ntA m) ?_ ?_ ?_ ?_ ?_ ?_); exact rfl; exact rfl; exact (by rw [ntA_size]; decide); exact hst.out; exact one_i; exact rfl; exact rfl))
    refine ⟨fun V14 n14 k14 => ?_⟩
    clear c13
    have m14_n := k14.on m12_n ne9_n
    have o14 := k14.bel _ _ o12 up9
    clear k14
    clear n12 m12_n o12
    go_wp2_with (first | (first | ((with_reducible refine st_load 25 _ g1 ?_ m14_n Try.underlying25 ?_ ?_ ?_); exact rfl; exact rfl; exact Try.zNr) | ((with_reducible refine st_loadG 25 _ g1 ?_ m14_n Try.underlying25 ?_ ?_ ?_ ?_); exact rfl; exact rfl; exact Try.zNr; exact rfl)))
    (with_reducible refine (theirs_c n _).mono ?_)
    rintro e w15 ⟨rfl, b15⟩
    have r17_n := le_on m14_n b15
    have r17_m := le_on n14 b15
    have l17 := le_tr o14 b15
    clear m14_n n14 o14
    clear b15
    go_wp2_with (first | (first | ((with_reducible refine st_load 25 _ g1 ?_ r17_n Try.underlying25 ?_ ?_ ?_); exact rfl; exact rfl; exact Try.zNr) | ((with_reducible refine st_loadG 25 _ g1 ?_ r17_n Try.underlying25 ?_ ?_ ?_ ?_); exact rfl; exact rfl; exact Try.zNr; exact rfl)))
    have lt18_n := CB.lt r17_n
    have lt18_m := CB.lt r17_m
    have lb18 : w.heap.size ≤ w15.heap.size := Below.size (B := w.heap.size) l17
    (with_reducible refine (enc_not n _ HI.out HR.out).mono ?_)
    rintro e w18 ⟨A901, q901, G901, rfl, h901, b18⟩
    have r20_n := le_on r17_n b18
    have r20_m := le_on r17_m b18
    have l20 := le_tr l17 b18
    clear r17_n r17_m l17
    clear b18
    have na21 := SO.above h901 lt18_n
    have na22 := SO.above h901 lt18_m
    have sm18_x := SO.mono h901 lb18
    clear h901
    clear lb18 lt18_n lt18_m
    go_wp2_with (first | (first | ((with_reducible refine st_load 25 _ g9 ?_ r20_m Try.underlying25 ?_ ?_ ?_); exact rfl; exact rfl; exact Try.zNr) | ((with_reducible refine st_loadG 25 _ g9 ?_ r20_m Try.underlying25 ?_ ?_ ?_ ?_); exact rfl; exact rfl; exact Try.zNr; exact rfl)))
    (with_reducible refine (theirs_c m _).mono ?_)
    rintro e w23 ⟨rfl, b23⟩
    have r24_x := SO.on sm18_x b23
    have r25_n := le_on r20_n b23
    have r25_m := le_on r20_m b23
    have l25 := le_tr l20 b23
    clear r20_n r20_m l20
    clear sm18_x
    clear b23
    go_wp2_with (first | (first | ((with_reducible refine st_load 25 _ g9 ?_ r25_m Try.underlying25 ?_ ?_ ?_); exact rfl; exact rfl; exact Try.zNr) | ((with_reducible refine st_loadG 25 _ g9 ?_ r25_m Try.underlying25 ?_ ?_ ?_ ?_); exact rfl; exact rfl; exact Try.zNr; exact rfl)))
    have lt26_n := CB.lt r25_n
    have lt26_m := CB.lt r25_m
    have lb26 : w.heap.size ≤ w23.heap.size := Below.size (B := w.heap.size) l25
    (with_reducible refine (enc_not m _ HJ.out HT.out).mono ?_)
    rintro e w26 ⟨A902, q902, G902, rfl, h902, b26⟩
    have r27_x := SO.on r24_x b26
    have r28_n := le_on r25_n b26
    have r28_m := le_on r25_m b26
    have l28 := le_tr l25 b26
    clear r25_n r25_m l25
    clear r24_x
    clear b26
    have na29 := SO.above h902 lt26_n
    have na30 := SO.above h902 lt26_m
    have sm26_y := SO.mono h902 lb26
    clear h902
    clear lb26 lt26_n lt26_m
    go_wp2_with (first | (first | ((with_reducible refine st_load 25 _ g1 ?_ r28_n Try.underlying25 ?_ ?_ ?_); exact rfl; exact rfl; exact Try.zNr) | ((with_reducible refine st_loadG 25 _ g1 ?_ r28_n Try.underlying25 ?_ ?_ ?_ ?_); exact rfl; exact rfl; exact Try.zNr; exact rfl)))
    (with_reducible refine (theirs_c n _).mono ?_)
    rintro e w31 ⟨rfl, b31⟩
    have r32_x := SO.on r27_x b31
    have r32_y := SO.on sm26_y b31
    have r33_n := le_on r28_n b31
    have r33_m := le_on r28_m b31
    have l33 := le_tr l28 b31
    clear r28_n r28_m l28
    clear r27_x sm26_y
    clear b31
    go_wp2_with fail
    (with_reducible refine (C1 _).mono ?_)
    rintro e w34 ⟨rfl, b34⟩
    have r35_x := SO.on r32_x b34
    have r35_y := SO.on r32_y b34
    have r36_n := le_on r33_n b34
    have r36_m := le_on r33_m b34
    have l36 := le_tr l33 b34
    clear r33_n r33_m l33
    clear r32_x r32_y
    clear b34
    go_wp2_with (first | (first | ((with_reducible refine st_load 25 _ g9 ?_ r36_m Try.underlying25 ?_ ?_ ?_); exact rfl; exact rfl; exact Try.zNr) | ((with_reducible refine st_loadG 25 _ g9 ?_ r36_m Try.underlying25 ?_ ?_ ?_ ?_); exact rfl; exact rfl; exact Try.zNr; exact rfl)))
    (with_reducible refine (theirs_c m _).mono ?_)
    rintro e w37 ⟨rfl, b37⟩
    have r38_x := SO.on r35_x b37
    have r38_y := SO.on r35_y b37
    have r39_n := le_on r36_n b37
    have r39_m := le_on r36_m b37
    have l39 := le_tr l36 b37
    clear r36_n r36_m l36
    clear r35_x r35_y
    clear b37
    go_wp2_with fail
    (with_reducible refine (C2 _).mono ?_)
    rintro e w40 ⟨rfl, b40⟩
    have r41_x := SO.on r38_x b40
    have r41_y := SO.on r38_y b40
    have r42_n := le_on r39_n b40
    have r42_m := le_on r39_m b40
    have l42 := le_tr l39 b40
    clear r39_n r39_m l39
    clear r38_x r38_y
    clear b40
    go_wp2_with fail
    go_ret
    exact ⟨rfl, l42⟩
  obtain rfl : r = 3 := by omega
  obtain ⟨x, hx⟩ : ∃ x, IntKind.i64.wrap (n.ep + 1) = x := ⟨_, rfl⟩
  obtain ⟨m, hm⟩ : ∃ m : Nt, { n with ep := x } = m := ⟨_, rfl⟩
  have hne : ¬ n = m := by rw [← hm]; intro e; have e2 := congrArg Nt.ep e; simp only at e2; rw [← hx] at e2; exact wrap_ne64 _ e2
  have hj : InN m := by rw [← hm]; exact hi
  have hkm : 25 + m.cg.size = k := by rw [← hm]; exact hk
  have hst := Lib.hid (show (ntA n).setIfInBounds 3 (.int .i64 x) = ntA m by rw [← hm]; rfl)
  have C2 := fun W => right_c m W
  clear hm
  by_cases hr : RightN n
  · by_cases ht : RightN m
    · skip
      have q2 : decide (RightN n) = true := decide_eq_true hr
      have q3 : decide (RightN m) = true := decide_eq_true ht
      simp only [q2] at C1
      simp only [q3] at C2
      have qn := by_ne hi hj hr ht hne
      have HI := Lib.hid hi
      have HJ := Lib.hid hj
      have HR := Lib.hid hr
      have HT := Lib.hid ht
      have HK := Lib.hid hk
      have HM := Lib.hid hkm
      clear hi hj hr ht hk hkm hne q2 q3
      go_enter Try.func6, Try.ntmps6
      go_wp2_with (first | ((with_reducible refine st_box 25 _ (ntA n) ?_ ?_); exact rfl))
      refine ⟨fun V1 g1 n1 f1 => ?_⟩
      have up1 : w.heap.size ≤ g1 := Nat.le_of_eq f1.at_
      have bl1 := f1.bel
      clear f1
      have l3 := le_tr (Below.refl _ _) bl1
      clear bl1
      go_wp2_with fail
      (with_reducible refine (alive_c _).mono ?_)
      rintro e w4 ⟨rfl, b4⟩
      have r6_n := le_on n1 b4
      have l6 := le_tr l3 b4
      clear n1 l3
      clear b4
      have c7 : w4.cell? ⟨g1, 9, none⟩ = some (.string (n.cg)) := CB.cell r6_n 9
      go_wp2_with (first | (first | ((with_reducible refine st_load 25 _ g1 ?_ r6_n Try.underlying25 ?_ ?_ ?_); exact rfl; exact rfl; exact Try.zNr) | ((with_reducible refine st_loadG 25 _ g1 ?_ r6_n Try.underlying25 ?_ ?_ ?_ ?_); exact rfl; exact rfl; exact Try.zNr; exact rfl)) | ((with_reducible refine st_alloc 25 (ntA zN) ?_ ?_); exact zero_nr))
      refine ⟨fun V9 g9 n9 f9 => ?_⟩
      clear c7
      have ne9_n := f9.ne r6_n
      have up9 : w.heap.size ≤ g9 := f9.up l6
      have bl9 := f9.bel
      clear f9
      have r11_n := le_on r6_n bl9
      have l11 := le_tr l6 bl9
      clear r6_n l6
      clear bl9
      go_wp2_with (first | (first | ((with_reducible refine st_load 25 _ g1 ?_ r11_n Try.underlying25 ?_ ?_ ?_); exact rfl; exact rfl; exact Try.zNr) | ((with_reducible refine st_loadG 25 _ g1 ?_ r11_n Try.underlying25 ?_ ?_ ?_ ?_); exact rfl; exact rfl; exact Try.zNr; exact rfl)) | ((with_reducible refine st_store 25 _ _ g9 (ntA n) ?_ ?_ n9 ?_ ?_ ?_ ?_); exact rfl; exact rfl; exact Try.zNr; exact rfl; exact ntA_one _))
      refine ⟨fun V12 n12 k12 => ?_⟩
      have m12_n := k12.on r11_n ne9_n
      have o12 := k12.bel _ _ l11 up9
      clear k12
      clear n9 r11_n l11
      have c13 : V12.cell? ⟨g9, 3, none⟩ = some (.int .i64 (n.ep)) := CB.cell n12 3
      go_wp2_with (first | ((with_reducible refine st_cell 3 _ _ g9 3 (.int .i64 x) ?_ ?_ n12 (new := ntA m) ?_ ?_ ?_ ?_ ?_ ?_); exact rfl; exact rfl; exact (by rw [ntA_size]; decide); exact hst.out; exact one_i; exact rfl; exact rfl))
      refine ⟨fun V14 n14 k14 => ?_⟩
      clear c13
      have m14_n := k14.on m12_n ne9_n
      have o14 := k14.bel _ _ o12 up9
      clear k14
      clear n12 m12_n o12
      go_wp2_with (first | (first | ((with_reducible refine st_load 25 _ g1 ?_ m14_n Try.underlying25 ?_ ?_ ?_); exact rfl; exact rfl; exact Try.zNr) | ((with_reducible refine st_loadG 25 _ g1 ?_ m14_n Try.underlying25 ?_ ?_ ?_ ?_); exact rfl; exact rfl; exact Try.zNr; exact rfl)))
      (with_reducible refine (theirs_c n _).mono ?_)
      rintro e w15 ⟨rfl, b15⟩
      have r17_n := le_on m14_n b15
      have r17_m := le_on n14 b15
      have l17 := le_tr o14 b15
      clear m14_n n14 o14
      clear b15
      go_wp2_with (first | (first | ((with_reducible refine st_load 25 _ g1 ?_ r17_n Try.underlying25 ?_ ?_ ?_); exact rfl; exact rfl; exact Try.zNr) | ((with_reducible refine st_loadG 25 _ g1 ?_ r17_n Try.underlying25 ?_ ?_ ?_ ?_); exact rfl; exact rfl; exact Try.zNr; exact rfl)))
      have lt18_n := CB.lt r17_n
      have lt18_m := CB.lt r17_m
      have lb18 : w.heap.size ≤ w15.heap.size := Below.size (B := w.heap.size) l17
      (with_reducible refine (enc_yes n k _ HI.out HR.out HK.out).mono ?_)
      rintro e w18 ⟨A901, q901, G901, rfl, h901, b18⟩
      have r20_n := le_on r17_n b18
      have r20_m := le_on r17_m b18
      have l20 := le_tr l17 b18
      clear r17_n r17_m l17
      clear b18
      have na21 := SO.above h901 lt18_n
      have na22 := SO.above h901 lt18_m
      have sm18_x := SO.mono h901 lb18
      clear h901
      clear lb18 lt18_n lt18_m
      go_wp2_with (first | (first | ((with_reducible refine st_load 25 _ g9 ?_ r20_m Try.underlying25 ?_ ?_ ?_); exact rfl; exact rfl; exact Try.zNr) | ((with_reducible refine st_loadG 25 _ g9 ?_ r20_m Try.underlying25 ?_ ?_ ?_ ?_); exact rfl; exact rfl; exact Try.zNr; exact rfl)))
      (with_reducible refine (theirs_c m _).mono ?_)
      rintro e w23 ⟨rfl, b23⟩
      have r24_x := SO.on sm18_x b23
      have r25_n := le_on r20_n b23
      have r25_m := le_on r20_m b23
      have l25 := le_tr l20 b23
      clear r20_n r20_m l20
      clear sm18_x
      clear b23
      go_wp2_with (first | (first | ((with_reducible refine st_load 25 _ g9 ?_ r25_m Try.underlying25 ?_ ?_ ?_); exact rfl; exact rfl; exact Try.zNr) | ((with_reducible refine st_loadG 25 _ g9 ?_ r25_m Try.underlying25 ?_ ?_ ?_ ?_); exact rfl; exact rfl; exact Try.zNr; exact rfl)))
      have lt26_n := CB.lt r25_n
      have lt26_m := CB.lt r25_m
      have lb26 : w.heap.size ≤ w23.heap.size := Below.size (B := w.heap.size) l25
      (with_reducible refine (enc_yes m k _ HJ.out HT.out HM.out).mono ?_)
      rintro e w26 ⟨A902, q902, G902, rfl, h902, b26⟩
      have r27_x := SO.on r24_x b26
      have r28_n := le_on r25_n b26
      have r28_m := le_on r25_m b26
      have l28 := le_tr l25 b26
      clear r25_n r25_m l25
      clear r24_x
      clear b26
      have na29 := SO.above h902 lt26_n
      have na30 := SO.above h902 lt26_m
      have sm26_y := SO.mono h902 lb26
      clear h902
      clear lb26 lt26_n lt26_m
      go_wp2_with (first | (first | ((with_reducible refine st_load 25 _ g1 ?_ r28_n Try.underlying25 ?_ ?_ ?_); exact rfl; exact rfl; exact Try.zNr) | ((with_reducible refine st_loadG 25 _ g1 ?_ r28_n Try.underlying25 ?_ ?_ ?_ ?_); exact rfl; exact rfl; exact Try.zNr; exact rfl)))
      (with_reducible refine (theirs_c n _).mono ?_)
      rintro e w31 ⟨rfl, b31⟩
      have r32_x := SO.on r27_x b31
      have r32_y := SO.on sm26_y b31
      have r33_n := le_on r28_n b31
      have r33_m := le_on r28_m b31
      have l33 := le_tr l28 b31
      clear r28_n r28_m l28
      clear r27_x sm26_y
      clear b31
      go_wp2_with fail
      (with_reducible refine (C1 _).mono ?_)
      rintro e w34 ⟨rfl, b34⟩
      have r35_x := SO.on r32_x b34
      have r35_y := SO.on r32_y b34
      have r36_n := le_on r33_n b34
      have r36_m := le_on r33_m b34
      have l36 := le_tr l33 b34
      clear r33_n r33_m l33
      clear r32_x r32_y
      clear b34
      go_wp2_with (first | (first | ((with_reducible refine st_load 25 _ g9 ?_ r36_m Try.underlying25 ?_ ?_ ?_); exact rfl; exact rfl; exact Try.zNr) | ((with_reducible refine st_loadG 25 _ g9 ?_ r36_m Try.underlying25 ?_ ?_ ?_ ?_); exact rfl; exact rfl; exact Try.zNr; exact rfl)))
      (with_reducible refine (theirs_c m _).mono ?_)
      rintro e w37 ⟨rfl, b37⟩
      have r38_x := SO.on r35_x b37
      have r38_y := SO.on r35_y b37
      have r39_n := le_on r36_n b37
      have r39_m := le_on r36_m b37
      have l39 := le_tr l36 b37
      clear r36_n r36_m l36
      clear r35_x r35_y
      clear b37
      go_wp2_with fail
      (with_reducible refine (C2 _).mono ?_)
      rintro e w40 ⟨rfl, b40⟩
      have r41_x := SO.on r38_x b40
      have r41_y := SO.on r38_y b40
      have r42_n := le_on r39_n b40
      have r42_m := le_on r39_m b40
      have l42 := le_tr l39 b40
      clear r39_n r39_m l39
      clear r38_x r38_y
      clear b40
      have v1 := conv_C _ _ _ _ _ (SO.rr r41_x)
      have v2 := conv_C _ _ _ _ _ (SO.rr r41_y)
      go_wp2_with fail
      go_ret
      exact ⟨rfl, l42⟩
    have q2 : decide (RightN n) = true := decide_eq_true hr
    have q3 : decide (RightN m) = false := decide_eq_false ht
    simp only [q2] at C1
    simp only [q3] at C2
    have HI := Lib.hid hi
    have HJ := Lib.hid hj
    have HR := Lib.hid hr
    have HT := Lib.hid ht
    have HK := Lib.hid hk
    have HM := Lib.hid hkm
    clear hi hj hr ht hk hkm hne q2 q3
    go_enter Try.func6, Try.ntmps6
    go_wp2_with (first | ((with_reducible refine st_box 25 _ (ntA n) ?_ ?_); exact rfl))
    refine ⟨fun V1 g1 n1 f1 => ?_⟩
    have up1 : w.heap.size ≤ g1 := Nat.le_of_eq f1.at_
    have bl1 := f1.bel
    clear f1
    have l3 := le_tr (Below.refl _ _) bl1
    clear bl1
    go_wp2_with fail
    (with_reducible refine (alive_c _).mono ?_)
    rintro e w4 ⟨rfl, b4⟩
    have r6_n := le_on n1 b4
    have l6 := le_tr l3 b4
    clear n1 l3
    clear b4
    have c7 : w4.cell? ⟨g1, 9, none⟩ = some (.string (n.cg)) := CB.cell r6_n 9
    go_wp2_with (first | (first | ((with_reducible refine st_load 25 _ g1 ?_ r6_n Try.underlying25 ?_ ?_ ?_); exact rfl; exact rfl; exact Try.zNr) | ((with_reducible refine st_loadG 25 _ g1 ?_ r6_n Try.underlying25 ?_ ?_ ?_ ?_); exact rfl; exact rfl; exact Try.zNr; exact rfl)) | ((with_reducible refine st_alloc 25 (ntA zN) ?_ ?_); exact zero_nr))
    refine ⟨fun V9 g9 n9 f9 => ?_⟩
    clear c7
    have ne9_n := f9.ne r6_n
    have up9 : w.heap.size ≤ g9 := f9.up l6
    have bl9 := f9.bel
    clear f9
    have r11_n := le_on r6_n bl9
    have l11 := le_tr l6 bl9
    clear r6_n l6
    clear bl9
    go_wp2_with (first | (first | ((with_reducible refine st_load 25 _ g1 ?_ r11_n Try.underlying25 ?_ ?_ ?_); exact rfl; exact rfl; exact Try.zNr) | ((with_reducible refine st_loadG 25 _ g1 ?_ r11_n Try.underlying25 ?_ ?_ ?_ ?_); exact rfl; exact rfl; exact Try.zNr; exact rfl)) | ((with_reducible refine st_store 25 _ _ g9 (ntA n) ?_ ?_ n9 ?_ ?_ ?_ ?_); exact rfl; exact rfl; exact Try.zNr; exact rfl; exact ntA_one _))
    refine ⟨fun V12 n12 k12 => ?_⟩
    have m12_n := k12.on r11_n ne9_n
    have o12 := k12.bel _ _ l11 up9
    clear k12
    clear n9 r11_n l11
    have c13 : V12.cell? ⟨g9, 3, none⟩ = some (.int .i64 (n.ep)) := CB.cell n12 3
    go_wp2_with (first | ((with_reducible refine st_cell 3 _ _ g9 3 (.int .i64 x) ?_ ?_ n12 (new := ntA m) ?_ ?_ ?_ ?_ ?_ ?_); exact rfl; exact rfl; exact (by rw [ntA_size]; decide); exact hst.out; exact one_i; exact rfl; exact rfl))
    refine ⟨fun V14 n14 k14 => ?_⟩
    clear c13
    have m14_n := k14.on m12_n ne9_n
    have o14 := k14.bel _ _ o12 up9
    clear k14
    clear n12 m12_n o12
    go_wp2_with (first | (first | ((with_reducible refine st_load 25 _ g1 ?_ m14_n Try.underlying25 ?_ ?_ ?_); exact rfl; exact rfl; exact Try.zNr) | ((with_reducible refine st_loadG 25 _ g1 ?_ m14_n Try.underlying25 ?_ ?_ ?_ ?_); exact rfl; exact rfl; exact Try.zNr; exact rfl)))
    (with_reducible refine (theirs_c n _).mono ?_)
    rintro e w15 ⟨rfl, b15⟩
    have r17_n := le_on m14_n b15
    have r17_m := le_on n14 b15
    have l17 := le_tr o14 b15
    clear m14_n n14 o14
    clear b15
    go_wp2_with (first | (first | ((with_reducible refine st_load 25 _ g1 ?_ r17_n Try.underlying25 ?_ ?_ ?_); exact rfl; exact rfl; exact Try.zNr) | ((with_reducible refine st_loadG 25 _ g1 ?_ r17_n Try.underlying25 ?_ ?_ ?_ ?_); exact rfl; exact rfl; exact Try.zNr; exact rfl)))
    have lt18_n := CB.lt r17_n
    have lt18_m := CB.lt r17_m
    have lb18 : w.heap.size ≤ w15.heap.size := Below.size (B := w.heap.size) l17
    (with_reducible refine (enc_yes n k _ HI.out HR.out HK.out).mono ?_)
    rintro e w18 ⟨A901, q901, G901, rfl, h901, b18⟩
    have r20_n := le_on r17_n b18
    have r20_m := le_on r17_m b18
    have l20 := le_tr l17 b18
    clear r17_n r17_m l17
    clear b18
    have na21 := SO.above h901 lt18_n
    have na22 := SO.above h901 lt18_m
    have sm18_x := SO.mono h901 lb18
    clear h901
    clear lb18 lt18_n lt18_m
    go_wp2_with (first | (first | ((with_reducible refine st_load 25 _ g9 ?_ r20_m Try.underlying25 ?_ ?_ ?_); exact rfl; exact rfl; exact Try.zNr) | ((with_reducible refine st_loadG 25 _ g9 ?_ r20_m Try.underlying25 ?_ ?_ ?_ ?_); exact rfl; exact rfl; exact Try.zNr; exact rfl)))
    (with_reducible refine (theirs_c m _).mono ?_)
    rintro e w23 ⟨rfl, b23⟩
    have r24_x := SO.on sm18_x b23
    have r25_n := le_on r20_n b23
    have r25_m := le_on r20_m b23
    have l25 := le_tr l20 b23
    clear r20_n r20_m l20
    clear sm18_x
    clear b23
    go_wp2_with (first | (first | ((with_reducible refine st_load 25 _ g9 ?_ r25_m Try.underlying25 ?_ ?_ ?_); exact rfl; exact rfl; exact Try.zNr) | ((with_reducible refine st_loadG 25 _ g9 ?_ r25_m Try.underlying25 ?_ ?_ ?_ ?_); exact rfl; exact rfl; exact Try.zNr; exact rfl)))
    have lt26_n := CB.lt r25_n
    have lt26_m := CB.lt r25_m
    have lb26 : w.heap.size ≤ w23.heap.size := Below.size (B := w.heap.size) l25
    (with_reducible refine (enc_not m _ HJ.out HT.out).mono ?_)
    rintro e w26 ⟨A902, q902, G902, rfl, h902, b26⟩
    have r27_x := SO.on r24_x b26
    have r28_n := le_on r25_n b26
    have r28_m := le_on r25_m b26
    have l28 := le_tr l25 b26
    clear r25_n r25_m l25
    clear r24_x
    clear b26
    have na29 := SO.above h902 lt26_n
    have na30 := SO.above h902 lt26_m
    have sm26_y := SO.mono h902 lb26
    clear h902
    clear lb26 lt26_n lt26_m
    go_wp2_with (first | (first | ((with_reducible refine st_load 25 _ g1 ?_ r28_n Try.underlying25 ?_ ?_ ?_); exact rfl; exact rfl; exact Try.zNr) | ((with_reducible refine st_loadG 25 _ g1 ?_ r28_n Try.underlying25 ?_ ?_ ?_ ?_); exact rfl; exact rfl; exact Try.zNr; exact rfl)))
    (with_reducible refine (theirs_c n _).mono ?_)
    rintro e w31 ⟨rfl, b31⟩
    have r32_x := SO.on r27_x b31
    have r32_y := SO.on sm26_y b31
    have r33_n := le_on r28_n b31
    have r33_m := le_on r28_m b31
    have l33 := le_tr l28 b31
    clear r28_n r28_m l28
    clear r27_x sm26_y
    clear b31
    go_wp2_with fail
    (with_reducible refine (C1 _).mono ?_)
    rintro e w34 ⟨rfl, b34⟩
    have r35_x := SO.on r32_x b34
    have r35_y := SO.on r32_y b34
    have r36_n := le_on r33_n b34
    have r36_m := le_on r33_m b34
    have l36 := le_tr l33 b34
    clear r33_n r33_m l33
    clear r32_x r32_y
    clear b34
    go_wp2_with (first | (first | ((with_reducible refine st_load 25 _ g9 ?_ r36_m Try.underlying25 ?_ ?_ ?_); exact rfl; exact rfl; exact Try.zNr) | ((with_reducible refine st_loadG 25 _ g9 ?_ r36_m Try.underlying25 ?_ ?_ ?_ ?_); exact rfl; exact rfl; exact Try.zNr; exact rfl)))
    (with_reducible refine (theirs_c m _).mono ?_)
    rintro e w37 ⟨rfl, b37⟩
    have r38_x := SO.on r35_x b37
    have r38_y := SO.on r35_y b37
    have r39_n := le_on r36_n b37
    have r39_m := le_on r36_m b37
    have l39 := le_tr l36 b37
    clear r36_n r36_m l36
    clear r35_x r35_y
    clear b37
    go_wp2_with fail
    (with_reducible refine (C2 _).mono ?_)
    rintro e w40 ⟨rfl, b40⟩
    have r41_x := SO.on r38_x b40
    have r41_y := SO.on r38_y b40
    have r42_n := le_on r39_n b40
    have r42_m := le_on r39_m b40
    have l42 := le_tr l39 b40
    clear r39_n r39_m l39
    clear r38_x r38_y
    clear b40
    go_wp2_with fail
    go_ret
    exact ⟨rfl, l42⟩
  by_cases ht : RightN m
  · skip
    have q2 : decide (RightN n) = false := decide_eq_false hr
    have q3 : decide (RightN m) = true := decide_eq_true ht
    simp only [q2] at C1
    simp only [q3] at C2
    have HI := Lib.hid hi
    have HJ := Lib.hid hj
    have HR := Lib.hid hr
    have HT := Lib.hid ht
    have HK := Lib.hid hk
    have HM := Lib.hid hkm
    clear hi hj hr ht hk hkm hne q2 q3
    go_enter Try.func6, Try.ntmps6
    go_wp2_with (first | ((with_reducible refine st_box 25 _ (ntA n) ?_ ?_); exact rfl))
    refine ⟨fun V1 g1 n1 f1 => ?_⟩
    have up1 : w.heap.size ≤ g1 := Nat.le_of_eq f1.at_
    have bl1 := f1.bel
    clear f1
    have l3 := le_tr (Below.refl _ _) bl1
    clear bl1
    go_wp2_with fail
    (with_reducible refine (alive_c _).mono ?_)
    rintro e w4 ⟨rfl, b4⟩
    have r6_n := le_on n1 b4
    have l6 := le_tr l3 b4
    clear n1 l3
    clear b4
    have c7 : w4.cell? ⟨g1, 9, none⟩ = some (.string (n.cg)) := CB.cell r6_n 9
    go_wp2_with (first | (first | ((with_reducible refine st_load 25 _ g1 ?_ r6_n Try.underlying25 ?_ ?_ ?_); exact rfl; exact rfl; exact Try.zNr) | ((with_reducible refine st_loadG 25 _ g1 ?_ r6_n Try.underlying25 ?_ ?_ ?_ ?_); exact rfl; exact rfl; exact Try.zNr; exact rfl)) | ((with_reducible refine st_alloc 25 (ntA zN) ?_ ?_); exact zero_nr))
    refine ⟨fun V9 g9 n9 f9 => ?_⟩
    clear c7
    have ne9_n := f9.ne r6_n
    have up9 : w.heap.size ≤ g9 := f9.up l6
    have bl9 := f9.bel
    clear f9
    have r11_n := le_on r6_n bl9
    have l11 := le_tr l6 bl9
    clear r6_n l6
    clear bl9
    go_wp2_with (first | (first | ((with_reducible refine st_load 25 _ g1 ?_ r11_n Try.underlying25 ?_ ?_ ?_); exact rfl; exact rfl; exact Try.zNr) | ((with_reducible refine st_loadG 25 _ g1 ?_ r11_n Try.underlying25 ?_ ?_ ?_ ?_); exact rfl; exact rfl; exact Try.zNr; exact rfl)) | ((with_reducible refine st_store 25 _ _ g9 (ntA n) ?_ ?_ n9 ?_ ?_ ?_ ?_); exact rfl; exact rfl; exact Try.zNr; exact rfl; exact ntA_one _))
    refine ⟨fun V12 n12 k12 => ?_⟩
    have m12_n := k12.on r11_n ne9_n
    have o12 := k12.bel _ _ l11 up9
    clear k12
    clear n9 r11_n l11
    have c13 : V12.cell? ⟨g9, 3, none⟩ = some (.int .i64 (n.ep)) := CB.cell n12 3
    go_wp2_with (first | ((with_reducible refine st_cell 3 _ _ g9 3 (.int .i64 x) ?_ ?_ n12 (new := ntA m) ?_ ?_ ?_ ?_ ?_ ?_); exact rfl; exact rfl; exact (by rw [ntA_size]; decide); exact hst.out; exact one_i; exact rfl; exact rfl))
    refine ⟨fun V14 n14 k14 => ?_⟩
    clear c13
    have m14_n := k14.on m12_n ne9_n
    have o14 := k14.bel _ _ o12 up9
    clear k14
    clear n12 m12_n o12
    go_wp2_with (first | (first | ((with_reducible refine st_load 25 _ g1 ?_ m14_n Try.underlying25 ?_ ?_ ?_); exact rfl; exact rfl; exact Try.zNr) | ((with_reducible refine st_loadG 25 _ g1 ?_ m14_n Try.underlying25 ?_ ?_ ?_ ?_); exact rfl; exact rfl; exact Try.zNr; exact rfl)))
    (with_reducible refine (theirs_c n _).mono ?_)
    rintro e w15 ⟨rfl, b15⟩
    have r17_n := le_on m14_n b15
    have r17_m := le_on n14 b15
    have l17 := le_tr o14 b15
    clear m14_n n14 o14
    clear b15
    go_wp2_with (first | (first | ((with_reducible refine st_load 25 _ g1 ?_ r17_n Try.underlying25 ?_ ?_ ?_); exact rfl; exact rfl; exact Try.zNr) | ((with_reducible refine st_loadG 25 _ g1 ?_ r17_n Try.underlying25 ?_ ?_ ?_ ?_); exact rfl; exact rfl; exact Try.zNr; exact rfl)))
    have lt18_n := CB.lt r17_n
    have lt18_m := CB.lt r17_m
    have lb18 : w.heap.size ≤ w15.heap.size := Below.size (B := w.heap.size) l17
    (with_reducible refine (enc_not n _ HI.out HR.out).mono ?_)
    rintro e w18 ⟨A901, q901, G901, rfl, h901, b18⟩
    have r20_n := le_on r17_n b18
    have r20_m := le_on r17_m b18
    have l20 := le_tr l17 b18
    clear r17_n r17_m l17
    clear b18
    have na21 := SO.above h901 lt18_n
    have na22 := SO.above h901 lt18_m
    have sm18_x := SO.mono h901 lb18
    clear h901
    clear lb18 lt18_n lt18_m
    go_wp2_with (first | (first | ((with_reducible refine st_load 25 _ g9 ?_ r20_m Try.underlying25 ?_ ?_ ?_); exact rfl; exact rfl; exact Try.zNr) | ((with_reducible refine st_loadG 25 _ g9 ?_ r20_m Try.underlying25 ?_ ?_ ?_ ?_); exact rfl; exact rfl; exact Try.zNr; exact rfl)))
    (with_reducible refine (theirs_c m _).mono ?_)
    rintro e w23 ⟨rfl, b23⟩
    have r24_x := SO.on sm18_x b23
    have r25_n := le_on r20_n b23
    have r25_m := le_on r20_m b23
    have l25 := le_tr l20 b23
    clear r20_n r20_m l20
    clear sm18_x
    clear b23
    go_wp2_with (first | (first | ((with_reducible refine st_load 25 _ g9 ?_ r25_m Try.underlying25 ?_ ?_ ?_); exact rfl; exact rfl; exact Try.zNr) | ((with_reducible refine st_loadG 25 _ g9 ?_ r25_m Try.underlying25 ?_ ?_ ?_ ?_); exact rfl; exact rfl; exact Try.zNr; exact rfl)))
    have lt26_n := CB.lt r25_n
    have lt26_m := CB.lt r25_m
    have lb26 : w.heap.size ≤ w23.heap.size := Below.size (B := w.heap.size) l25
    (with_reducible refine (enc_yes m k _ HJ.out HT.out HM.out).mono ?_)
    rintro e w26 ⟨A902, q902, G902, rfl, h902, b26⟩
    have r27_x := SO.on r24_x b26
    have r28_n := le_on r25_n b26
    have r28_m := le_on r25_m b26
    have l28 := le_tr l25 b26
    clear r25_n r25_m l25
    clear r24_x
    clear b26
    have na29 := SO.above h902 lt26_n
    have na30 := SO.above h902 lt26_m
    have sm26_y := SO.mono h902 lb26
    clear h902
    clear lb26 lt26_n lt26_m
    go_wp2_with (first | (first | ((with_reducible refine st_load 25 _ g1 ?_ r28_n Try.underlying25 ?_ ?_ ?_); exact rfl; exact rfl; exact Try.zNr) | ((with_reducible refine st_loadG 25 _ g1 ?_ r28_n Try.underlying25 ?_ ?_ ?_ ?_); exact rfl; exact rfl; exact Try.zNr; exact rfl)))
    (with_reducible refine (theirs_c n _).mono ?_)
    rintro e w31 ⟨rfl, b31⟩
    have r32_x := SO.on r27_x b31
    have r32_y := SO.on sm26_y b31
    have r33_n := le_on r28_n b31
    have r33_m := le_on r28_m b31
    have l33 := le_tr l28 b31
    clear r28_n r28_m l28
    clear r27_x sm26_y
    clear b31
    go_wp2_with fail
    (with_reducible refine (C1 _).mono ?_)
    rintro e w34 ⟨rfl, b34⟩
    have r35_x := SO.on r32_x b34
    have r35_y := SO.on r32_y b34
    have r36_n := le_on r33_n b34
    have r36_m := le_on r33_m b34
    have l36 := le_tr l33 b34
    clear r33_n r33_m l33
    clear r32_x r32_y
    clear b34
    go_wp2_with (first | (first | ((with_reducible refine st_load 25 _ g9 ?_ r36_m Try.underlying25 ?_ ?_ ?_); exact rfl; exact rfl; exact Try.zNr) | ((with_reducible refine st_loadG 25 _ g9 ?_ r36_m Try.underlying25 ?_ ?_ ?_ ?_); exact rfl; exact rfl; exact Try.zNr; exact rfl)))
    (with_reducible refine (theirs_c m _).mono ?_)
    rintro e w37 ⟨rfl, b37⟩
    have r38_x := SO.on r35_x b37
    have r38_y := SO.on r35_y b37
    have r39_n := le_on r36_n b37
    have r39_m := le_on r36_m b37
    have l39 := le_tr l36 b37
    clear r36_n r36_m l36
    clear r35_x r35_y
    clear b37
    go_wp2_with fail
    (with_reducible refine (C2 _).mono ?_)
    rintro e w40 ⟨rfl, b40⟩
    have r41_x := SO.on r38_x b40
    have r41_y := SO.on r38_y b40
    have r42_n := le_on r39_n b40
    have r42_m := le_on r39_m b40
    have l42 := le_tr l39 b40
    clear r39_n r39_m l39
    clear r38_x r38_y
    clear b40
    go_wp2_with fail
    go_ret
    exact ⟨rfl, l42⟩
  have q2 : decide (RightN n) = false := decide_eq_false hr
  have q3 : decide (RightN m) = false := decide_eq_false ht
  simp only [q2] at C1
  simp only [q3] at C2
  have HI := Lib.hid hi
  have HJ := Lib.hid hj
  have HR := Lib.hid hr
  have HT := Lib.hid ht
  have HK := Lib.hid hk
  have HM := Lib.hid hkm
  clear hi hj hr ht hk hkm hne q2 q3
  go_enter Try.func6, Try.ntmps6
  go_wp2_with (first | ((with_reducible refine st_box 25 _ (ntA n) ?_ ?_); exact rfl))
  refine ⟨fun V1 g1 n1 f1 => ?_⟩
  have up1 : w.heap.size ≤ g1 := Nat.le_of_eq f1.at_
  have bl1 := f1.bel
  clear f1
  have l3 := le_tr (Below.refl _ _) bl1
  clear bl1
  go_wp2_with fail
  (with_reducible refine (alive_c _).mono ?_)
  rintro e w4 ⟨rfl, b4⟩
  have r6_n := le_on n1 b4
  have l6 := le_tr l3 b4
  clear n1 l3
  clear b4
  have c7 : w4.cell? ⟨g1, 9, none⟩ = some (.string (n.cg)) := CB.cell r6_n 9
  go_wp2_with (first | (first | ((with_reducible refine st_load 25 _ g1 ?_ r6_n Try.underlying25 ?_ ?_ ?_); exact rfl; exact rfl; exact Try.zNr) | ((with_reducible refine st_loadG 25 _ g1 ?_ r6_n Try.underlying25 ?_ ?_ ?_ ?_); exact rfl; exact rfl; exact Try.zNr; exact rfl)) | ((with_reducible refine st_alloc 25 (ntA zN) ?_ ?_); exact zero_nr))
  refine ⟨fun V9 g9 n9 f9 => ?_⟩
  clear c7
  have ne9_n := f9.ne r6_n
  have up9 : w.heap.size ≤ g9 := f9.up l6
  have bl9 := f9.bel
  clear f9
  have r11_n := le_on r6_n bl9
  have l11 := le_tr l6 bl9
  clear r6_n l6
  clear bl9
  go_wp2_with (first | (first | ((with_reducible refine st_load 25 _ g1 ?_ r11_n Try.underlying25 ?_ ?_ ?_); exact rfl; exact rfl; exact Try.zNr) | ((with_reducible refine st_loadG 25 _ g1 ?_ r11_n Try.underlying25 ?_ ?_ ?_ ?_); exact rfl; exact rfl; exact Try.zNr; exact rfl)) | ((with_reducible refine st_store 25 _ _ g9 (ntA n) ?_ ?_ n9 ?_ ?_ ?_ ?_); exact rfl; exact rfl; exact Try.zNr; exact rfl; exact ntA_one _))
  refine ⟨fun V12 n12 k12 => ?_⟩
  have m12_n := k12.on r11_n ne9_n
  have o12 := k12.bel _ _ l11 up9
  clear k12
  clear n9 r11_n l11
  have c13 : V12.cell? ⟨g9, 3, none⟩ = some (.int .i64 (n.ep)) := CB.cell n12 3
  go_wp2_with (first | ((with_reducible refine st_cell 3 _ _ g9 3 (.int .i64 x) ?_ ?_ n12 (new := ntA m) ?_ ?_ ?_ ?_ ?_ ?_); exact rfl; exact rfl; exact (by rw [ntA_size]; decide); exact hst.out; exact one_i; exact rfl; exact rfl))
  refine ⟨fun V14 n14 k14 => ?_⟩
  clear c13
  have m14_n := k14.on m12_n ne9_n
  have o14 := k14.bel _ _ o12 up9
  clear k14
  clear n12 m12_n o12
  go_wp2_with (first | (first | ((with_reducible refine st_load 25 _ g1 ?_ m14_n Try.underlying25 ?_ ?_ ?_); exact rfl; exact rfl; exact Try.zNr) | ((with_reducible refine st_loadG 25 _ g1 ?_ m14_n Try.underlying25 ?_ ?_ ?_ ?_); exact rfl; exact rfl; exact Try.zNr; exact rfl)))
  (with_reducible refine (theirs_c n _).mono ?_)
  rintro e w15 ⟨rfl, b15⟩
  have r17_n := le_on m14_n b15
  have r17_m := le_on n14 b15
  have l17 := le_tr o14 b15
  clear m14_n n14 o14
  clear b15
  go_wp2_with (first | (first | ((with_reducible refine st_load 25 _ g1 ?_ r17_n Try.underlying25 ?_ ?_ ?_); exact rfl; exact rfl; exact Try.zNr) | ((with_reducible refine st_loadG 25 _ g1 ?_ r17_n Try.underlying25 ?_ ?_ ?_ ?_); exact rfl; exact rfl; exact Try.zNr; exact rfl)))
  have lt18_n := CB.lt r17_n
  have lt18_m := CB.lt r17_m
  have lb18 : w.heap.size ≤ w15.heap.size := Below.size (B := w.heap.size) l17
  (with_reducible refine (enc_not n _ HI.out HR.out).mono ?_)
  rintro e w18 ⟨A901, q901, G901, rfl, h901, b18⟩
  have r20_n := le_on r17_n b18
  have r20_m := le_on r17_m b18
  have l20 := le_tr l17 b18
  clear r17_n r17_m l17
  clear b18
  have na21 := SO.above h901 lt18_n
  have na22 := SO.above h901 lt18_m
  have sm18_x := SO.mono h901 lb18
  clear h901
  clear lb18 lt18_n lt18_m
  go_wp2_with (first | (first | ((with_reducible refine st_load 25 _ g9 ?_ r20_m Try.underlying25 ?_ ?_ ?_); exact rfl; exact rfl; exact Try.zNr) | ((with_reducible refine st_loadG 25 _ g9 ?_ r20_m Try.underlying25 ?_ ?_ ?_ ?_); exact rfl; exact rfl; exact Try.zNr; exact rfl)))
  (with_reducible refine (theirs_c m _).mono ?_)
  rintro e w23 ⟨rfl, b23⟩
  have r24_x := SO.on sm18_x b23
  have r25_n := le_on r20_n b23
  have r25_m := le_on r20_m b23
  have l25 := le_tr l20 b23
  clear r20_n r20_m l20
  clear sm18_x
  clear b23
  go_wp2_with (first | (first | ((with_reducible refine st_load 25 _ g9 ?_ r25_m Try.underlying25 ?_ ?_ ?_); exact rfl; exact rfl; exact Try.zNr) | ((with_reducible refine st_loadG 25 _ g9 ?_ r25_m Try.underlying25 ?_ ?_ ?_ ?_); exact rfl; exact rfl; exact Try.zNr; exact rfl)))
  have lt26_n := CB.lt r25_n
  have lt26_m := CB.lt r25_m
  have lb26 : w.heap.size ≤ w23.heap.size := Below.size (B := w.heap.size) l25
  (with_reducible refine (enc_not m _ HJ.out HT.out).mono ?_)
  rintro e w26 ⟨A902, q902, G902, rfl, h902, b26⟩
  have r27_x := SO.on r24_x b26
  have r28_n := le_on r25_n b26
  have r28_m := le_on r25_m b26
  have l28 := le_tr l25 b26
  clear r25_n r25_m l25
  clear r24_x
  clear b26
  have na29 := SO.above h902 lt26_n
  have na30 := SO.above h902 lt26_m
  have sm26_y := SO.mono h902 lb26
  clear h902
  clear lb26 lt26_n lt26_m
  go_wp2_with (first | (first | ((with_reducible refine st_load 25 _ g1 ?_ r28_n Try.underlying25 ?_ ?_ ?_); exact rfl; exact rfl; exact Try.zNr) | ((with_reducible refine st_loadG 25 _ g1 ?_ r28_n Try.underlying25 ?_ ?_ ?_ ?_); exact rfl; exact rfl; exact Try.zNr; exact rfl)))
  (with_reducible refine (theirs_c n _).mono ?_)
  rintro e w31 ⟨rfl, b31⟩
  have r32_x := SO.on r27_x b31
  have r32_y := SO.on sm26_y b31
  have r33_n := le_on r28_n b31
  have r33_m := le_on r28_m b31
  have l33 := le_tr l28 b31
  clear r28_n r28_m l28
  clear r27_x sm26_y
  clear b31
  go_wp2_with fail
  (with_reducible refine (C1 _).mono ?_)
  rintro e w34 ⟨rfl, b34⟩
  have r35_x := SO.on r32_x b34
  have r35_y := SO.on r32_y b34
  have r36_n := le_on r33_n b34
  have r36_m := le_on r33_m b34
  have l36 := le_tr l33 b34
  clear r33_n r33_m l33
  clear r32_x r32_y
  clear b34
  go_wp2_with (first | (first | ((with_reducible refine st_load 25 _ g9 ?_ r36_m Try.underlying25 ?_ ?_ ?_); exact rfl; exact rfl; exact Try.zNr) | ((with_reducible refine st_loadG 25 _ g9 ?_ r36_m Try.underlying25 ?_ ?_ ?_ ?_); exact rfl; exact rfl; exact Try.zNr; exact rfl)))
  (with_reducible refine (theirs_c m _).mono ?_)
  rintro e w37 ⟨rfl, b37⟩
  have r38_x := SO.on r35_x b37
  have r38_y := SO.on r35_y b37
  have r39_n := le_on r36_n b37
  have r39_m := le_on r36_m b37
  have l39 := le_tr l36 b37
  clear r36_n r36_m l36
  clear r35_x r35_y
  clear b37
  go_wp2_with fail
  (with_reducible refine (C2 _).mono ?_)
  rintro e w40 ⟨rfl, b40⟩
  have r41_x := SO.on r38_x b40
  have r41_y := SO.on r38_y b40
  have r42_n := le_on r39_n b40
  have r42_m := le_on r39_m b40
  have l42 := le_tr l39 b40
  clear r39_n r39_m l39
  clear r38_x r38_y
  clear b40
  go_wp2_with fail
  go_ret
  exact ⟨rfl, l42⟩
end Go.Proofs.Ytbkfepgcnijlfaa
