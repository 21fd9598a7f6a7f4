/-
  The law NoteBack, walked. Conditions: the notes' bytes are in their types' ranges, the bytes can be read.
-/
import Derived.Test.YtbkfepgcnijlfaaNoL
set_option linter.unusedVariables false
set_option linter.unusedSimpArgs false
namespace Go.Proofs.Ytbkfepgcnijlfaa
open Go.RowKit
open Dk (Nt InN RightN BoundN MsgN NoMsg KindN EpN bound_n)


set_option maxRecDepth 100000 in
set_option maxHeartbeats 4000000 in
theorem back_walk (a b : Nt) (A : Option Addr) (c q : Nat) (bs : List UInt8) (w : World) (hia : InN a) (hib : InN b) (hb : RR w bcl 1 A c q bs) : Calls Try.prog 4 #[.agg (ntA a), .agg (ntA b), .slice A c q] w fun r w' => r = .returned (.bool true) ∧ Below w.heap.size w w' := by
  have hl := RL.start hb
  have hlen := Lib.hid hb.len
  have hmx := hl.max
  clear hb
  by_cases hs : a.cg.size ≤ 700
  rotate_left
  · skip
    have q1 : decide ((700 : Int) < (a.cg.size : Int)) = true := by simp; omega
    have q1' : decide ((a.cg.size : Int) > 700) = true := by simp; omega
    go_enter Try.func4, Try.ntmps4
    go_wp2_with (first | ((with_reducible refine st_box 25 _ (ntA a) ?_ ?_); exact rfl))
    refine ⟨fun V1 g1 n1 f1 => ?_⟩
    have up1 : w.heap.size ≤ g1 := Nat.le_of_eq f1.at_
    have bl1 := f1.bel
    clear f1
    have r3_l := (hl).on bl1
    have l3 := le_tr (Below.refl _ _) bl1
    clear hl
    clear bl1
    go_wp2_with (first | ((with_reducible refine st_box 25 _ (ntA b) ?_ ?_); exact rfl))
    refine ⟨fun V4 g4 n4 f4 => ?_⟩
    have ne4_a := f4.ne n1
    have up4 : w.heap.size ≤ g4 := f4.up l3
    have bl4 := f4.bel
    clear f4
    have r6_a := le_on n1 bl4
    have r6_l := (r3_l).on bl4
    have l6 := le_tr l3 bl4
    clear n1 r3_l l3
    clear bl4
    go_wp2_with fail
    (with_reducible refine (alive_c _).mono ?_)
    rintro e w7 ⟨rfl, b7⟩
    have r9_a := le_on r6_a b7
    have r9_b := le_on n4 b7
    have r9_l := (r6_l).on b7
    have l9 := le_tr l6 b7
    clear r6_a n4 r6_l l6
    clear b7
    have c10 : w7.cell? ⟨g1, 9, none⟩ = some (.string (a.cg)) := CB.cell r9_a 9
    have c11 : w7.cell? ⟨g4, 9, none⟩ = some (.string (b.cg)) := CB.cell r9_b 9
    go_wp2_with fail
    go_ret
    exact ⟨rfl, l9⟩
  have q1 : decide ((700 : Int) < (a.cg.size : Int)) = false := by simp; omega
  have q1' : decide ((a.cg.size : Int) > 700) = false := by simp; omega
  clear hs
  by_cases hs : b.cg.size ≤ 700
  rotate_left
  · skip
    have q2 : decide ((700 : Int) < (b.cg.size : Int)) = true := by simp; omega
    have q2' : decide ((b.cg.size : Int) > 700) = true := by simp; omega
    go_enter Try.func4, Try.ntmps4
    go_wp2_with (first | ((with_reducible refine st_box 25 _ (ntA a) ?_ ?_); exact rfl))
    refine ⟨fun V1 g1 n1 f1 => ?_⟩
    have up1 : w.heap.size ≤ g1 := Nat.le_of_eq f1.at_
    have bl1 := f1.bel
    clear f1
    have r3_l := (hl).on bl1
    have l3 := le_tr (Below.refl _ _) bl1
    clear hl
    clear bl1
    go_wp2_with (first | ((with_reducible refine st_box 25 _ (ntA b) ?_ ?_); exact rfl))
    refine ⟨fun V4 g4 n4 f4 => ?_⟩
    have ne4_a := f4.ne n1
    have up4 : w.heap.size ≤ g4 := f4.up l3
    have bl4 := f4.bel
    clear f4
    have r6_a := le_on n1 bl4
    have r6_l := (r3_l).on bl4
    have l6 := le_tr l3 bl4
    clear n1 r3_l l3
    clear bl4
    go_wp2_with fail
    (with_reducible refine (alive_c _).mono ?_)
    rintro e w7 ⟨rfl, b7⟩
    have r9_a := le_on r6_a b7
    have r9_b := le_on n4 b7
    have r9_l := (r6_l).on b7
    have l9 := le_tr l6 b7
    clear r6_a n4 r6_l l6
    clear b7
    have c10 : w7.cell? ⟨g1, 9, none⟩ = some (.string (a.cg)) := CB.cell r9_a 9
    have c11 : w7.cell? ⟨g4, 9, none⟩ = some (.string (b.cg)) := CB.cell r9_b 9
    go_wp2_with fail
    go_ret
    exact ⟨rfl, l9⟩
  have q2 : decide ((700 : Int) < (b.cg.size : Int)) = false := by simp; omega
  have q2' : decide ((b.cg.size : Int) > 700) = false := by simp; omega
  clear hs
  by_cases hs : c ≤ 700
  rotate_left
  · skip
    have q3 : decide ((700 : Int) < (c : Int)) = true := by simp; omega
    have q3' : decide ((c : Int) > 700) = true := by simp; omega
    go_enter Try.func4, Try.ntmps4
    go_wp2_with (first | ((with_reducible refine st_box 25 _ (ntA a) ?_ ?_); exact rfl))
    refine ⟨fun V1 g1 n1 f1 => ?_⟩
    have up1 : w.heap.size ≤ g1 := Nat.le_of_eq f1.at_
    have bl1 := f1.bel
    clear f1
    have r3_l := (hl).on bl1
    have l3 := le_tr (Below.refl _ _) bl1
    clear hl
    clear bl1
    go_wp2_with (first | ((with_reducible refine st_box 25 _ (ntA b) ?_ ?_); exact rfl))
    refine ⟨fun V4 g4 n4 f4 => ?_⟩
    have ne4_a := f4.ne n1
    have up4 : w.heap.size ≤ g4 := f4.up l3
    have bl4 := f4.bel
    clear f4
    have r6_a := le_on n1 bl4
    have r6_l := (r3_l).on bl4
    have l6 := le_tr l3 bl4
    clear n1 r3_l l3
    clear bl4
    go_wp2_with fail
    (with_reducible refine (alive_c _).mono ?_)
    rintro e w7 ⟨rfl, b7⟩
    have r9_a := le_on r6_a b7
    have r9_b := le_on n4 b7
    have r9_l := (r6_l).on b7
    have l9 := le_tr l6 b7
    clear r6_a n4 r6_l l6
    clear b7
    have c10 : w7.cell? ⟨g1, 9, none⟩ = some (.string (a.cg)) := CB.cell r9_a 9
    have c11 : w7.cell? ⟨g4, 9, none⟩ = some (.string (b.cg)) := CB.cell r9_b 9
    go_wp2_with fail
    go_ret
    exact ⟨rfl, l9⟩
  have q3 : decide ((700 : Int) < (c : Int)) = false := by simp; omega
  have q3' : decide ((c : Int) > 700) = false := by simp; omega
  clear hs
  by_cases hra : RightN a
  · by_cases hrb : RightN b
    · skip
      cases hd : Dk.dNt bs with
      | none =>
        obtain ⟨ka, hka⟩ : ∃ k, 25 + a.cg.size = k := ⟨_, rfl⟩
        have HKa := Lib.hid hka
        clear hka
        obtain ⟨kb, hkb⟩ : ∃ k, 25 + b.cg.size = k := ⟨_, rfl⟩
        have HKb := Lib.hid hkb
        clear hkb
        have E : ∀ V : World, (Op.equalIn 10000 25 (.agg (ntA a)) (.agg (ntA a))).run Try.prog V = .ok true V := fun V => by have := eq_nr a a V; rw [eqN_refl] at this; exact this
        obtain ⟨bq, hbq⟩ : ∃ x, eqN a b = x := ⟨_, rfl⟩
        have E2 : ∀ V : World, (Op.equalIn 10000 25 (.agg (ntA a)) (.agg (ntA b))).run Try.prog V = .ok bq V := fun V => by have := eq_nr a b V; rw [hbq] at this; exact this
        have qxy : ((Dk.mkS (Dk.byN a)).toList == (Dk.mkS (Dk.byN b)).toList) = bq := by
          rw [ts_bs, ts_bs, ← hbq, Bool.eq_iff_iff, eqN_iff, beq_iff_eq]
          exact ⟨fun e => Dk.byN_inj hia hib hra hrb e, fun e => by rw [e]⟩
        clear hbq
        have HD := Lib.hid hd
        have HIa := Lib.hid hia
        have HIb := Lib.hid hib
        have HRa := Lib.hid hra
        have HRb := Lib.hid hrb
        clear hd hia hib hra hrb
        go_enter Try.func4, Try.ntmps4
        go_wp2_with (first | ((with_reducible refine st_box 25 _ (ntA a) ?_ ?_); exact rfl))
        refine ⟨fun V1 g1 n1 f1 => ?_⟩
        have up1 : w.heap.size ≤ g1 := Nat.le_of_eq f1.at_
        have bl1 := f1.bel
        clear f1
        have r3_l := (hl).on bl1
        have l3 := le_tr (Below.refl _ _) bl1
        clear hl
        clear bl1
        go_wp2_with (first | ((with_reducible refine st_box 25 _ (ntA b) ?_ ?_); exact rfl))
        refine ⟨fun V4 g4 n4 f4 => ?_⟩
        have ne4_a := f4.ne n1
        have up4 : w.heap.size ≤ g4 := f4.up l3
        have bl4 := f4.bel
        clear f4
        have r6_a := le_on n1 bl4
        have r6_l := (r3_l).on bl4
        have l6 := le_tr l3 bl4
        clear n1 r3_l l3
        clear bl4
        go_wp2_with fail
        (with_reducible refine (alive_c _).mono ?_)
        rintro e w7 ⟨rfl, b7⟩
        have r9_a := le_on r6_a b7
        have r9_b := le_on n4 b7
        have r9_l := (r6_l).on b7
        have l9 := le_tr l6 b7
        clear r6_a n4 r6_l l6
        clear b7
        have c10 : w7.cell? ⟨g1, 9, none⟩ = some (.string (a.cg)) := CB.cell r9_a 9
        have c11 : w7.cell? ⟨g4, 9, none⟩ = some (.string (b.cg)) := CB.cell r9_b 9
        go_wp2_with (first | (first | ((with_reducible refine st_load 25 _ g1 ?_ r9_a Try.underlying25 ?_ ?_ ?_); exact rfl; exact rfl; exact Try.zNr) | ((with_reducible refine st_loadG 25 _ g1 ?_ r9_a Try.underlying25 ?_ ?_ ?_ ?_); exact rfl; exact rfl; exact Try.zNr; exact rfl)))
        (with_reducible refine (theirs_c a _).mono ?_)
        rintro e w12 ⟨rfl, b12⟩
        clear c10 c11
        have r14_a := le_on r9_a b12
        have r14_b := le_on r9_b b12
        have r14_l := (r9_l).on b12
        have l14 := le_tr l9 b12
        clear r9_a r9_b r9_l l9
        clear b12
        go_wp2_with fail
        have lt15_a := CB.lt r14_a
        have lt15_b := CB.lt r14_b
        have lb15 : w.heap.size ≤ w12.heap.size := Below.size (B := w.heap.size) l14
        (with_reducible refine (enc_yes a ka _ HIa.out HRa.out HKa.out).mono ?_)
        rintro e w15 ⟨A901, q901, G901, rfl, h901, b15⟩
        have r17_a := le_on r14_a b15
        have r17_b := le_on r14_b b15
        have r17_l := (r14_l).on b15
        have l17 := le_tr l14 b15
        clear r14_a r14_b r14_l l14
        clear b15
        have na18 := SO.above h901 lt15_a
        have na19 := SO.above h901 lt15_b
        have sm15_x := SO.mono h901 lb15
        clear h901
        clear lb15 lt15_a lt15_b
        go_wp2_with (first | (first | ((with_reducible refine st_load 25 _ g4 ?_ r17_b Try.underlying25 ?_ ?_ ?_); exact rfl; exact rfl; exact Try.zNr) | ((with_reducible refine st_loadG 25 _ g4 ?_ r17_b Try.underlying25 ?_ ?_ ?_ ?_); exact rfl; exact rfl; exact Try.zNr; exact rfl)))
        (with_reducible refine (theirs_c b _).mono ?_)
        rintro e w20 ⟨rfl, b20⟩
        have r21_x := SO.on sm15_x b20
        have r22_a := le_on r17_a b20
        have r22_b := le_on r17_b b20
        have r22_l := (r17_l).on b20
        have l22 := le_tr l17 b20
        clear r17_a r17_b r17_l l17
        clear sm15_x
        clear b20
        go_wp2_with fail
        have lt23_a := CB.lt r22_a
        have lt23_b := CB.lt r22_b
        have lb23 : w.heap.size ≤ w20.heap.size := Below.size (B := w.heap.size) l22
        (with_reducible refine (enc_yes b kb _ HIb.out HRb.out HKb.out).mono ?_)
        rintro e w23 ⟨A902, q902, G902, rfl, h902, b23⟩
        have r24_x := SO.on r21_x b23
        have r25_a := le_on r22_a b23
        have r25_b := le_on r22_b b23
        have r25_l := (r22_l).on b23
        have l25 := le_tr l22 b23
        clear r22_a r22_b r22_l l22
        clear r21_x
        clear b23
        have na26 := SO.above h902 lt23_a
        have na27 := SO.above h902 lt23_b
        have sm23_y := SO.mono h902 lb23
        clear h902
        clear lb23 lt23_a lt23_b
        go_wp2_with fail
        (with_reducible refine (dec_yes_c (back_n HIa.out HRa.out) _ _ _ _ (SO.rr r24_x)).mono ?_)
        rintro e w28 ⟨rfl, b28⟩
        have r29_x := SO.on r24_x b28
        have r29_y := SO.on sm23_y b28
        have r30_a := le_on r25_a b28
        have r30_b := le_on r25_b b28
        have r30_l := (r25_l).on b28
        have l30 := le_tr l25 b28
        clear r25_a r25_b r25_l l25
        clear r24_x sm23_y
        clear b28
        go_wp2_with (first | ((with_reducible refine st_alloc 33 (ntA zN) ?_ ?_); exact zero_nc))
        refine ⟨fun V31 g31 n31 f31 => ?_⟩
        have ne31_a := f31.ne r30_a
        have ne31_b := f31.ne r30_b
        have no31_x := SO.fresh r29_x (Nat.le_of_eq f31.at_)
        have no31_y := SO.fresh r29_y (Nat.le_of_eq f31.at_)
        have up31 : w.heap.size ≤ g31 := f31.up l30
        have bl31 := f31.bel
        clear f31
        have r32_x := SO.on r29_x bl31
        have r32_y := SO.on r29_y bl31
        have r33_a := le_on r30_a bl31
        have r33_b := le_on r30_b bl31
        have r33_l := (r30_l).on bl31
        have l33 := le_tr l30 bl31
        clear r30_a r30_b r30_l l30
        clear r29_x r29_y
        clear bl31
        go_wp2_with (first | ((with_reducible refine st_store 33 _ _ g31 (ntA a) ?_ ?_ n31 ?_ ?_ ?_ ?_); exact rfl; exact rfl; exact Try.zNc; exact rfl; exact ntA_one _))
        refine ⟨fun V34 n34 k34 => ?_⟩
        have m34_a := k34.on r33_a ne31_a
        have m34_b := k34.on r33_b ne31_b
        have m34_l := (r33_l).wr k34 up31
        have m34_x := SO.wr r32_x k34 no31_x
        have m34_y := SO.wr r32_y k34 no31_y
        have o34 := k34.bel _ _ l33 up31
        clear k34
        clear n31 r33_a r33_b r33_l r32_x r32_y l33
        go_wp2_with fail
        have y35 := Lib.hid (show (fun V : World => CB V g1 25 (ntA a) ∧ CB V g31 33 (ntA a)) V34.drew from ⟨CB.drew m34_a, CB.drew n34⟩)
        refine wp_region_held_drew (S := (fun V : World => CB V g1 25 (ntA a) ∧ CB V g31 33 (ntA a))) (by kernel_rfl) y35.out (fun hHeld => ?_)
        obtain ⟨D35, hD35⟩ : ∃ V, V34.drew = V := ⟨_, rfl⟩
        have b35 : Below V34.heap.size V34 D35 := by rw [← hD35]; exact le_dr (Below.refl _ _)
        rw [hD35] at hHeld ⊢
        clear hD35
        have r36_x := SO.on m34_x b35
        have r36_y := SO.on m34_y b35
        have r37_a := le_on m34_a b35
        have r37_b := le_on m34_b b35
        have r37_m := le_on n34 b35
        have r37_l := (m34_l).on b35
        have l37 := le_tr o34 b35
        clear m34_a m34_b n34 m34_l o34
        clear m34_x m34_y
        clear b35
        refine wpAnyH_takeL (i := 0) (d := some 55) (v := .int .i64 0) rfl rfl (by kernel_rfl) (by kernel_rfl) (by kernel_rfl) (fun _ _ _ h => h) (Or.inl ⟨by rfl, ?_⟩) hHeld ?_
        · intro w hSw; (try dsimp only at hSw); go_simp
        try simp only [Act.put, List.setIfInBounds_toArray, List.set_cons_zero, List.set_cons_succ]
        refine wpAnyH_takeL (i := 1) (d := some 56) (v := .bool false) rfl rfl (by kernel_rfl) (by kernel_rfl) (by kernel_rfl) (fun _ _ _ h => h) (Or.inl ⟨by rfl, ?_⟩) hHeld ?_
        · intro w hSw; (try dsimp only at hSw); go_simp
        try simp only [Act.put, List.setIfInBounds_toArray, List.set_cons_zero, List.set_cons_succ]
        refine wpAnyH_takeL (i := 2) (d := some 57) (v := .bool false) rfl rfl (by kernel_rfl) (by kernel_rfl) (by kernel_rfl) (fun _ _ _ h => h) (Or.inl ⟨by rfl, ?_⟩) hHeld ?_
        · intro w hSw; (try dsimp only at hSw); go_simp
        try simp only [Act.put, List.setIfInBounds_toArray, List.set_cons_zero, List.set_cons_succ]
        refine wpAnyH_takeL (i := 3) (d := some 58) (v := .agg (ntA a)) rfl rfl (by kernel_rfl) (by kernel_rfl) (by kernel_rfl) (fun _ _ _ h => h) (Or.inl ⟨by rfl, ?_⟩) hHeld ?_
        · intro w hSw; exact yl_whole 33 _ g31 rfl hSw.2 Try.underlying33 rfl Try.zNc
        try simp only [Act.put, List.setIfInBounds_toArray, List.set_cons_zero, List.set_cons_succ]
        refine wpAnyH_takeL (i := 5) (d := some 60) (v := .agg (ntA a)) rfl rfl (by kernel_rfl) (by kernel_rfl) (by kernel_rfl) (fun _ _ _ h => h) (Or.inl ⟨by rfl, ?_⟩) hHeld ?_
        · intro w hSw; exact yl_whole 25 _ g1 rfl hSw.1 Try.underlying25 rfl Try.zNr
        try simp only [Act.put, List.setIfInBounds_toArray, List.set_cons_zero, List.set_cons_succ]
        refine wpAnyH_ready (rs := [4]) (by kernel_rfl) (by simp) ?_
        refine AllReadyH.cons rfl (fun K hK => ?_) AllReadyH.nil
        go_simp
        (with_reducible refine (ours_c a _).mono ?_)
        rintro e u38 ⟨rfl, b38⟩
        have r39_x := SO.on r36_x b38
        have r39_y := SO.on r36_y b38
        have r40_a := le_on r37_a b38
        have r40_b := le_on r37_b b38
        have r40_m := le_on r37_m b38
        have r40_l := (r37_l).on b38
        have l40 := le_tr l37 b38
        clear r37_a r37_b r37_m r37_l l37
        clear r36_x r36_y
        clear b38
        go_wp2_with fail
        have y41 := Lib.hid (show (fun V : World => CB V g1 25 (ntA a) ∧ CB V g31 33 (ntA a)) u38 from ⟨r40_a, r40_m⟩)
        refine hK.out _ _ y41.out (fun hHeld => ?_)
        clear hK K y41
        try simp only [Act.put, List.setIfInBounds_toArray, List.set_cons_zero, List.set_cons_succ]
        refine wpAnyH_takeL (i := 6) (d := some 61) (v := .bool false) rfl rfl (by kernel_rfl) (by kernel_rfl) (by kernel_rfl) (fun _ _ _ h => h) (Or.inl ⟨by rfl, ?_⟩) hHeld ?_
        · intro w hSw; have hE := E w; go_simp
        try simp only [Act.put, List.setIfInBounds_toArray, List.set_cons_zero, List.set_cons_succ]
        refine wpAnyH_takeL (i := 7) (d := some 62) (v := .bool false) rfl rfl (by kernel_rfl) (by kernel_rfl) (by kernel_rfl) (fun _ _ _ h => h) (Or.inl ⟨by rfl, ?_⟩) hHeld ?_
        · intro w hSw; (try dsimp only at hSw); go_simp
        try simp only [Act.put, List.setIfInBounds_toArray, List.set_cons_zero, List.set_cons_succ]
        refine wpAnyH_done (by kernel_rfl) ?_ _
        go_wp2_with fail
        (with_reducible refine (dec_no_c HD.out _ _ _ _ r40_l.rr).mono ?_)
        rintro e w42 ⟨rfl, b42⟩
        have r43_x := SO.on r39_x b42
        have r43_y := SO.on r39_y b42
        have r44_a := le_on r40_a b42
        have r44_b := le_on r40_b b42
        have r44_m := le_on r40_m b42
        have r44_l := (r40_l).on b42
        have l44 := le_tr l40 b42
        clear r40_a r40_b r40_m r40_l l40
        clear r39_x r39_y
        clear b42
        go_wp2_with (first | ((with_reducible refine st_alloc 33 (ntA zN) ?_ ?_); exact zero_nc))
        refine ⟨fun V45 g45 n45 f45 => ?_⟩
        have ne45_a := f45.ne r44_a
        have ne45_b := f45.ne r44_b
        have ne45_m := f45.ne r44_m
        have no45_x := SO.fresh r43_x (Nat.le_of_eq f45.at_)
        have no45_y := SO.fresh r43_y (Nat.le_of_eq f45.at_)
        have up45 : w.heap.size ≤ g45 := f45.up l44
        have bl45 := f45.bel
        clear f45
        have r46_x := SO.on r43_x bl45
        have r46_y := SO.on r43_y bl45
        have r47_a := le_on r44_a bl45
        have r47_b := le_on r44_b bl45
        have r47_m := le_on r44_m bl45
        have r47_l := (r44_l).on bl45
        have l47 := le_tr l44 bl45
        clear r44_a r44_b r44_m r44_l l44
        clear r43_x r43_y
        clear bl45
        go_wp2_with (first | ((with_reducible refine st_store 33 _ _ g45 (ntA zN) ?_ ?_ n45 ?_ ?_ ?_ ?_); exact rfl; exact rfl; exact Try.zNc; exact rfl; exact ntA_one _))
        refine ⟨fun V48 n48 k48 => ?_⟩
        have m48_a := k48.on r47_a ne45_a
        have m48_b := k48.on r47_b ne45_b
        have m48_m := k48.on r47_m ne45_m
        have m48_l := (r47_l).wr k48 up45
        have m48_x := SO.wr r46_x k48 no45_x
        have m48_y := SO.wr r46_y k48 no45_y
        have o48 := k48.bel _ _ l47 up45
        clear k48
        clear n45 r47_a r47_b r47_m r47_l r46_x r46_y l47
        go_wp2_with fail
        clear m48_l
        have hr1_x := SO.rr m48_x
        clear m48_x
        have hr2_y := SO.rr m48_y
        clear m48_y
        have y49 := Lib.hid (show (fun V : World => CB V g1 25 (ntA a) ∧ CB V g4 25 (ntA b) ∧ RR V bcl 1 A901 ka q901 (Dk.byN a) ∧ RR V bcl 1 A902 kb q902 (Dk.byN b)) V48.drew from ⟨CB.drew m48_a, CB.drew m48_b, (hr1_x).drew, (hr2_y).drew⟩)
        refine wp_region_held_drew (S := (fun V : World => CB V g1 25 (ntA a) ∧ CB V g4 25 (ntA b) ∧ RR V bcl 1 A901 ka q901 (Dk.byN a) ∧ RR V bcl 1 A902 kb q902 (Dk.byN b))) (by kernel_rfl) y49.out (fun hHeld => ?_)
        obtain ⟨D49, hD49⟩ : ∃ V, V48.drew = V := ⟨_, rfl⟩
        have b49 : Below V48.heap.size V48 D49 := by rw [← hD49]; exact le_dr (Below.refl _ _)
        rw [hD49] at hHeld ⊢
        clear hD49
        have r51_a := le_on m48_a b49
        have r51_b := le_on m48_b b49
        have r51_m := le_on m48_m b49
        have r51_u := le_on n48 b49
        have r51_x := (hr1_x).on b49
        have r51_y := (hr2_y).on b49
        have l51 := le_tr o48 b49
        clear m48_a m48_b m48_m n48 hr1_x hr2_y o48
        clear b49
        refine wpAnyH_takeL (i := 0) (d := some 84) (v := .int .i64 0) rfl rfl (by kernel_rfl) (by kernel_rfl) (by kernel_rfl) (fun _ _ _ h => h) (Or.inl ⟨by rfl, ?_⟩) hHeld ?_
        · intro w hSw; (try dsimp only at hSw); go_simp
        try simp only [Act.put, List.setIfInBounds_toArray, List.set_cons_zero, List.set_cons_succ]
        refine wpAnyH_takeL (i := 1) (d := some 85) (v := .bool false) rfl rfl (by kernel_rfl) (by kernel_rfl) (by kernel_rfl) (fun _ _ _ h => h) (Or.inl ⟨by rfl, ?_⟩) hHeld ?_
        · intro w hSw; (try dsimp only at hSw); go_simp
        try simp only [Act.put, List.setIfInBounds_toArray, List.set_cons_zero, List.set_cons_succ]
        refine wpAnyH_takeL (i := 2) (d := some 86) (v := .bool false) rfl rfl (by kernel_rfl) (by kernel_rfl) (by kernel_rfl) (fun _ _ _ h => h) (Or.inl ⟨by rfl, ?_⟩) hHeld ?_
        · intro w hSw; (try dsimp only at hSw); go_simp
        try simp only [Act.put, List.setIfInBounds_toArray, List.set_cons_zero, List.set_cons_succ]
        refine wpAnyH_takeL (i := 3) (d := some 87) (v := .int .i64 0) rfl rfl (by kernel_rfl) (by kernel_rfl) (by kernel_rfl) (fun _ _ _ h => h) (Or.inl ⟨by rfl, ?_⟩) hHeld ?_
        · intro w hSw; (try dsimp only at hSw); go_simp
        try simp only [Act.put, List.setIfInBounds_toArray, List.set_cons_zero, List.set_cons_succ]
        refine wpAnyH_takeL (i := 4) (d := some 88) (v := .bool false) rfl rfl (by kernel_rfl) (by kernel_rfl) (by kernel_rfl) (fun _ _ _ h => h) (Or.inl ⟨by rfl, ?_⟩) hHeld ?_
        · intro w hSw; (try dsimp only at hSw); go_simp
        try simp only [Act.put, List.setIfInBounds_toArray, List.set_cons_zero, List.set_cons_succ]
        refine wpAnyH_takeL (i := 5) (d := some 89) (v := .bool false) rfl rfl (by kernel_rfl) (by kernel_rfl) (by kernel_rfl) (fun _ _ _ h => h) (Or.inl ⟨by rfl, ?_⟩) hHeld ?_
        · intro w hSw; (try dsimp only at hSw); go_simp
        try simp only [Act.put, List.setIfInBounds_toArray, List.set_cons_zero, List.set_cons_succ]
        refine wpAnyH_takeL (i := 6) (d := some 90) (v := .bool false) rfl rfl (by kernel_rfl) (by kernel_rfl) (by kernel_rfl) (fun _ _ _ h => h) (Or.inl ⟨by rfl, ?_⟩) hHeld ?_
        · intro w hSw; (try dsimp only at hSw); go_simp
        try simp only [Act.put, List.setIfInBounds_toArray, List.set_cons_zero, List.set_cons_succ]
        refine wpAnyH_takeL (i := 7) (d := some 91) (v := .slice A901 ka q901) rfl rfl (by kernel_rfl) (by kernel_rfl) (by kernel_rfl) (fun _ _ _ h => h) (Or.inl ⟨by rfl, ?_⟩) hHeld ?_
        · intro w hSw; (try dsimp only at hSw); go_simp
        try simp only [Act.put, List.setIfInBounds_toArray, List.set_cons_zero, List.set_cons_succ]
        refine wpAnyH_takeL (i := 8) (d := some 92) (v := .string (Dk.mkS (Dk.byN a))) rfl rfl (by kernel_rfl) (by kernel_rfl) (by kernel_rfl) (fun _ _ _ h => h) (Or.inl ⟨by rfl, ?_⟩) hHeld ?_
        · intro w hSw; have hcc := conv_C _ _ _ _ _ (hSw.2.2.1); go_simp
        try simp only [Act.put, List.setIfInBounds_toArray, List.set_cons_zero, List.set_cons_succ]
        refine wpAnyH_takeL (i := 9) (d := some 93) (v := .slice A902 kb q902) rfl rfl (by kernel_rfl) (by kernel_rfl) (by kernel_rfl) (fun _ _ _ h => h) (Or.inl ⟨by rfl, ?_⟩) hHeld ?_
        · intro w hSw; (try dsimp only at hSw); go_simp
        try simp only [Act.put, List.setIfInBounds_toArray, List.set_cons_zero, List.set_cons_succ]
        refine wpAnyH_takeL (i := 10) (d := some 94) (v := .string (Dk.mkS (Dk.byN b))) rfl rfl (by kernel_rfl) (by kernel_rfl) (by kernel_rfl) (fun _ _ _ h => h) (Or.inl ⟨by rfl, ?_⟩) hHeld ?_
        · intro w hSw; have hcc := conv_C _ _ _ _ _ (hSw.2.2.2); go_simp
        try simp only [Act.put, List.setIfInBounds_toArray, List.set_cons_zero, List.set_cons_succ]
        refine wpAnyH_takeL (i := 11) (d := some 95) (v := .bool bq) rfl rfl (by kernel_rfl) (by kernel_rfl) (by kernel_rfl) (fun _ _ _ h => h) (Or.inl ⟨by rfl, ?_⟩) hHeld ?_
        · intro w hSw; (try dsimp only at hSw); go_simp
        try simp only [Act.put, List.setIfInBounds_toArray, List.set_cons_zero, List.set_cons_succ]
        refine wpAnyH_takeL (i := 12) (d := some 96) (v := .agg (ntA a)) rfl rfl (by kernel_rfl) (by kernel_rfl) (by kernel_rfl) (fun _ _ _ h => h) (Or.inl ⟨by rfl, ?_⟩) hHeld ?_
        · intro w hSw; exact yl_whole 25 _ g1 rfl hSw.1 Try.underlying25 rfl Try.zNr
        try simp only [Act.put, List.setIfInBounds_toArray, List.set_cons_zero, List.set_cons_succ]
        refine wpAnyH_takeL (i := 13) (d := some 97) (v := .agg (ntA b)) rfl rfl (by kernel_rfl) (by kernel_rfl) (by kernel_rfl) (fun _ _ _ h => h) (Or.inl ⟨by rfl, ?_⟩) hHeld ?_
        · intro w hSw; exact yl_whole 25 _ g4 rfl hSw.2.1 Try.underlying25 rfl Try.zNr
        try simp only [Act.put, List.setIfInBounds_toArray, List.set_cons_zero, List.set_cons_succ]
        refine wpAnyH_takeL (i := 14) (d := some 98) (v := .bool bq) rfl rfl (by kernel_rfl) (by kernel_rfl) (by kernel_rfl) (fun _ _ _ h => h) (Or.inl ⟨by rfl, ?_⟩) hHeld ?_
        · intro w hSw; have hE := E2 w; go_simp
        try simp only [Act.put, List.setIfInBounds_toArray, List.set_cons_zero, List.set_cons_succ]
        refine wpAnyH_takeL (i := 15) (d := some 99) (v := .bool true) rfl rfl (by kernel_rfl) (by kernel_rfl) (by kernel_rfl) (fun _ _ _ h => h) (Or.inl ⟨by rfl, ?_⟩) hHeld ?_
        · intro w hSw; (try dsimp only at hSw); go_simp
        try simp only [Act.put, List.setIfInBounds_toArray, List.set_cons_zero, List.set_cons_succ]
        refine wpAnyH_takeL (i := 16) (d := some 100) (v := .bool true) rfl rfl (by kernel_rfl) (by kernel_rfl) (by kernel_rfl) (fun _ _ _ h => h) (Or.inl ⟨by rfl, ?_⟩) hHeld ?_
        · intro w hSw; (try dsimp only at hSw); go_simp
        try simp only [Act.put, List.setIfInBounds_toArray, List.set_cons_zero, List.set_cons_succ]
        refine wpAnyH_takeL (i := 17) (d := some 6) (v := .bool true) rfl rfl (by kernel_rfl) (by kernel_rfl) (by kernel_rfl) (fun _ _ _ h => h) (Or.inl ⟨by rfl, ?_⟩) hHeld ?_
        · intro w hSw; (try dsimp only at hSw); go_simp
        try simp only [Act.put, List.setIfInBounds_toArray, List.set_cons_zero, List.set_cons_succ]
        refine wpAnyH_done (by kernel_rfl) ?_ _
        go_wp2_with fail
        go_ret
        exact ⟨rfl, l51⟩
      | some d =>
        obtain ⟨ka, hka⟩ : ∃ k, 25 + a.cg.size = k := ⟨_, rfl⟩
        have HKa := Lib.hid hka
        clear hka
        obtain ⟨kb, hkb⟩ : ∃ k, 25 + b.cg.size = k := ⟨_, rfl⟩
        have HKb := Lib.hid hkb
        clear hkb
        have E : ∀ V : World, (Op.equalIn 10000 25 (.agg (ntA a)) (.agg (ntA a))).run Try.prog V = .ok true V := fun V => by have := eq_nr a a V; rw [eqN_refl] at this; exact this
        obtain ⟨bq, hbq⟩ : ∃ x, eqN a b = x := ⟨_, rfl⟩
        have E2 : ∀ V : World, (Op.equalIn 10000 25 (.agg (ntA a)) (.agg (ntA b))).run Try.prog V = .ok bq V := fun V => by have := eq_nr a b V; rw [hbq] at this; exact this
        have qxy : ((Dk.mkS (Dk.byN a)).toList == (Dk.mkS (Dk.byN b)).toList) = bq := by
          rw [ts_bs, ts_bs, ← hbq, Bool.eq_iff_iff, eqN_iff, beq_iff_eq]
          exact ⟨fun e => Dk.byN_inj hia hib hra hrb e, fun e => by rw [e]⟩
        clear hbq
        obtain ⟨hid_, hrd, hed⟩ := Dk.dNt_some.1 hd
        obtain ⟨kd, hkd⟩ : ∃ k, 25 + d.cg.size = k := ⟨_, rfl⟩
        have HKd := Lib.hid hkd
        have HId := Lib.hid hid_
        have HRd := Lib.hid hrd
        have HEd := Lib.hid hed
        clear hkd hid_ hrd hed
        have qd : ((Dk.mkS (Dk.byN d)).toList == (Dk.mkS bs).toList) = true := by rw [← HEd.out]; exact beq_self_eq_true _
        have HD := Lib.hid hd
        have HIa := Lib.hid hia
        have HIb := Lib.hid hib
        have HRa := Lib.hid hra
        have HRb := Lib.hid hrb
        clear hd hia hib hra hrb
        go_enter Try.func4, Try.ntmps4
        go_wp2_with (first | ((with_reducible refine st_box 25 _ (ntA a) ?_ ?_); exact rfl))
        refine ⟨fun V1 g1 n1 f1 => ?_⟩
        have up1 : w.heap.size ≤ g1 := Nat.le_of_eq f1.at_
        have bl1 := f1.bel
        clear f1
        have r3_l := (hl).on bl1
        have l3 := le_tr (Below.refl _ _) bl1
        clear hl
        clear bl1
        go_wp2_with (first | ((with_reducible refine st_box 25 _ (ntA b) ?_ ?_); exact rfl))
        refine ⟨fun V4 g4 n4 f4 => ?_⟩
        have ne4_a := f4.ne n1
        have up4 : w.heap.size ≤ g4 := f4.up l3
        have bl4 := f4.bel
        clear f4
        have r6_a := le_on n1 bl4
        have r6_l := (r3_l).on bl4
        have l6 := le_tr l3 bl4
        clear n1 r3_l l3
        clear bl4
        go_wp2_with fail
        (with_reducible refine (alive_c _).mono ?_)
        rintro e w7 ⟨rfl, b7⟩
        have r9_a := le_on r6_a b7
        have r9_b := le_on n4 b7
        have r9_l := (r6_l).on b7
        have l9 := le_tr l6 b7
        clear r6_a n4 r6_l l6
        clear b7
        have c10 : w7.cell? ⟨g1, 9, none⟩ = some (.string (a.cg)) := CB.cell r9_a 9
        have c11 : w7.cell? ⟨g4, 9, none⟩ = some (.string (b.cg)) := CB.cell r9_b 9
        go_wp2_with (first | (first | ((with_reducible refine st_load 25 _ g1 ?_ r9_a Try.underlying25 ?_ ?_ ?_); exact rfl; exact rfl; exact Try.zNr) | ((with_reducible refine st_loadG 25 _ g1 ?_ r9_a Try.underlying25 ?_ ?_ ?_ ?_); exact rfl; exact rfl; exact Try.zNr; exact rfl)))
        (with_reducible refine (theirs_c a _).mono ?_)
        rintro e w12 ⟨rfl, b12⟩
        clear c10 c11
        have r14_a := le_on r9_a b12
        have r14_b := le_on r9_b b12
        have r14_l := (r9_l).on b12
        have l14 := le_tr l9 b12
        clear r9_a r9_b r9_l l9
        clear b12
        go_wp2_with fail
        have lt15_a := CB.lt r14_a
        have lt15_b := CB.lt r14_b
        have lb15 : w.heap.size ≤ w12.heap.size := Below.size (B := w.heap.size) l14
        (with_reducible refine (enc_yes a ka _ HIa.out HRa.out HKa.out).mono ?_)
        rintro e w15 ⟨A901, q901, G901, rfl, h901, b15⟩
        have r17_a := le_on r14_a b15
        have r17_b := le_on r14_b b15
        have r17_l := (r14_l).on b15
        have l17 := le_tr l14 b15
        clear r14_a r14_b r14_l l14
        clear b15
        have na18 := SO.above h901 lt15_a
        have na19 := SO.above h901 lt15_b
        have sm15_x := SO.mono h901 lb15
        clear h901
        clear lb15 lt15_a lt15_b
        go_wp2_with (first | (first | ((with_reducible refine st_load 25 _ g4 ?_ r17_b Try.underlying25 ?_ ?_ ?_); exact rfl; exact rfl; exact Try.zNr) | ((with_reducible refine st_loadG 25 _ g4 ?_ r17_b Try.underlying25 ?_ ?_ ?_ ?_); exact rfl; exact rfl; exact Try.zNr; exact rfl)))
        (with_reducible refine (theirs_c b _).mono ?_)
        rintro e w20 ⟨rfl, b20⟩
        have r21_x := SO.on sm15_x b20
        have r22_a := le_on r17_a b20
        have r22_b := le_on r17_b b20
        have r22_l := (r17_l).on b20
        have l22 := le_tr l17 b20
        clear r17_a r17_b r17_l l17
        clear sm15_x
        clear b20
        go_wp2_with fail
        have lt23_a := CB.lt r22_a
        have lt23_b := CB.lt r22_b
        have lb23 : w.heap.size ≤ w20.heap.size := Below.size (B := w.heap.size) l22
        (with_reducible refine (enc_yes b kb _ HIb.out HRb.out HKb.out).mono ?_)
        rintro e w23 ⟨A902, q902, G902, rfl, h902, b23⟩
        have r24_x := SO.on r21_x b23
        have r25_a := le_on r22_a b23
        have r25_b := le_on r22_b b23
        have r25_l := (r22_l).on b23
        have l25 := le_tr l22 b23
        clear r22_a r22_b r22_l l22
        clear r21_x
        clear b23
        have na26 := SO.above h902 lt23_a
        have na27 := SO.above h902 lt23_b
        have sm23_y := SO.mono h902 lb23
        clear h902
        clear lb23 lt23_a lt23_b
        go_wp2_with fail
        (with_reducible refine (dec_yes_c (back_n HIa.out HRa.out) _ _ _ _ (SO.rr r24_x)).mono ?_)
        rintro e w28 ⟨rfl, b28⟩
        have r29_x := SO.on r24_x b28
        have r29_y := SO.on sm23_y b28
        have r30_a := le_on r25_a b28
        have r30_b := le_on r25_b b28
        have r30_l := (r25_l).on b28
        have l30 := le_tr l25 b28
        clear r25_a r25_b r25_l l25
        clear r24_x sm23_y
        clear b28
        go_wp2_with (first | ((with_reducible refine st_alloc 33 (ntA zN) ?_ ?_); exact zero_nc))
        refine ⟨fun V31 g31 n31 f31 => ?_⟩
        have ne31_a := f31.ne r30_a
        have ne31_b := f31.ne r30_b
        have no31_x := SO.fresh r29_x (Nat.le_of_eq f31.at_)
        have no31_y := SO.fresh r29_y (Nat.le_of_eq f31.at_)
        have up31 : w.heap.size ≤ g31 := f31.up l30
        have bl31 := f31.bel
        clear f31
        have r32_x := SO.on r29_x bl31
        have r32_y := SO.on r29_y bl31
        have r33_a := le_on r30_a bl31
        have r33_b := le_on r30_b bl31
        have r33_l := (r30_l).on bl31
        have l33 := le_tr l30 bl31
        clear r30_a r30_b r30_l l30
        clear r29_x r29_y
        clear bl31
        go_wp2_with (first | ((with_reducible refine st_store 33 _ _ g31 (ntA a) ?_ ?_ n31 ?_ ?_ ?_ ?_); exact rfl; exact rfl; exact Try.zNc; exact rfl; exact ntA_one _))
        refine ⟨fun V34 n34 k34 => ?_⟩
        have m34_a := k34.on r33_a ne31_a
        have m34_b := k34.on r33_b ne31_b
        have m34_l := (r33_l).wr k34 up31
        have m34_x := SO.wr r32_x k34 no31_x
        have m34_y := SO.wr r32_y k34 no31_y
        have o34 := k34.bel _ _ l33 up31
        clear k34
        clear n31 r33_a r33_b r33_l r32_x r32_y l33
        go_wp2_with fail
        have y35 := Lib.hid (show (fun V : World => CB V g1 25 (ntA a) ∧ CB V g31 33 (ntA a)) V34.drew from ⟨CB.drew m34_a, CB.drew n34⟩)
        refine wp_region_held_drew (S := (fun V : World => CB V g1 25 (ntA a) ∧ CB V g31 33 (ntA a))) (by kernel_rfl) y35.out (fun hHeld => ?_)
        obtain ⟨D35, hD35⟩ : ∃ V, V34.drew = V := ⟨_, rfl⟩
        have b35 : Below V34.heap.size V34 D35 := by rw [← hD35]; exact le_dr (Below.refl _ _)
        rw [hD35] at hHeld ⊢
        clear hD35
        have r36_x := SO.on m34_x b35
        have r36_y := SO.on m34_y b35
        have r37_a := le_on m34_a b35
        have r37_b := le_on m34_b b35
        have r37_m := le_on n34 b35
        have r37_l := (m34_l).on b35
        have l37 := le_tr o34 b35
        clear m34_a m34_b n34 m34_l o34
        clear m34_x m34_y
        clear b35
        refine wpAnyH_takeL (i := 0) (d := some 55) (v := .int .i64 0) rfl rfl (by kernel_rfl) (by kernel_rfl) (by kernel_rfl) (fun _ _ _ h => h) (Or.inl ⟨by rfl, ?_⟩) hHeld ?_
        · intro w hSw; (try dsimp only at hSw); go_simp
        try simp only [Act.put, List.setIfInBounds_toArray, List.set_cons_zero, List.set_cons_succ]
        refine wpAnyH_takeL (i := 1) (d := some 56) (v := .bool false) rfl rfl (by kernel_rfl) (by kernel_rfl) (by kernel_rfl) (fun _ _ _ h => h) (Or.inl ⟨by rfl, ?_⟩) hHeld ?_
        · intro w hSw; (try dsimp only at hSw); go_simp
        try simp only [Act.put, List.setIfInBounds_toArray, List.set_cons_zero, List.set_cons_succ]
        refine wpAnyH_takeL (i := 2) (d := some 57) (v := .bool false) rfl rfl (by kernel_rfl) (by kernel_rfl) (by kernel_rfl) (fun _ _ _ h => h) (Or.inl ⟨by rfl, ?_⟩) hHeld ?_
        · intro w hSw; (try dsimp only at hSw); go_simp
        try simp only [Act.put, List.setIfInBounds_toArray, List.set_cons_zero, List.set_cons_succ]
        refine wpAnyH_takeL (i := 3) (d := some 58) (v := .agg (ntA a)) rfl rfl (by kernel_rfl) (by kernel_rfl) (by kernel_rfl) (fun _ _ _ h => h) (Or.inl ⟨by rfl, ?_⟩) hHeld ?_
        · intro w hSw; exact yl_whole 33 _ g31 rfl hSw.2 Try.underlying33 rfl Try.zNc
        try simp only [Act.put, List.setIfInBounds_toArray, List.set_cons_zero, List.set_cons_succ]
        refine wpAnyH_takeL (i := 5) (d := some 60) (v := .agg (ntA a)) rfl rfl (by kernel_rfl) (by kernel_rfl) (by kernel_rfl) (fun _ _ _ h => h) (Or.inl ⟨by rfl, ?_⟩) hHeld ?_
        · intro w hSw; exact yl_whole 25 _ g1 rfl hSw.1 Try.underlying25 rfl Try.zNr
        try simp only [Act.put, List.setIfInBounds_toArray, List.set_cons_zero, List.set_cons_succ]
        refine wpAnyH_ready (rs := [4]) (by kernel_rfl) (by simp) ?_
        refine AllReadyH.cons rfl (fun K hK => ?_) AllReadyH.nil
        go_simp
        (with_reducible refine (ours_c a _).mono ?_)
        rintro e u38 ⟨rfl, b38⟩
        have r39_x := SO.on r36_x b38
        have r39_y := SO.on r36_y b38
        have r40_a := le_on r37_a b38
        have r40_b := le_on r37_b b38
        have r40_m := le_on r37_m b38
        have r40_l := (r37_l).on b38
        have l40 := le_tr l37 b38
        clear r37_a r37_b r37_m r37_l l37
        clear r36_x r36_y
        clear b38
        go_wp2_with fail
        have y41 := Lib.hid (show (fun V : World => CB V g1 25 (ntA a) ∧ CB V g31 33 (ntA a)) u38 from ⟨r40_a, r40_m⟩)
        refine hK.out _ _ y41.out (fun hHeld => ?_)
        clear hK K y41
        try simp only [Act.put, List.setIfInBounds_toArray, List.set_cons_zero, List.set_cons_succ]
        refine wpAnyH_takeL (i := 6) (d := some 61) (v := .bool false) rfl rfl (by kernel_rfl) (by kernel_rfl) (by kernel_rfl) (fun _ _ _ h => h) (Or.inl ⟨by rfl, ?_⟩) hHeld ?_
        · intro w hSw; have hE := E w; go_simp
        try simp only [Act.put, List.setIfInBounds_toArray, List.set_cons_zero, List.set_cons_succ]
        refine wpAnyH_takeL (i := 7) (d := some 62) (v := .bool false) rfl rfl (by kernel_rfl) (by kernel_rfl) (by kernel_rfl) (fun _ _ _ h => h) (Or.inl ⟨by rfl, ?_⟩) hHeld ?_
        · intro w hSw; (try dsimp only at hSw); go_simp
        try simp only [Act.put, List.setIfInBounds_toArray, List.set_cons_zero, List.set_cons_succ]
        refine wpAnyH_done (by kernel_rfl) ?_ _
        go_wp2_with fail
        (with_reducible refine (dec_yes_c HD.out _ _ _ _ r40_l.rr).mono ?_)
        rintro e w42 ⟨rfl, b42⟩
        have r43_x := SO.on r39_x b42
        have r43_y := SO.on r39_y b42
        have r44_a := le_on r40_a b42
        have r44_b := le_on r40_b b42
        have r44_m := le_on r40_m b42
        have r44_l := (r40_l).on b42
        have l44 := le_tr l40 b42
        clear r40_a r40_b r40_m r40_l l40
        clear r39_x r39_y
        clear b42
        go_wp2_with (first | ((with_reducible refine st_alloc 33 (ntA zN) ?_ ?_); exact zero_nc))
        refine ⟨fun V45 g45 n45 f45 => ?_⟩
        have ne45_a := f45.ne r44_a
        have ne45_b := f45.ne r44_b
        have ne45_m := f45.ne r44_m
        have no45_x := SO.fresh r43_x (Nat.le_of_eq f45.at_)
        have no45_y := SO.fresh r43_y (Nat.le_of_eq f45.at_)
        have up45 : w.heap.size ≤ g45 := f45.up l44
        have bl45 := f45.bel
        clear f45
        have r46_x := SO.on r43_x bl45
        have r46_y := SO.on r43_y bl45
        have r47_a := le_on r44_a bl45
        have r47_b := le_on r44_b bl45
        have r47_m := le_on r44_m bl45
        have r47_l := (r44_l).on bl45
        have l47 := le_tr l44 bl45
        clear r44_a r44_b r44_m r44_l l44
        clear r43_x r43_y
        clear bl45
        go_wp2_with (first | ((with_reducible refine st_store 33 _ _ g45 (ntA d) ?_ ?_ n45 ?_ ?_ ?_ ?_); exact rfl; exact rfl; exact Try.zNc; exact rfl; exact ntA_one _))
        refine ⟨fun V48 n48 k48 => ?_⟩
        have m48_a := k48.on r47_a ne45_a
        have m48_b := k48.on r47_b ne45_b
        have m48_m := k48.on r47_m ne45_m
        have m48_l := (r47_l).wr k48 up45
        have m48_x := SO.wr r46_x k48 no45_x
        have m48_y := SO.wr r46_y k48 no45_y
        have o48 := k48.bel _ _ l47 up45
        clear k48
        clear n45 r47_a r47_b r47_m r47_l r46_x r46_y l47
        go_wp2_with (first | (first | ((with_reducible refine st_load 33 _ g45 ?_ n48 Try.underlying33 ?_ ?_ ?_); exact rfl; exact rfl; exact Try.zNc) | ((with_reducible refine st_loadG 33 _ g45 ?_ n48 Try.underlying33 ?_ ?_ ?_ ?_); exact rfl; exact rfl; exact Try.zNc; exact rfl)))
        have lt49_a := CB.lt m48_a
        have lt49_b := CB.lt m48_b
        have lt49_m := CB.lt m48_m
        have lt49_u := CB.lt n48
        have lb49 : w.heap.size ≤ V48.heap.size := Below.size (B := w.heap.size) o48
        (with_reducible refine (enc_yes d kd _ HId.out HRd.out HKd.out).mono ?_)
        rintro e w49 ⟨A903, q903, G903, rfl, h903, b49⟩
        have r50_x := SO.on m48_x b49
        have r50_y := SO.on m48_y b49
        have r51_a := le_on m48_a b49
        have r51_b := le_on m48_b b49
        have r51_m := le_on m48_m b49
        have r51_u := le_on n48 b49
        have r51_l := (m48_l).on b49
        have l51 := le_tr o48 b49
        clear m48_a m48_b m48_m n48 m48_l o48
        clear m48_x m48_y
        clear b49
        have na52 := SO.above h903 lt49_a
        have na53 := SO.above h903 lt49_b
        have na54 := SO.above h903 lt49_m
        have na55 := SO.above h903 lt49_u
        have sm49_z := SO.mono h903 lb49
        clear h903
        clear lb49 lt49_a lt49_b lt49_m lt49_u
        have v1 := conv_C _ _ _ _ _ (SO.rr sm49_z)
        have v2 := conv_C _ _ _ _ _ (RL.rr r51_l)
        go_wp2_with fail
        clear r51_l
        clear sm49_z
        clear v1 v2
        have hr1_x := SO.rr r50_x
        clear r50_x
        have hr2_y := SO.rr r50_y
        clear r50_y
        have y56 := Lib.hid (show (fun V : World => CB V g1 25 (ntA a) ∧ CB V g4 25 (ntA b) ∧ RR V bcl 1 A901 ka q901 (Dk.byN a) ∧ RR V bcl 1 A902 kb q902 (Dk.byN b)) w49.drew from ⟨CB.drew r51_a, CB.drew r51_b, (hr1_x).drew, (hr2_y).drew⟩)
        refine wp_region_held_drew (S := (fun V : World => CB V g1 25 (ntA a) ∧ CB V g4 25 (ntA b) ∧ RR V bcl 1 A901 ka q901 (Dk.byN a) ∧ RR V bcl 1 A902 kb q902 (Dk.byN b))) (by kernel_rfl) y56.out (fun hHeld => ?_)
        obtain ⟨D56, hD56⟩ : ∃ V, w49.drew = V := ⟨_, rfl⟩
        have b56 : Below w49.heap.size w49 D56 := by rw [← hD56]; exact le_dr (Below.refl _ _)
        rw [hD56] at hHeld ⊢
        clear hD56
        have r58_a := le_on r51_a b56
        have r58_b := le_on r51_b b56
        have r58_m := le_on r51_m b56
        have r58_u := le_on r51_u b56
        have r58_x := (hr1_x).on b56
        have r58_y := (hr2_y).on b56
        have l58 := le_tr l51 b56
        clear r51_a r51_b r51_m r51_u hr1_x hr2_y l51
        clear b56
        refine wpAnyH_takeL (i := 0) (d := some 84) (v := .int .i64 0) rfl rfl (by kernel_rfl) (by kernel_rfl) (by kernel_rfl) (fun _ _ _ h => h) (Or.inl ⟨by rfl, ?_⟩) hHeld ?_
        · intro w hSw; (try dsimp only at hSw); go_simp
        try simp only [Act.put, List.setIfInBounds_toArray, List.set_cons_zero, List.set_cons_succ]
        refine wpAnyH_takeL (i := 1) (d := some 85) (v := .bool false) rfl rfl (by kernel_rfl) (by kernel_rfl) (by kernel_rfl) (fun _ _ _ h => h) (Or.inl ⟨by rfl, ?_⟩) hHeld ?_
        · intro w hSw; (try dsimp only at hSw); go_simp
        try simp only [Act.put, List.setIfInBounds_toArray, List.set_cons_zero, List.set_cons_succ]
        refine wpAnyH_takeL (i := 2) (d := some 86) (v := .bool false) rfl rfl (by kernel_rfl) (by kernel_rfl) (by kernel_rfl) (fun _ _ _ h => h) (Or.inl ⟨by rfl, ?_⟩) hHeld ?_
        · intro w hSw; (try dsimp only at hSw); go_simp
        try simp only [Act.put, List.setIfInBounds_toArray, List.set_cons_zero, List.set_cons_succ]
        refine wpAnyH_takeL (i := 3) (d := some 87) (v := .int .i64 0) rfl rfl (by kernel_rfl) (by kernel_rfl) (by kernel_rfl) (fun _ _ _ h => h) (Or.inl ⟨by rfl, ?_⟩) hHeld ?_
        · intro w hSw; (try dsimp only at hSw); go_simp
        try simp only [Act.put, List.setIfInBounds_toArray, List.set_cons_zero, List.set_cons_succ]
        refine wpAnyH_takeL (i := 4) (d := some 88) (v := .bool false) rfl rfl (by kernel_rfl) (by kernel_rfl) (by kernel_rfl) (fun _ _ _ h => h) (Or.inl ⟨by rfl, ?_⟩) hHeld ?_
        · intro w hSw; (try dsimp only at hSw); go_simp
        try simp only [Act.put, List.setIfInBounds_toArray, List.set_cons_zero, List.set_cons_succ]
        refine wpAnyH_takeL (i := 5) (d := some 89) (v := .bool false) rfl rfl (by kernel_rfl) (by kernel_rfl) (by kernel_rfl) (fun _ _ _ h => h) (Or.inl ⟨by rfl, ?_⟩) hHeld ?_
        · intro w hSw; (try dsimp only at hSw); go_simp
        try simp only [Act.put, List.setIfInBounds_toArray, List.set_cons_zero, List.set_cons_succ]
        refine wpAnyH_takeL (i := 6) (d := some 90) (v := .bool false) rfl rfl (by kernel_rfl) (by kernel_rfl) (by kernel_rfl) (fun _ _ _ h => h) (Or.inl ⟨by rfl, ?_⟩) hHeld ?_
        · intro w hSw; (try dsimp only at hSw); go_simp
        try simp only [Act.put, List.setIfInBounds_toArray, List.set_cons_zero, List.set_cons_succ]
        refine wpAnyH_takeL (i := 7) (d := some 91) (v := .slice A901 ka q901) rfl rfl (by kernel_rfl) (by kernel_rfl) (by kernel_rfl) (fun _ _ _ h => h) (Or.inl ⟨by rfl, ?_⟩) hHeld ?_
        · intro w hSw; (try dsimp only at hSw); go_simp
        try simp only [Act.put, List.setIfInBounds_toArray, List.set_cons_zero, List.set_cons_succ]
        refine wpAnyH_takeL (i := 8) (d := some 92) (v := .string (Dk.mkS (Dk.byN a))) rfl rfl (by kernel_rfl) (by kernel_rfl) (by kernel_rfl) (fun _ _ _ h => h) (Or.inl ⟨by rfl, ?_⟩) hHeld ?_
        · intro w hSw; have hcc := conv_C _ _ _ _ _ (hSw.2.2.1); go_simp
        try simp only [Act.put, List.setIfInBounds_toArray, List.set_cons_zero, List.set_cons_succ]
        refine wpAnyH_takeL (i := 9) (d := some 93) (v := .slice A902 kb q902) rfl rfl (by kernel_rfl) (by kernel_rfl) (by kernel_rfl) (fun _ _ _ h => h) (Or.inl ⟨by rfl, ?_⟩) hHeld ?_
        · intro w hSw; (try dsimp only at hSw); go_simp
        try simp only [Act.put, List.setIfInBounds_toArray, List.set_cons_zero, List.set_cons_succ]
        refine wpAnyH_takeL (i := 10) (d := some 94) (v := .string (Dk.mkS (Dk.byN b))) rfl rfl (by kernel_rfl) (by kernel_rfl) (by kernel_rfl) (fun _ _ _ h => h) (Or.inl ⟨by rfl, ?_⟩) hHeld ?_
        · intro w hSw; have hcc := conv_C _ _ _ _ _ (hSw.2.2.2); go_simp
        try simp only [Act.put, List.setIfInBounds_toArray, List.set_cons_zero, List.set_cons_succ]
        refine wpAnyH_takeL (i := 11) (d := some 95) (v := .bool bq) rfl rfl (by kernel_rfl) (by kernel_rfl) (by kernel_rfl) (fun _ _ _ h => h) (Or.inl ⟨by rfl, ?_⟩) hHeld ?_
        · intro w hSw; (try dsimp only at hSw); go_simp
        try simp only [Act.put, List.setIfInBounds_toArray, List.set_cons_zero, List.set_cons_succ]
        refine wpAnyH_takeL (i := 12) (d := some 96) (v := .agg (ntA a)) rfl rfl (by kernel_rfl) (by kernel_rfl) (by kernel_rfl) (fun _ _ _ h => h) (Or.inl ⟨by rfl, ?_⟩) hHeld ?_
        · intro w hSw; exact yl_whole 25 _ g1 rfl hSw.1 Try.underlying25 rfl Try.zNr
        try simp only [Act.put, List.setIfInBounds_toArray, List.set_cons_zero, List.set_cons_succ]
        refine wpAnyH_takeL (i := 13) (d := some 97) (v := .agg (ntA b)) rfl rfl (by kernel_rfl) (by kernel_rfl) (by kernel_rfl) (fun _ _ _ h => h) (Or.inl ⟨by rfl, ?_⟩) hHeld ?_
        · intro w hSw; exact yl_whole 25 _ g4 rfl hSw.2.1 Try.underlying25 rfl Try.zNr
        try simp only [Act.put, List.setIfInBounds_toArray, List.set_cons_zero, List.set_cons_succ]
        refine wpAnyH_takeL (i := 14) (d := some 98) (v := .bool bq) rfl rfl (by kernel_rfl) (by kernel_rfl) (by kernel_rfl) (fun _ _ _ h => h) (Or.inl ⟨by rfl, ?_⟩) hHeld ?_
        · intro w hSw; have hE := E2 w; go_simp
        try simp only [Act.put, List.setIfInBounds_toArray, List.set_cons_zero, List.set_cons_succ]
        refine wpAnyH_takeL (i := 15) (d := some 99) (v := .bool true) rfl rfl (by kernel_rfl) (by kernel_rfl) (by kernel_rfl) (fun _ _ _ h => h) (Or.inl ⟨by rfl, ?_⟩) hHeld ?_
        · intro w hSw; (try dsimp only at hSw); go_simp
        try simp only [Act.put, List.setIfInBounds_toArray, List.set_cons_zero, List.set_cons_succ]
        refine wpAnyH_takeL (i := 16) (d := some 100) (v := .bool true) rfl rfl (by kernel_rfl) (by kernel_rfl) (by kernel_rfl) (fun _ _ _ h => h) (Or.inl ⟨by rfl, ?_⟩) hHeld ?_
        · intro w hSw; (try dsimp only at hSw); go_simp
        try simp only [Act.put, List.setIfInBounds_toArray, List.set_cons_zero, List.set_cons_succ]
        refine wpAnyH_takeL (i := 17) (d := some 6) (v := .bool true) rfl rfl (by kernel_rfl) (by kernel_rfl) (by kernel_rfl) (fun _ _ _ h => h) (Or.inl ⟨by rfl, ?_⟩) hHeld ?_
        · intro w hSw; (try dsimp only at hSw); go_simp
        try simp only [Act.put, List.setIfInBounds_toArray, List.set_cons_zero, List.set_cons_succ]
        refine wpAnyH_done (by kernel_rfl) ?_ _
        go_wp2_with fail
        go_ret
        exact ⟨rfl, l58⟩
    · skip
      cases hd : Dk.dNt bs with
      | none =>
        obtain ⟨ka, hka⟩ : ∃ k, 25 + a.cg.size = k := ⟨_, rfl⟩
        have HKa := Lib.hid hka
        clear hka
        have E : ∀ V : World, (Op.equalIn 10000 25 (.agg (ntA a)) (.agg (ntA a))).run Try.prog V = .ok true V := fun V => by have := eq_nr a a V; rw [eqN_refl] at this; exact this
        have HD := Lib.hid hd
        have HIa := Lib.hid hia
        have HIb := Lib.hid hib
        have HRa := Lib.hid hra
        have HRb := Lib.hid hrb
        clear hd hia hib hra hrb
        go_enter Try.func4, Try.ntmps4
        go_wp2_with (first | ((with_reducible refine st_box 25 _ (ntA a) ?_ ?_); exact rfl))
        refine ⟨fun V1 g1 n1 f1 => ?_⟩
        have up1 : w.heap.size ≤ g1 := Nat.le_of_eq f1.at_
        have bl1 := f1.bel
        clear f1
        have r3_l := (hl).on bl1
        have l3 := le_tr (Below.refl _ _) bl1
        clear hl
        clear bl1
        go_wp2_with (first | ((with_reducible refine st_box 25 _ (ntA b) ?_ ?_); exact rfl))
        refine ⟨fun V4 g4 n4 f4 => ?_⟩
        have ne4_a := f4.ne n1
        have up4 : w.heap.size ≤ g4 := f4.up l3
        have bl4 := f4.bel
        clear f4
        have r6_a := le_on n1 bl4
        have r6_l := (r3_l).on bl4
        have l6 := le_tr l3 bl4
        clear n1 r3_l l3
        clear bl4
        go_wp2_with fail
        (with_reducible refine (alive_c _).mono ?_)
        rintro e w7 ⟨rfl, b7⟩
        have r9_a := le_on r6_a b7
        have r9_b := le_on n4 b7
        have r9_l := (r6_l).on b7
        have l9 := le_tr l6 b7
        clear r6_a n4 r6_l l6
        clear b7
        have c10 : w7.cell? ⟨g1, 9, none⟩ = some (.string (a.cg)) := CB.cell r9_a 9
        have c11 : w7.cell? ⟨g4, 9, none⟩ = some (.string (b.cg)) := CB.cell r9_b 9
        go_wp2_with (first | (first | ((with_reducible refine st_load 25 _ g1 ?_ r9_a Try.underlying25 ?_ ?_ ?_); exact rfl; exact rfl; exact Try.zNr) | ((with_reducible refine st_loadG 25 _ g1 ?_ r9_a Try.underlying25 ?_ ?_ ?_ ?_); exact rfl; exact rfl; exact Try.zNr; exact rfl)))
        (with_reducible refine (theirs_c a _).mono ?_)
        rintro e w12 ⟨rfl, b12⟩
        clear c10 c11
        have r14_a := le_on r9_a b12
        have r14_b := le_on r9_b b12
        have r14_l := (r9_l).on b12
        have l14 := le_tr l9 b12
        clear r9_a r9_b r9_l l9
        clear b12
        go_wp2_with fail
        have lt15_a := CB.lt r14_a
        have lt15_b := CB.lt r14_b
        have lb15 : w.heap.size ≤ w12.heap.size := Below.size (B := w.heap.size) l14
        (with_reducible refine (enc_yes a ka _ HIa.out HRa.out HKa.out).mono ?_)
        rintro e w15 ⟨A901, q901, G901, rfl, h901, b15⟩
        have r17_a := le_on r14_a b15
        have r17_b := le_on r14_b b15
        have r17_l := (r14_l).on b15
        have l17 := le_tr l14 b15
        clear r14_a r14_b r14_l l14
        clear b15
        have na18 := SO.above h901 lt15_a
        have na19 := SO.above h901 lt15_b
        have sm15_x := SO.mono h901 lb15
        clear h901
        clear lb15 lt15_a lt15_b
        go_wp2_with (first | (first | ((with_reducible refine st_load 25 _ g4 ?_ r17_b Try.underlying25 ?_ ?_ ?_); exact rfl; exact rfl; exact Try.zNr) | ((with_reducible refine st_loadG 25 _ g4 ?_ r17_b Try.underlying25 ?_ ?_ ?_ ?_); exact rfl; exact rfl; exact Try.zNr; exact rfl)))
        (with_reducible refine (theirs_c b _).mono ?_)
        rintro e w20 ⟨rfl, b20⟩
        have r21_x := SO.on sm15_x b20
        have r22_a := le_on r17_a b20
        have r22_b := le_on r17_b b20
        have r22_l := (r17_l).on b20
        have l22 := le_tr l17 b20
        clear r17_a r17_b r17_l l17
        clear sm15_x
        clear b20
        go_wp2_with fail
        have lt23_a := CB.lt r22_a
        have lt23_b := CB.lt r22_b
        have lb23 : w.heap.size ≤ w20.heap.size := Below.size (B := w.heap.size) l22
        (with_reducible refine (enc_not b _ HIb.out HRb.out).mono ?_)
        rintro e w23 ⟨A902, q902, G902, rfl, h902, b23⟩
        have r24_x := SO.on r21_x b23
        have r25_a := le_on r22_a b23
        have r25_b := le_on r22_b b23
        have r25_l := (r22_l).on b23
        have l25 := le_tr l22 b23
        clear r22_a r22_b r22_l l22
        clear r21_x
        clear b23
        have na26 := SO.above h902 lt23_a
        have na27 := SO.above h902 lt23_b
        have sm23_y := SO.mono h902 lb23
        clear h902
        clear lb23 lt23_a lt23_b
        go_wp2_with fail
        (with_reducible refine (dec_yes_c (back_n HIa.out HRa.out) _ _ _ _ (SO.rr r24_x)).mono ?_)
        rintro e w28 ⟨rfl, b28⟩
        have r29_x := SO.on r24_x b28
        have r29_y := SO.on sm23_y b28
        have r30_a := le_on r25_a b28
        have r30_b := le_on r25_b b28
        have r30_l := (r25_l).on b28
        have l30 := le_tr l25 b28
        clear r25_a r25_b r25_l l25
        clear r24_x sm23_y
        clear b28
        go_wp2_with (first | ((with_reducible refine st_alloc 33 (ntA zN) ?_ ?_); exact zero_nc))
        refine ⟨fun V31 g31 n31 f31 => ?_⟩
        have ne31_a := f31.ne r30_a
        have ne31_b := f31.ne r30_b
        have no31_x := SO.fresh r29_x (Nat.le_of_eq f31.at_)
        have no31_y := SO.fresh r29_y (Nat.le_of_eq f31.at_)
        have up31 : w.heap.size ≤ g31 := f31.up l30
        have bl31 := f31.bel
        clear f31
        have r32_x := SO.on r29_x bl31
        have r32_y := SO.on r29_y bl31
        have r33_a := le_on r30_a bl31
        have r33_b := le_on r30_b bl31
        have r33_l := (r30_l).on bl31
        have l33 := le_tr l30 bl31
        clear r30_a r30_b r30_l l30
        clear r29_x r29_y
        clear bl31
        go_wp2_with (first | ((with_reducible refine st_store 33 _ _ g31 (ntA a) ?_ ?_ n31 ?_ ?_ ?_ ?_); exact rfl; exact rfl; exact Try.zNc; exact rfl; exact ntA_one _))
        refine ⟨fun V34 n34 k34 => ?_⟩
        have m34_a := k34.on r33_a ne31_a
        have m34_b := k34.on r33_b ne31_b
        have m34_l := (r33_l).wr k34 up31
        have m34_x := SO.wr r32_x k34 no31_x
        have m34_y := SO.wr r32_y k34 no31_y
        have o34 := k34.bel _ _ l33 up31
        clear k34
        clear n31 r33_a r33_b r33_l r32_x r32_y l33
        go_wp2_with fail
        have y35 := Lib.hid (show (fun V : World => CB V g1 25 (ntA a) ∧ CB V g31 33 (ntA a)) V34.drew from ⟨CB.drew m34_a, CB.drew n34⟩)
        refine wp_region_held_drew (S := (fun V : World => CB V g1 25 (ntA a) ∧ CB V g31 33 (ntA a))) (by kernel_rfl) y35.out (fun hHeld => ?_)
        obtain ⟨D35, hD35⟩ : ∃ V, V34.drew = V := ⟨_, rfl⟩
        have b35 : Below V34.heap.size V34 D35 := by rw [← hD35]; exact le_dr (Below.refl _ _)
        rw [hD35] at hHeld ⊢
        clear hD35
        have r36_x := SO.on m34_x b35
        have r36_y := SO.on m34_y b35
        have r37_a := le_on m34_a b35
        have r37_b := le_on m34_b b35
        have r37_m := le_on n34 b35
        have r37_l := (m34_l).on b35
        have l37 := le_tr o34 b35
        clear m34_a m34_b n34 m34_l o34
        clear m34_x m34_y
        clear b35
        refine wpAnyH_takeL (i := 0) (d := some 55) (v := .int .i64 0) rfl rfl (by kernel_rfl) (by kernel_rfl) (by kernel_rfl) (fun _ _ _ h => h) (Or.inl ⟨by rfl, ?_⟩) hHeld ?_
        · intro w hSw; (try dsimp only at hSw); go_simp
        try simp only [Act.put, List.setIfInBounds_toArray, List.set_cons_zero, List.set_cons_succ]
        refine wpAnyH_takeL (i := 1) (d := some 56) (v := .bool false) rfl rfl (by kernel_rfl) (by kernel_rfl) (by kernel_rfl) (fun _ _ _ h => h) (Or.inl ⟨by rfl, ?_⟩) hHeld ?_
        · intro w hSw; (try dsimp only at hSw); go_simp
        try simp only [Act.put, List.setIfInBounds_toArray, List.set_cons_zero, List.set_cons_succ]
        refine wpAnyH_takeL (i := 2) (d := some 57) (v := .bool false) rfl rfl (by kernel_rfl) (by kernel_rfl) (by kernel_rfl) (fun _ _ _ h => h) (Or.inl ⟨by rfl, ?_⟩) hHeld ?_
        · intro w hSw; (try dsimp only at hSw); go_simp
        try simp only [Act.put, List.setIfInBounds_toArray, List.set_cons_zero, List.set_cons_succ]
        refine wpAnyH_takeL (i := 3) (d := some 58) (v := .agg (ntA a)) rfl rfl (by kernel_rfl) (by kernel_rfl) (by kernel_rfl) (fun _ _ _ h => h) (Or.inl ⟨by rfl, ?_⟩) hHeld ?_
        · intro w hSw; exact yl_whole 33 _ g31 rfl hSw.2 Try.underlying33 rfl Try.zNc
        try simp only [Act.put, List.setIfInBounds_toArray, List.set_cons_zero, List.set_cons_succ]
        refine wpAnyH_takeL (i := 5) (d := some 60) (v := .agg (ntA a)) rfl rfl (by kernel_rfl) (by kernel_rfl) (by kernel_rfl) (fun _ _ _ h => h) (Or.inl ⟨by rfl, ?_⟩) hHeld ?_
        · intro w hSw; exact yl_whole 25 _ g1 rfl hSw.1 Try.underlying25 rfl Try.zNr
        try simp only [Act.put, List.setIfInBounds_toArray, List.set_cons_zero, List.set_cons_succ]
        refine wpAnyH_ready (rs := [4]) (by kernel_rfl) (by simp) ?_
        refine AllReadyH.cons rfl (fun K hK => ?_) AllReadyH.nil
        go_simp
        (with_reducible refine (ours_c a _).mono ?_)
        rintro e u38 ⟨rfl, b38⟩
        have r39_x := SO.on r36_x b38
        have r39_y := SO.on r36_y b38
        have r40_a := le_on r37_a b38
        have r40_b := le_on r37_b b38
        have r40_m := le_on r37_m b38
        have r40_l := (r37_l).on b38
        have l40 := le_tr l37 b38
        clear r37_a r37_b r37_m r37_l l37
        clear r36_x r36_y
        clear b38
        go_wp2_with fail
        have y41 := Lib.hid (show (fun V : World => CB V g1 25 (ntA a) ∧ CB V g31 33 (ntA a)) u38 from ⟨r40_a, r40_m⟩)
        refine hK.out _ _ y41.out (fun hHeld => ?_)
        clear hK K y41
        try simp only [Act.put, List.setIfInBounds_toArray, List.set_cons_zero, List.set_cons_succ]
        refine wpAnyH_takeL (i := 6) (d := some 61) (v := .bool false) rfl rfl (by kernel_rfl) (by kernel_rfl) (by kernel_rfl) (fun _ _ _ h => h) (Or.inl ⟨by rfl, ?_⟩) hHeld ?_
        · intro w hSw; have hE := E w; go_simp
        try simp only [Act.put, List.setIfInBounds_toArray, List.set_cons_zero, List.set_cons_succ]
        refine wpAnyH_takeL (i := 7) (d := some 62) (v := .bool false) rfl rfl (by kernel_rfl) (by kernel_rfl) (by kernel_rfl) (fun _ _ _ h => h) (Or.inl ⟨by rfl, ?_⟩) hHeld ?_
        · intro w hSw; (try dsimp only at hSw); go_simp
        try simp only [Act.put, List.setIfInBounds_toArray, List.set_cons_zero, List.set_cons_succ]
        refine wpAnyH_done (by kernel_rfl) ?_ _
        go_wp2_with fail
        (with_reducible refine (dec_no_c HD.out _ _ _ _ r40_l.rr).mono ?_)
        rintro e w42 ⟨rfl, b42⟩
        have r43_x := SO.on r39_x b42
        have r43_y := SO.on r39_y b42
        have r44_a := le_on r40_a b42
        have r44_b := le_on r40_b b42
        have r44_m := le_on r40_m b42
        have r44_l := (r40_l).on b42
        have l44 := le_tr l40 b42
        clear r40_a r40_b r40_m r40_l l40
        clear r39_x r39_y
        clear b42
        go_wp2_with (first | ((with_reducible refine st_alloc 33 (ntA zN) ?_ ?_); exact zero_nc))
        refine ⟨fun V45 g45 n45 f45 => ?_⟩
        have ne45_a := f45.ne r44_a
        have ne45_b := f45.ne r44_b
        have ne45_m := f45.ne r44_m
        have no45_x := SO.fresh r43_x (Nat.le_of_eq f45.at_)
        have no45_y := SO.fresh r43_y (Nat.le_of_eq f45.at_)
        have up45 : w.heap.size ≤ g45 := f45.up l44
        have bl45 := f45.bel
        clear f45
        have r46_x := SO.on r43_x bl45
        have r46_y := SO.on r43_y bl45
        have r47_a := le_on r44_a bl45
        have r47_b := le_on r44_b bl45
        have r47_m := le_on r44_m bl45
        have r47_l := (r44_l).on bl45
        have l47 := le_tr l44 bl45
        clear r44_a r44_b r44_m r44_l l44
        clear r43_x r43_y
        clear bl45
        go_wp2_with (first | ((with_reducible refine st_store 33 _ _ g45 (ntA zN) ?_ ?_ n45 ?_ ?_ ?_ ?_); exact rfl; exact rfl; exact Try.zNc; exact rfl; exact ntA_one _))
        refine ⟨fun V48 n48 k48 => ?_⟩
        have m48_a := k48.on r47_a ne45_a
        have m48_b := k48.on r47_b ne45_b
        have m48_m := k48.on r47_m ne45_m
        have m48_l := (r47_l).wr k48 up45
        have m48_x := SO.wr r46_x k48 no45_x
        have m48_y := SO.wr r46_y k48 no45_y
        have o48 := k48.bel _ _ l47 up45
        clear k48
        clear n45 r47_a r47_b r47_m r47_l r46_x r46_y l47
        go_wp2_with fail
        have y49 := Lib.hid (show (fun V : World => True) V48.drew from trivial)
        refine wp_region_held_drew (S := (fun V : World => True)) (by kernel_rfl) y49.out (fun hHeld => ?_)
        obtain ⟨D49, hD49⟩ : ∃ V, V48.drew = V := ⟨_, rfl⟩
        have b49 : Below V48.heap.size V48 D49 := by rw [← hD49]; exact le_dr (Below.refl _ _)
        rw [hD49]
        clear hD49
        have r50_x := SO.on m48_x b49
        have r50_y := SO.on m48_y b49
        have r51_a := le_on m48_a b49
        have r51_b := le_on m48_b b49
        have r51_m := le_on m48_m b49
        have r51_u := le_on n48 b49
        have r51_l := (m48_l).on b49
        have l51 := le_tr o48 b49
        clear m48_a m48_b m48_m n48 m48_l o48
        clear m48_x m48_y
        clear b49
        refine wpAnyH_takeL (i := 0) (d := some 84) (v := .int .i64 0) rfl rfl (by kernel_rfl) (by kernel_rfl) (by kernel_rfl) (fun _ _ _ h => h) (Or.inl ⟨by rfl, ?_⟩) hHeld ?_
        · intro w hSw; (try dsimp only at hSw); go_simp
        try simp only [Act.put, List.setIfInBounds_toArray, List.set_cons_zero, List.set_cons_succ]
        refine wpAnyH_takeL (i := 1) (d := some 85) (v := .bool false) rfl rfl (by kernel_rfl) (by kernel_rfl) (by kernel_rfl) (fun _ _ _ h => h) (Or.inl ⟨by rfl, ?_⟩) hHeld ?_
        · intro w hSw; (try dsimp only at hSw); go_simp
        try simp only [Act.put, List.setIfInBounds_toArray, List.set_cons_zero, List.set_cons_succ]
        refine wpAnyH_takeL (i := 2) (d := some 86) (v := .bool false) rfl rfl (by kernel_rfl) (by kernel_rfl) (by kernel_rfl) (fun _ _ _ h => h) (Or.inl ⟨by rfl, ?_⟩) hHeld ?_
        · intro w hSw; (try dsimp only at hSw); go_simp
        try simp only [Act.put, List.setIfInBounds_toArray, List.set_cons_zero, List.set_cons_succ]
        refine wpAnyH_takeL (i := 3) (d := some 87) (v := .int .i64 2) rfl rfl (by kernel_rfl) (by kernel_rfl) (by kernel_rfl) (fun _ _ _ h => h) (Or.inl ⟨by rfl, ?_⟩) hHeld ?_
        · intro w hSw; (try dsimp only at hSw); go_simp
        try simp only [Act.put, List.setIfInBounds_toArray, List.set_cons_zero, List.set_cons_succ]
        refine wpAnyH_takeL (i := 4) (d := some 88) (v := .bool true) rfl rfl (by kernel_rfl) (by kernel_rfl) (by kernel_rfl) (fun _ _ _ h => h) (Or.inl ⟨by rfl, ?_⟩) hHeld ?_
        · intro w hSw; (try dsimp only at hSw); go_simp
        try simp only [Act.put, List.setIfInBounds_toArray, List.set_cons_zero, List.set_cons_succ]
        refine wpAnyH_takeL (i := 5) (d := some 89) (v := .bool true) rfl rfl (by kernel_rfl) (by kernel_rfl) (by kernel_rfl) (fun _ _ _ h => h) (Or.inl ⟨by rfl, ?_⟩) hHeld ?_
        · intro w hSw; (try dsimp only at hSw); go_simp
        try simp only [Act.put, List.setIfInBounds_toArray, List.set_cons_zero, List.set_cons_succ]
        refine wpAnyH_takeL (i := 6) (d := some 90) (v := .bool true) rfl rfl (by kernel_rfl) (by kernel_rfl) (by kernel_rfl) (fun _ _ _ h => h) (Or.inl ⟨by rfl, ?_⟩) hHeld ?_
        · intro w hSw; (try dsimp only at hSw); go_simp
        try simp only [Act.put, List.setIfInBounds_toArray, List.set_cons_zero, List.set_cons_succ]
        refine wpAnyH_takeL (i := 7) (d := some 91) (v := undef) rfl rfl (by kernel_rfl) (by kernel_rfl) (by kernel_rfl) (fun _ _ _ h => h) (Or.inr ⟨by kernel_rfl, rfl⟩) hHeld ?_
        try simp only [Act.put, List.setIfInBounds_toArray, List.set_cons_zero, List.set_cons_succ]
        refine wpAnyH_takeL (i := 8) (d := some 92) (v := undef) rfl rfl (by kernel_rfl) (by kernel_rfl) (by kernel_rfl) (fun _ _ _ h => h) (Or.inr ⟨by kernel_rfl, rfl⟩) hHeld ?_
        try simp only [Act.put, List.setIfInBounds_toArray, List.set_cons_zero, List.set_cons_succ]
        refine wpAnyH_takeL (i := 9) (d := some 93) (v := undef) rfl rfl (by kernel_rfl) (by kernel_rfl) (by kernel_rfl) (fun _ _ _ h => h) (Or.inr ⟨by kernel_rfl, rfl⟩) hHeld ?_
        try simp only [Act.put, List.setIfInBounds_toArray, List.set_cons_zero, List.set_cons_succ]
        refine wpAnyH_takeL (i := 10) (d := some 94) (v := undef) rfl rfl (by kernel_rfl) (by kernel_rfl) (by kernel_rfl) (fun _ _ _ h => h) (Or.inr ⟨by kernel_rfl, rfl⟩) hHeld ?_
        try simp only [Act.put, List.setIfInBounds_toArray, List.set_cons_zero, List.set_cons_succ]
        refine wpAnyH_takeL (i := 11) (d := some 95) (v := undef) rfl rfl (by kernel_rfl) (by kernel_rfl) (by kernel_rfl) (fun _ _ _ h => h) (Or.inr ⟨by kernel_rfl, rfl⟩) hHeld ?_
        try simp only [Act.put, List.setIfInBounds_toArray, List.set_cons_zero, List.set_cons_succ]
        refine wpAnyH_takeL (i := 12) (d := some 96) (v := undef) rfl rfl (by kernel_rfl) (by kernel_rfl) (by kernel_rfl) (fun _ _ _ h => h) (Or.inr ⟨by kernel_rfl, rfl⟩) hHeld ?_
        try simp only [Act.put, List.setIfInBounds_toArray, List.set_cons_zero, List.set_cons_succ]
        refine wpAnyH_takeL (i := 13) (d := some 97) (v := undef) rfl rfl (by kernel_rfl) (by kernel_rfl) (by kernel_rfl) (fun _ _ _ h => h) (Or.inr ⟨by kernel_rfl, rfl⟩) hHeld ?_
        try simp only [Act.put, List.setIfInBounds_toArray, List.set_cons_zero, List.set_cons_succ]
        refine wpAnyH_takeL (i := 14) (d := some 98) (v := undef) rfl rfl (by kernel_rfl) (by kernel_rfl) (by kernel_rfl) (fun _ _ _ h => h) (Or.inr ⟨by kernel_rfl, rfl⟩) hHeld ?_
        try simp only [Act.put, List.setIfInBounds_toArray, List.set_cons_zero, List.set_cons_succ]
        refine wpAnyH_takeL (i := 15) (d := some 99) (v := undef) rfl rfl (by kernel_rfl) (by kernel_rfl) (by kernel_rfl) (fun _ _ _ h => h) (Or.inr ⟨by kernel_rfl, rfl⟩) hHeld ?_
        try simp only [Act.put, List.setIfInBounds_toArray, List.set_cons_zero, List.set_cons_succ]
        refine wpAnyH_takeL (i := 16) (d := some 100) (v := .bool true) rfl rfl (by kernel_rfl) (by kernel_rfl) (by kernel_rfl) (fun _ _ _ h => h) (Or.inl ⟨by rfl, ?_⟩) hHeld ?_
        · intro w hSw; (try dsimp only at hSw); go_simp
        try simp only [Act.put, List.setIfInBounds_toArray, List.set_cons_zero, List.set_cons_succ]
        refine wpAnyH_takeL (i := 17) (d := some 6) (v := .bool true) rfl rfl (by kernel_rfl) (by kernel_rfl) (by kernel_rfl) (fun _ _ _ h => h) (Or.inl ⟨by rfl, ?_⟩) hHeld ?_
        · intro w hSw; (try dsimp only at hSw); go_simp
        try simp only [Act.put, List.setIfInBounds_toArray, List.set_cons_zero, List.set_cons_succ]
        refine wpAnyH_done (by kernel_rfl) ?_ _
        go_wp2_with fail
        go_ret
        exact ⟨rfl, l51⟩
      | some d =>
        obtain ⟨ka, hka⟩ : ∃ k, 25 + a.cg.size = k := ⟨_, rfl⟩
        have HKa := Lib.hid hka
        clear hka
        have E : ∀ V : World, (Op.equalIn 10000 25 (.agg (ntA a)) (.agg (ntA a))).run Try.prog V = .ok true V := fun V => by have := eq_nr a a V; rw [eqN_refl] at this; exact this
        obtain ⟨hid_, hrd, hed⟩ := Dk.dNt_some.1 hd
        obtain ⟨kd, hkd⟩ : ∃ k, 25 + d.cg.size = k := ⟨_, rfl⟩
        have HKd := Lib.hid hkd
        have HId := Lib.hid hid_
        have HRd := Lib.hid hrd
        have HEd := Lib.hid hed
        clear hkd hid_ hrd hed
        have qd : ((Dk.mkS (Dk.byN d)).toList == (Dk.mkS bs).toList) = true := by rw [← HEd.out]; exact beq_self_eq_true _
        have HD := Lib.hid hd
        have HIa := Lib.hid hia
        have HIb := Lib.hid hib
        have HRa := Lib.hid hra
        have HRb := Lib.hid hrb
        clear hd hia hib hra hrb
        go_enter Try.func4, Try.ntmps4
        go_wp2_with (first | ((with_reducible refine st_box 25 _ (ntA a) ?_ ?_); exact rfl))
        refine ⟨fun V1 g1 n1 f1 => ?_⟩
        have up1 : w.heap.size ≤ g1 := Nat.le_of_eq f1.at_
        have bl1 := f1.bel
        clear f1
        have r3_l := (hl).on bl1
        have l3 := le_tr (Below.refl _ _) bl1
        clear hl
        clear bl1
        go_wp2_with (first | ((with_reducible refine st_box 25 _ (ntA b) ?_ ?_); exact rfl))
        refine ⟨fun V4 g4 n4 f4 => ?_⟩
        have ne4_a := f4.ne n1
        have up4 : w.heap.size ≤ g4 := f4.up l3
        have bl4 := f4.bel
        clear f4
        have r6_a := le_on n1 bl4
        have r6_l := (r3_l).on bl4
        have l6 := le_tr l3 bl4
        clear n1 r3_l l3
        clear bl4
        go_wp2_with fail
        (with_reducible refine (alive_c _).mono ?_)
        rintro e w7 ⟨rfl, b7⟩
        have r9_a := le_on r6_a b7
        have r9_b := le_on n4 b7
        have r9_l := (r6_l).on b7
        have l9 := le_tr l6 b7
        clear r6_a n4 r6_l l6
        clear b7
        have c10 : w7.cell? ⟨g1, 9, none⟩ = some (.string (a.cg)) := CB.cell r9_a 9
        have c11 : w7.cell? ⟨g4, 9, none⟩ = some (.string (b.cg)) := CB.cell r9_b 9
        go_wp2_with (first | (first | ((with_reducible refine st_load 25 _ g1 ?_ r9_a Try.underlying25 ?_ ?_ ?_); exact rfl; exact rfl; exact Try.zNr) | ((with_reducible refine st_loadG 25 _ g1 ?_ r9_a Try.underlying25 ?_ ?_ ?_ ?_); exact rfl; exact rfl; exact Try.zNr; exact rfl)))
        (with_reducible refine (theirs_c a _).mono ?_)
        rintro e w12 ⟨rfl, b12⟩
        clear c10 c11
        have r14_a := le_on r9_a b12
        have r14_b := le_on r9_b b12
        have r14_l := (r9_l).on b12
        have l14 := le_tr l9 b12
        clear r9_a r9_b r9_l l9
        clear b12
        go_wp2_with fail
        have lt15_a := CB.lt r14_a
        have lt15_b := CB.lt r14_b
        have lb15 : w.heap.size ≤ w12.heap.size := Below.size (B := w.heap.size) l14
        (with_reducible refine (enc_yes a ka _ HIa.out HRa.out HKa.out).mono ?_)
        rintro e w15 ⟨A901, q901, G901, rfl, h901, b15⟩
        have r17_a := le_on r14_a b15
        have r17_b := le_on r14_b b15
        have r17_l := (r14_l).on b15
        have l17 := le_tr l14 b15
        clear r14_a r14_b r14_l l14
        clear b15
        have na18 := SO.above h901 lt15_a
        have na19 := SO.above h901 lt15_b
        have sm15_x := SO.mono h901 lb15
        clear h901
        clear lb15 lt15_a lt15_b
        go_wp2_with (first | (first | ((with_reducible refine st_load 25 _ g4 ?_ r17_b Try.underlying25 ?_ ?_ ?_); exact rfl; exact rfl; exact Try.zNr) | ((with_reducible refine st_loadG 25 _ g4 ?_ r17_b Try.underlying25 ?_ ?_ ?_ ?_); exact rfl; exact rfl; exact Try.zNr; exact rfl)))
        (with_reducible refine (theirs_c b _).mono ?_)
        rintro e w20 ⟨rfl, b20⟩
        have r21_x := SO.on sm15_x b20
        have r22_a := le_on r17_a b20
        have r22_b := le_on r17_b b20
        have r22_l := (r17_l).on b20
        have l22 := le_tr l17 b20
        clear r17_a r17_b r17_l l17
        clear sm15_x
        clear b20
        go_wp2_with fail
        have lt23_a := CB.lt r22_a
        have lt23_b := CB.lt r22_b
        have lb23 : w.heap.size ≤ w20.heap.size := Below.size (B := w.heap.size) l22
        (with_reducible refine (enc_not b _ HIb.out HRb.out).mono ?_)
        rintro e w23 ⟨A902, q902, G902, rfl, h902, b23⟩
        have r24_x := SO.on r21_x b23
        have r25_a := le_on r22_a b23
        have r25_b := le_on r22_b b23
        have r25_l := (r22_l).on b23
        have l25 := le_tr l22 b23
        clear r22_a r22_b r22_l l22
        clear r21_x
        clear b23
        have na26 := SO.above h902 lt23_a
        have na27 := SO.above h902 lt23_b
        have sm23_y := SO.mono h902 lb23
        clear h902
        clear lb23 lt23_a lt23_b
        go_wp2_with fail
        (with_reducible refine (dec_yes_c (back_n HIa.out HRa.out) _ _ _ _ (SO.rr r24_x)).mono ?_)
        rintro e w28 ⟨rfl, b28⟩
        have r29_x := SO.on r24_x b28
        have r29_y := SO.on sm23_y b28
        have r30_a := le_on r25_a b28
        have r30_b := le_on r25_b b28
        have r30_l := (r25_l).on b28
        have l30 := le_tr l25 b28
        clear r25_a r25_b r25_l l25
        clear r24_x sm23_y
        clear b28
        go_wp2_with (first | ((with_reducible refine st_alloc 33 (ntA zN) ?_ ?_); exact zero_nc))
        refine ⟨fun V31 g31 n31 f31 => ?_⟩
        have ne31_a := f31.ne r30_a
        have ne31_b := f31.ne r30_b
        have no31_x := SO.fresh r29_x (Nat.le_of_eq f31.at_)
        have no31_y := SO.fresh r29_y (Nat.le_of_eq f31.at_)
        have up31 : w.heap.size ≤ g31 := f31.up l30
        have bl31 := f31.bel
        clear f31
        have r32_x := SO.on r29_x bl31
        have r32_y := SO.on r29_y bl31
        have r33_a := le_on r30_a bl31
        have r33_b := le_on r30_b bl31
        have r33_l := (r30_l).on bl31
        have l33 := le_tr l30 bl31
        clear r30_a r30_b r30_l l30
        clear r29_x r29_y
        clear bl31
        go_wp2_with (first | ((with_reducible refine st_store 33 _ _ g31 (ntA a) ?_ ?_ n31 ?_ ?_ ?_ ?_); exact rfl; exact rfl; exact Try.zNc; exact rfl; exact ntA_one _))
        refine ⟨fun V34 n34 k34 => ?_⟩
        have m34_a := k34.on r33_a ne31_a
        have m34_b := k34.on r33_b ne31_b
        have m34_l := (r33_l).wr k34 up31
        have m34_x := SO.wr r32_x k34 no31_x
        have m34_y := SO.wr r32_y k34 no31_y
        have o34 := k34.bel _ _ l33 up31
        clear k34
        clear n31 r33_a r33_b r33_l r32_x r32_y l33
        go_wp2_with fail
        have y35 := Lib.hid (show (fun V : World => CB V g1 25 (ntA a) ∧ CB V g31 33 (ntA a)) V34.drew from ⟨CB.drew m34_a, CB.drew n34⟩)
        refine wp_region_held_drew (S := (fun V : World => CB V g1 25 (ntA a) ∧ CB V g31 33 (ntA a))) (by kernel_rfl) y35.out (fun hHeld => ?_)
        obtain ⟨D35, hD35⟩ : ∃ V, V34.drew = V := ⟨_, rfl⟩
        have b35 : Below V34.heap.size V34 D35 := by rw [← hD35]; exact le_dr (Below.refl _ _)
        rw [hD35] at hHeld ⊢
        clear hD35
        have r36_x := SO.on m34_x b35
        have r36_y := SO.on m34_y b35
        have r37_a := le_on m34_a b35
        have r37_b := le_on m34_b b35
        have r37_m := le_on n34 b35
        have r37_l := (m34_l).on b35
        have l37 := le_tr o34 b35
        clear m34_a m34_b n34 m34_l o34
        clear m34_x m34_y
        clear b35
        refine wpAnyH_takeL (i := 0) (d := some 55) (v := .int .i64 0) rfl rfl (by kernel_rfl) (by kernel_rfl) (by kernel_rfl) (fun _ _ _ h => h) (Or.inl ⟨by rfl, ?_⟩) hHeld ?_
        · intro w hSw; (try dsimp only at hSw); go_simp
        try simp only [Act.put, List.setIfInBounds_toArray, List.set_cons_zero, List.set_cons_succ]
        refine wpAnyH_takeL (i := 1) (d := some 56) (v := .bool false) rfl rfl (by kernel_rfl) (by kernel_rfl) (by kernel_rfl) (fun _ _ _ h => h) (Or.inl ⟨by rfl, ?_⟩) hHeld ?_
        · intro w hSw; (try dsimp only at hSw); go_simp
        try simp only [Act.put, List.setIfInBounds_toArray, List.set_cons_zero, List.set_cons_succ]
        refine wpAnyH_takeL (i := 2) (d := some 57) (v := .bool false) rfl rfl (by kernel_rfl) (by kernel_rfl) (by kernel_rfl) (fun _ _ _ h => h) (Or.inl ⟨by rfl, ?_⟩) hHeld ?_
        · intro w hSw; (try dsimp only at hSw); go_simp
        try simp only [Act.put, List.setIfInBounds_toArray, List.set_cons_zero, List.set_cons_succ]
        refine wpAnyH_takeL (i := 3) (d := some 58) (v := .agg (ntA a)) rfl rfl (by kernel_rfl) (by kernel_rfl) (by kernel_rfl) (fun _ _ _ h => h) (Or.inl ⟨by rfl, ?_⟩) hHeld ?_
        · intro w hSw; exact yl_whole 33 _ g31 rfl hSw.2 Try.underlying33 rfl Try.zNc
        try simp only [Act.put, List.setIfInBounds_toArray, List.set_cons_zero, List.set_cons_succ]
        refine wpAnyH_takeL (i := 5) (d := some 60) (v := .agg (ntA a)) rfl rfl (by kernel_rfl) (by kernel_rfl) (by kernel_rfl) (fun _ _ _ h => h) (Or.inl ⟨by rfl, ?_⟩) hHeld ?_
        · intro w hSw; exact yl_whole 25 _ g1 rfl hSw.1 Try.underlying25 rfl Try.zNr
        try simp only [Act.put, List.setIfInBounds_toArray, List.set_cons_zero, List.set_cons_succ]
        refine wpAnyH_ready (rs := [4]) (by kernel_rfl) (by simp) ?_
        refine AllReadyH.cons rfl (fun K hK => ?_) AllReadyH.nil
        go_simp
        (with_reducible refine (ours_c a _).mono ?_)
        rintro e u38 ⟨rfl, b38⟩
        have r39_x := SO.on r36_x b38
        have r39_y := SO.on r36_y b38
        have r40_a := le_on r37_a b38
        have r40_b := le_on r37_b b38
        have r40_m := le_on r37_m b38
        have r40_l := (r37_l).on b38
        have l40 := le_tr l37 b38
        clear r37_a r37_b r37_m r37_l l37
        clear r36_x r36_y
        clear b38
        go_wp2_with fail
        have y41 := Lib.hid (show (fun V : World => CB V g1 25 (ntA a) ∧ CB V g31 33 (ntA a)) u38 from ⟨r40_a, r40_m⟩)
        refine hK.out _ _ y41.out (fun hHeld => ?_)
        clear hK K y41
        try simp only [Act.put, List.setIfInBounds_toArray, List.set_cons_zero, List.set_cons_succ]
        refine wpAnyH_takeL (i := 6) (d := some 61) (v := .bool false) rfl rfl (by kernel_rfl) (by kernel_rfl) (by kernel_rfl) (fun _ _ _ h => h) (Or.inl ⟨by rfl, ?_⟩) hHeld ?_
        · intro w hSw; have hE := E w; go_simp
        try simp only [Act.put, List.setIfInBounds_toArray, List.set_cons_zero, List.set_cons_succ]
        refine wpAnyH_takeL (i := 7) (d := some 62) (v := .bool false) rfl rfl (by kernel_rfl) (by kernel_rfl) (by kernel_rfl) (fun _ _ _ h => h) (Or.inl ⟨by rfl, ?_⟩) hHeld ?_
        · intro w hSw; (try dsimp only at hSw); go_simp
        try simp only [Act.put, List.setIfInBounds_toArray, List.set_cons_zero, List.set_cons_succ]
        refine wpAnyH_done (by kernel_rfl) ?_ _
        go_wp2_with fail
        (with_reducible refine (dec_yes_c HD.out _ _ _ _ r40_l.rr).mono ?_)
        rintro e w42 ⟨rfl, b42⟩
        have r43_x := SO.on r39_x b42
        have r43_y := SO.on r39_y b42
        have r44_a := le_on r40_a b42
        have r44_b := le_on r40_b b42
        have r44_m := le_on r40_m b42
        have r44_l := (r40_l).on b42
        have l44 := le_tr l40 b42
        clear r40_a r40_b r40_m r40_l l40
        clear r39_x r39_y
        clear b42
        go_wp2_with (first | ((with_reducible refine st_alloc 33 (ntA zN) ?_ ?_); exact zero_nc))
        refine ⟨fun V45 g45 n45 f45 => ?_⟩
        have ne45_a := f45.ne r44_a
        have ne45_b := f45.ne r44_b
        have ne45_m := f45.ne r44_m
        have no45_x := SO.fresh r43_x (Nat.le_of_eq f45.at_)
        have no45_y := SO.fresh r43_y (Nat.le_of_eq f45.at_)
        have up45 : w.heap.size ≤ g45 := f45.up l44
        have bl45 := f45.bel
        clear f45
        have r46_x := SO.on r43_x bl45
        have r46_y := SO.on r43_y bl45
        have r47_a := le_on r44_a bl45
        have r47_b := le_on r44_b bl45
        have r47_m := le_on r44_m bl45
        have r47_l := (r44_l).on bl45
        have l47 := le_tr l44 bl45
        clear r44_a r44_b r44_m r44_l l44
        clear r43_x r43_y
        clear bl45
        go_wp2_with (first | ((with_reducible refine st_store 33 _ _ g45 (ntA d) ?_ ?_ n45 ?_ ?_ ?_ ?_); exact rfl; exact rfl; exact Try.zNc; exact rfl; exact ntA_one _))
        refine ⟨fun V48 n48 k48 => ?_⟩
        have m48_a := k48.on r47_a ne45_a
        have m48_b := k48.on r47_b ne45_b
        have m48_m := k48.on r47_m ne45_m
        have m48_l := (r47_l).wr k48 up45
        have m48_x := SO.wr r46_x k48 no45_x
        have m48_y := SO.wr r46_y k48 no45_y
        have o48 := k48.bel _ _ l47 up45
        clear k48
        clear n45 r47_a r47_b r47_m r47_l r46_x r46_y l47
        go_wp2_with (first | (first | ((with_reducible refine st_load 33 _ g45 ?_ n48 Try.underlying33 ?_ ?_ ?_); exact rfl; exact rfl; exact Try.zNc) | ((with_reducible refine st_loadG 33 _ g45 ?_ n48 Try.underlying33 ?_ ?_ ?_ ?_); exact rfl; exact rfl; exact Try.zNc; exact rfl)))
        have lt49_a := CB.lt m48_a
        have lt49_b := CB.lt m48_b
        have lt49_m := CB.lt m48_m
        have lt49_u := CB.lt n48
        have lb49 : w.heap.size ≤ V48.heap.size := Below.size (B := w.heap.size) o48
        (with_reducible refine (enc_yes d kd _ HId.out HRd.out HKd.out).mono ?_)
        rintro e w49 ⟨A903, q903, G903, rfl, h903, b49⟩
        have r50_x := SO.on m48_x b49
        have r50_y := SO.on m48_y b49
        have r51_a := le_on m48_a b49
        have r51_b := le_on m48_b b49
        have r51_m := le_on m48_m b49
        have r51_u := le_on n48 b49
        have r51_l := (m48_l).on b49
        have l51 := le_tr o48 b49
        clear m48_a m48_b m48_m n48 m48_l o48
        clear m48_x m48_y
        clear b49
        have na52 := SO.above h903 lt49_a
        have na53 := SO.above h903 lt49_b
        have na54 := SO.above h903 lt49_m
        have na55 := SO.above h903 lt49_u
        have sm49_z := SO.mono h903 lb49
        clear h903
        clear lb49 lt49_a lt49_b lt49_m lt49_u
        have v1 := conv_C _ _ _ _ _ (SO.rr sm49_z)
        have v2 := conv_C _ _ _ _ _ (RL.rr r51_l)
        go_wp2_with fail
        clear v1 v2
        have y56 := Lib.hid (show (fun V : World => True) w49.drew from trivial)
        refine wp_region_held_drew (S := (fun V : World => True)) (by kernel_rfl) y56.out (fun hHeld => ?_)
        obtain ⟨D56, hD56⟩ : ∃ V, w49.drew = V := ⟨_, rfl⟩
        have b56 : Below w49.heap.size w49 D56 := by rw [← hD56]; exact le_dr (Below.refl _ _)
        rw [hD56]
        clear hD56
        have r57_x := SO.on r50_x b56
        have r57_y := SO.on r50_y b56
        have r57_z := SO.on sm49_z b56
        have r58_a := le_on r51_a b56
        have r58_b := le_on r51_b b56
        have r58_m := le_on r51_m b56
        have r58_u := le_on r51_u b56
        have r58_l := (r51_l).on b56
        have l58 := le_tr l51 b56
        clear r51_a r51_b r51_m r51_u r51_l l51
        clear r50_x r50_y sm49_z
        clear b56
        refine wpAnyH_takeL (i := 0) (d := some 84) (v := .int .i64 0) rfl rfl (by kernel_rfl) (by kernel_rfl) (by kernel_rfl) (fun _ _ _ h => h) (Or.inl ⟨by rfl, ?_⟩) hHeld ?_
        · intro w hSw; (try dsimp only at hSw); go_simp
        try simp only [Act.put, List.setIfInBounds_toArray, List.set_cons_zero, List.set_cons_succ]
        refine wpAnyH_takeL (i := 1) (d := some 85) (v := .bool false) rfl rfl (by kernel_rfl) (by kernel_rfl) (by kernel_rfl) (fun _ _ _ h => h) (Or.inl ⟨by rfl, ?_⟩) hHeld ?_
        · intro w hSw; (try dsimp only at hSw); go_simp
        try simp only [Act.put, List.setIfInBounds_toArray, List.set_cons_zero, List.set_cons_succ]
        refine wpAnyH_takeL (i := 2) (d := some 86) (v := .bool false) rfl rfl (by kernel_rfl) (by kernel_rfl) (by kernel_rfl) (fun _ _ _ h => h) (Or.inl ⟨by rfl, ?_⟩) hHeld ?_
        · intro w hSw; (try dsimp only at hSw); go_simp
        try simp only [Act.put, List.setIfInBounds_toArray, List.set_cons_zero, List.set_cons_succ]
        refine wpAnyH_takeL (i := 3) (d := some 87) (v := .int .i64 2) rfl rfl (by kernel_rfl) (by kernel_rfl) (by kernel_rfl) (fun _ _ _ h => h) (Or.inl ⟨by rfl, ?_⟩) hHeld ?_
        · intro w hSw; (try dsimp only at hSw); go_simp
        try simp only [Act.put, List.setIfInBounds_toArray, List.set_cons_zero, List.set_cons_succ]
        refine wpAnyH_takeL (i := 4) (d := some 88) (v := .bool true) rfl rfl (by kernel_rfl) (by kernel_rfl) (by kernel_rfl) (fun _ _ _ h => h) (Or.inl ⟨by rfl, ?_⟩) hHeld ?_
        · intro w hSw; (try dsimp only at hSw); go_simp
        try simp only [Act.put, List.setIfInBounds_toArray, List.set_cons_zero, List.set_cons_succ]
        refine wpAnyH_takeL (i := 5) (d := some 89) (v := .bool true) rfl rfl (by kernel_rfl) (by kernel_rfl) (by kernel_rfl) (fun _ _ _ h => h) (Or.inl ⟨by rfl, ?_⟩) hHeld ?_
        · intro w hSw; (try dsimp only at hSw); go_simp
        try simp only [Act.put, List.setIfInBounds_toArray, List.set_cons_zero, List.set_cons_succ]
        refine wpAnyH_takeL (i := 6) (d := some 90) (v := .bool true) rfl rfl (by kernel_rfl) (by kernel_rfl) (by kernel_rfl) (fun _ _ _ h => h) (Or.inl ⟨by rfl, ?_⟩) hHeld ?_
        · intro w hSw; (try dsimp only at hSw); go_simp
        try simp only [Act.put, List.setIfInBounds_toArray, List.set_cons_zero, List.set_cons_succ]
        refine wpAnyH_takeL (i := 7) (d := some 91) (v := undef) rfl rfl (by kernel_rfl) (by kernel_rfl) (by kernel_rfl) (fun _ _ _ h => h) (Or.inr ⟨by kernel_rfl, rfl⟩) hHeld ?_
        try simp only [Act.put, List.setIfInBounds_toArray, List.set_cons_zero, List.set_cons_succ]
        refine wpAnyH_takeL (i := 8) (d := some 92) (v := undef) rfl rfl (by kernel_rfl) (by kernel_rfl) (by kernel_rfl) (fun _ _ _ h => h) (Or.inr ⟨by kernel_rfl, rfl⟩) hHeld ?_
        try simp only [Act.put, List.setIfInBounds_toArray, List.set_cons_zero, List.set_cons_succ]
        refine wpAnyH_takeL (i := 9) (d := some 93) (v := undef) rfl rfl (by kernel_rfl) (by kernel_rfl) (by kernel_rfl) (fun _ _ _ h => h) (Or.inr ⟨by kernel_rfl, rfl⟩) hHeld ?_
        try simp only [Act.put, List.setIfInBounds_toArray, List.set_cons_zero, List.set_cons_succ]
        refine wpAnyH_takeL (i := 10) (d := some 94) (v := undef) rfl rfl (by kernel_rfl) (by kernel_rfl) (by kernel_rfl) (fun _ _ _ h => h) (Or.inr ⟨by kernel_rfl, rfl⟩) hHeld ?_
        try simp only [Act.put, List.setIfInBounds_toArray, List.set_cons_zero, List.set_cons_succ]
        refine wpAnyH_takeL (i := 11) (d := some 95) (v := undef) rfl rfl (by kernel_rfl) (by kernel_rfl) (by kernel_rfl) (fun _ _ _ h => h) (Or.inr ⟨by kernel_rfl, rfl⟩) hHeld ?_
        try simp only [Act.put, List.setIfInBounds_toArray, List.set_cons_zero, List.set_cons_succ]
        refine wpAnyH_takeL (i := 12) (d := some 96) (v := undef) rfl rfl (by kernel_rfl) (by kernel_rfl) (by kernel_rfl) (fun _ _ _ h => h) (Or.inr ⟨by kernel_rfl, rfl⟩) hHeld ?_
        try simp only [Act.put, List.setIfInBounds_toArray, List.set_cons_zero, List.set_cons_succ]
        refine wpAnyH_takeL (i := 13) (d := some 97) (v := undef) rfl rfl (by kernel_rfl) (by kernel_rfl) (by kernel_rfl) (fun _ _ _ h => h) (Or.inr ⟨by kernel_rfl, rfl⟩) hHeld ?_
        try simp only [Act.put, List.setIfInBounds_toArray, List.set_cons_zero, List.set_cons_succ]
        refine wpAnyH_takeL (i := 14) (d := some 98) (v := undef) rfl rfl (by kernel_rfl) (by kernel_rfl) (by kernel_rfl) (fun _ _ _ h => h) (Or.inr ⟨by kernel_rfl, rfl⟩) hHeld ?_
        try simp only [Act.put, List.setIfInBounds_toArray, List.set_cons_zero, List.set_cons_succ]
        refine wpAnyH_takeL (i := 15) (d := some 99) (v := undef) rfl rfl (by kernel_rfl) (by kernel_rfl) (by kernel_rfl) (fun _ _ _ h => h) (Or.inr ⟨by kernel_rfl, rfl⟩) hHeld ?_
        try simp only [Act.put, List.setIfInBounds_toArray, List.set_cons_zero, List.set_cons_succ]
        refine wpAnyH_takeL (i := 16) (d := some 100) (v := .bool true) rfl rfl (by kernel_rfl) (by kernel_rfl) (by kernel_rfl) (fun _ _ _ h => h) (Or.inl ⟨by rfl, ?_⟩) hHeld ?_
        · intro w hSw; (try dsimp only at hSw); go_simp
        try simp only [Act.put, List.setIfInBounds_toArray, List.set_cons_zero, List.set_cons_succ]
        refine wpAnyH_takeL (i := 17) (d := some 6) (v := .bool true) rfl rfl (by kernel_rfl) (by kernel_rfl) (by kernel_rfl) (fun _ _ _ h => h) (Or.inl ⟨by rfl, ?_⟩) hHeld ?_
        · intro w hSw; (try dsimp only at hSw); go_simp
        try simp only [Act.put, List.setIfInBounds_toArray, List.set_cons_zero, List.set_cons_succ]
        refine wpAnyH_done (by kernel_rfl) ?_ _
        go_wp2_with fail
        go_ret
        exact ⟨rfl, l58⟩
  by_cases hrb : RightN b
  · skip
    cases hd : Dk.dNt bs with
    | none =>
      obtain ⟨kb, hkb⟩ : ∃ k, 25 + b.cg.size = k := ⟨_, rfl⟩
      have HKb := Lib.hid hkb
      clear hkb
      have HD := Lib.hid hd
      have HIa := Lib.hid hia
      have HIb := Lib.hid hib
      have HRa := Lib.hid hra
      have HRb := Lib.hid hrb
      clear hd hia hib hra hrb
      go_enter Try.func4, Try.ntmps4
      go_wp2_with (first | ((with_reducible refine st_box 25 _ (ntA a) ?_ ?_); exact rfl))
      refine ⟨fun V1 g1 n1 f1 => ?_⟩
      have up1 : w.heap.size ≤ g1 := Nat.le_of_eq f1.at_
      have bl1 := f1.bel
      clear f1
      have r3_l := (hl).on bl1
      have l3 := le_tr (Below.refl _ _) bl1
      clear hl
      clear bl1
      go_wp2_with (first | ((with_reducible refine st_box 25 _ (ntA b) ?_ ?_); exact rfl))
      refine ⟨fun V4 g4 n4 f4 => ?_⟩
      have ne4_a := f4.ne n1
      have up4 : w.heap.size ≤ g4 := f4.up l3
      have bl4 := f4.bel
      clear f4
      have r6_a := le_on n1 bl4
      have r6_l := (r3_l).on bl4
      have l6 := le_tr l3 bl4
      clear n1 r3_l l3
      clear bl4
      go_wp2_with fail
      (with_reducible refine (alive_c _).mono ?_)
      rintro e w7 ⟨rfl, b7⟩
      have r9_a := le_on r6_a b7
      have r9_b := le_on n4 b7
      have r9_l := (r6_l).on b7
      have l9 := le_tr l6 b7
      clear r6_a n4 r6_l l6
      clear b7
      have c10 : w7.cell? ⟨g1, 9, none⟩ = some (.string (a.cg)) := CB.cell r9_a 9
      have c11 : w7.cell? ⟨g4, 9, none⟩ = some (.string (b.cg)) := CB.cell r9_b 9
      go_wp2_with (first | (first | ((with_reducible refine st_load 25 _ g1 ?_ r9_a Try.underlying25 ?_ ?_ ?_); exact rfl; exact rfl; exact Try.zNr) | ((with_reducible refine st_loadG 25 _ g1 ?_ r9_a Try.underlying25 ?_ ?_ ?_ ?_); exact rfl; exact rfl; exact Try.zNr; exact rfl)))
      (with_reducible refine (theirs_c a _).mono ?_)
      rintro e w12 ⟨rfl, b12⟩
      clear c10 c11
      have r14_a := le_on r9_a b12
      have r14_b := le_on r9_b b12
      have r14_l := (r9_l).on b12
      have l14 := le_tr l9 b12
      clear r9_a r9_b r9_l l9
      clear b12
      go_wp2_with fail
      have lt15_a := CB.lt r14_a
      have lt15_b := CB.lt r14_b
      have lb15 : w.heap.size ≤ w12.heap.size := Below.size (B := w.heap.size) l14
      (with_reducible refine (enc_not a _ HIa.out HRa.out).mono ?_)
      rintro e w15 ⟨A901, q901, G901, rfl, h901, b15⟩
      have r17_a := le_on r14_a b15
      have r17_b := le_on r14_b b15
      have r17_l := (r14_l).on b15
      have l17 := le_tr l14 b15
      clear r14_a r14_b r14_l l14
      clear b15
      have na18 := SO.above h901 lt15_a
      have na19 := SO.above h901 lt15_b
      have sm15_x := SO.mono h901 lb15
      clear h901
      clear lb15 lt15_a lt15_b
      go_wp2_with (first | (first | ((with_reducible refine st_load 25 _ g4 ?_ r17_b Try.underlying25 ?_ ?_ ?_); exact rfl; exact rfl; exact Try.zNr) | ((with_reducible refine st_loadG 25 _ g4 ?_ r17_b Try.underlying25 ?_ ?_ ?_ ?_); exact rfl; exact rfl; exact Try.zNr; exact rfl)))
      (with_reducible refine (theirs_c b _).mono ?_)
      rintro e w20 ⟨rfl, b20⟩
      have r21_x := SO.on sm15_x b20
      have r22_a := le_on r17_a b20
      have r22_b := le_on r17_b b20
      have r22_l := (r17_l).on b20
      have l22 := le_tr l17 b20
      clear r17_a r17_b r17_l l17
      clear sm15_x
      clear b20
      go_wp2_with fail
      have lt23_a := CB.lt r22_a
      have lt23_b := CB.lt r22_b
      have lb23 : w.heap.size ≤ w20.heap.size := Below.size (B := w.heap.size) l22
      (with_reducible refine (enc_yes b kb _ HIb.out HRb.out HKb.out).mono ?_)
      rintro e w23 ⟨A902, q902, G902, rfl, h902, b23⟩
      have r24_x := SO.on r21_x b23
      have r25_a := le_on r22_a b23
      have r25_b := le_on r22_b b23
      have r25_l := (r22_l).on b23
      have l25 := le_tr l22 b23
      clear r22_a r22_b r22_l l22
      clear r21_x
      clear b23
      have na26 := SO.above h902 lt23_a
      have na27 := SO.above h902 lt23_b
      have sm23_y := SO.mono h902 lb23
      clear h902
      clear lb23 lt23_a lt23_b
      go_wp2_with fail
      (with_reducible refine (dec_no_c HD.out _ _ _ _ r25_l.rr).mono ?_)
      rintro e w28 ⟨rfl, b28⟩
      have r29_x := SO.on r24_x b28
      have r29_y := SO.on sm23_y b28
      have r30_a := le_on r25_a b28
      have r30_b := le_on r25_b b28
      have r30_l := (r25_l).on b28
      have l30 := le_tr l25 b28
      clear r25_a r25_b r25_l l25
      clear r24_x sm23_y
      clear b28
      go_wp2_with (first | ((with_reducible refine st_alloc 33 (ntA zN) ?_ ?_); exact zero_nc))
      refine ⟨fun V31 g31 n31 f31 => ?_⟩
      have ne31_a := f31.ne r30_a
      have ne31_b := f31.ne r30_b
      have no31_x := SO.fresh r29_x (Nat.le_of_eq f31.at_)
      have no31_y := SO.fresh r29_y (Nat.le_of_eq f31.at_)
      have up31 : w.heap.size ≤ g31 := f31.up l30
      have bl31 := f31.bel
      clear f31
      have r32_x := SO.on r29_x bl31
      have r32_y := SO.on r29_y bl31
      have r33_a := le_on r30_a bl31
      have r33_b := le_on r30_b bl31
      have r33_l := (r30_l).on bl31
      have l33 := le_tr l30 bl31
      clear r30_a r30_b r30_l l30
      clear r29_x r29_y
      clear bl31
      go_wp2_with (first | ((with_reducible refine st_store 33 _ _ g31 (ntA zN) ?_ ?_ n31 ?_ ?_ ?_ ?_); exact rfl; exact rfl; exact Try.zNc; exact rfl; exact ntA_one _))
      refine ⟨fun V34 n34 k34 => ?_⟩
      have m34_a := k34.on r33_a ne31_a
      have m34_b := k34.on r33_b ne31_b
      have m34_l := (r33_l).wr k34 up31
      have m34_x := SO.wr r32_x k34 no31_x
      have m34_y := SO.wr r32_y k34 no31_y
      have o34 := k34.bel _ _ l33 up31
      clear k34
      clear n31 r33_a r33_b r33_l r32_x r32_y l33
      go_wp2_with fail
      have y35 := Lib.hid (show (fun V : World => True) V34.drew from trivial)
      refine wp_region_held_drew (S := (fun V : World => True)) (by kernel_rfl) y35.out (fun hHeld => ?_)
      obtain ⟨D35, hD35⟩ : ∃ V, V34.drew = V := ⟨_, rfl⟩
      have b35 : Below V34.heap.size V34 D35 := by rw [← hD35]; exact le_dr (Below.refl _ _)
      rw [hD35]
      clear hD35
      have r36_x := SO.on m34_x b35
      have r36_y := SO.on m34_y b35
      have r37_a := le_on m34_a b35
      have r37_b := le_on m34_b b35
      have r37_u := le_on n34 b35
      have r37_l := (m34_l).on b35
      have l37 := le_tr o34 b35
      clear m34_a m34_b n34 m34_l o34
      clear m34_x m34_y
      clear b35
      refine wpAnyH_takeL (i := 0) (d := some 84) (v := .int .i64 2) rfl rfl (by kernel_rfl) (by kernel_rfl) (by kernel_rfl) (fun _ _ _ h => h) (Or.inl ⟨by rfl, ?_⟩) hHeld ?_
      · intro w hSw; (try dsimp only at hSw); go_simp
      try simp only [Act.put, List.setIfInBounds_toArray, List.set_cons_zero, List.set_cons_succ]
      refine wpAnyH_takeL (i := 1) (d := some 85) (v := .bool true) rfl rfl (by kernel_rfl) (by kernel_rfl) (by kernel_rfl) (fun _ _ _ h => h) (Or.inl ⟨by rfl, ?_⟩) hHeld ?_
      · intro w hSw; (try dsimp only at hSw); go_simp
      try simp only [Act.put, List.setIfInBounds_toArray, List.set_cons_zero, List.set_cons_succ]
      refine wpAnyH_takeL (i := 2) (d := some 86) (v := .bool true) rfl rfl (by kernel_rfl) (by kernel_rfl) (by kernel_rfl) (fun _ _ _ h => h) (Or.inl ⟨by rfl, ?_⟩) hHeld ?_
      · intro w hSw; (try dsimp only at hSw); go_simp
      try simp only [Act.put, List.setIfInBounds_toArray, List.set_cons_zero, List.set_cons_succ]
      refine wpAnyH_takeL (i := 3) (d := some 87) (v := undef) rfl rfl (by kernel_rfl) (by kernel_rfl) (by kernel_rfl) (fun _ _ _ h => h) (Or.inr ⟨by kernel_rfl, rfl⟩) hHeld ?_
      try simp only [Act.put, List.setIfInBounds_toArray, List.set_cons_zero, List.set_cons_succ]
      refine wpAnyH_takeL (i := 4) (d := some 88) (v := undef) rfl rfl (by kernel_rfl) (by kernel_rfl) (by kernel_rfl) (fun _ _ _ h => h) (Or.inr ⟨by kernel_rfl, rfl⟩) hHeld ?_
      try simp only [Act.put, List.setIfInBounds_toArray, List.set_cons_zero, List.set_cons_succ]
      refine wpAnyH_takeL (i := 5) (d := some 89) (v := .bool true) rfl rfl (by kernel_rfl) (by kernel_rfl) (by kernel_rfl) (fun _ _ _ h => h) (Or.inl ⟨by rfl, ?_⟩) hHeld ?_
      · intro w hSw; (try dsimp only at hSw); go_simp
      try simp only [Act.put, List.setIfInBounds_toArray, List.set_cons_zero, List.set_cons_succ]
      refine wpAnyH_takeL (i := 6) (d := some 90) (v := .bool true) rfl rfl (by kernel_rfl) (by kernel_rfl) (by kernel_rfl) (fun _ _ _ h => h) (Or.inl ⟨by rfl, ?_⟩) hHeld ?_
      · intro w hSw; (try dsimp only at hSw); go_simp
      try simp only [Act.put, List.setIfInBounds_toArray, List.set_cons_zero, List.set_cons_succ]
      refine wpAnyH_takeL (i := 7) (d := some 91) (v := undef) rfl rfl (by kernel_rfl) (by kernel_rfl) (by kernel_rfl) (fun _ _ _ h => h) (Or.inr ⟨by kernel_rfl, rfl⟩) hHeld ?_
      try simp only [Act.put, List.setIfInBounds_toArray, List.set_cons_zero, List.set_cons_succ]
      refine wpAnyH_takeL (i := 8) (d := some 92) (v := undef) rfl rfl (by kernel_rfl) (by kernel_rfl) (by kernel_rfl) (fun _ _ _ h => h) (Or.inr ⟨by kernel_rfl, rfl⟩) hHeld ?_
      try simp only [Act.put, List.setIfInBounds_toArray, List.set_cons_zero, List.set_cons_succ]
      refine wpAnyH_takeL (i := 9) (d := some 93) (v := undef) rfl rfl (by kernel_rfl) (by kernel_rfl) (by kernel_rfl) (fun _ _ _ h => h) (Or.inr ⟨by kernel_rfl, rfl⟩) hHeld ?_
      try simp only [Act.put, List.setIfInBounds_toArray, List.set_cons_zero, List.set_cons_succ]
      refine wpAnyH_takeL (i := 10) (d := some 94) (v := undef) rfl rfl (by kernel_rfl) (by kernel_rfl) (by kernel_rfl) (fun _ _ _ h => h) (Or.inr ⟨by kernel_rfl, rfl⟩) hHeld ?_
      try simp only [Act.put, List.setIfInBounds_toArray, List.set_cons_zero, List.set_cons_succ]
      refine wpAnyH_takeL (i := 11) (d := some 95) (v := undef) rfl rfl (by kernel_rfl) (by kernel_rfl) (by kernel_rfl) (fun _ _ _ h => h) (Or.inr ⟨by kernel_rfl, rfl⟩) hHeld ?_
      try simp only [Act.put, List.setIfInBounds_toArray, List.set_cons_zero, List.set_cons_succ]
      refine wpAnyH_takeL (i := 12) (d := some 96) (v := undef) rfl rfl (by kernel_rfl) (by kernel_rfl) (by kernel_rfl) (fun _ _ _ h => h) (Or.inr ⟨by kernel_rfl, rfl⟩) hHeld ?_
      try simp only [Act.put, List.setIfInBounds_toArray, List.set_cons_zero, List.set_cons_succ]
      refine wpAnyH_takeL (i := 13) (d := some 97) (v := undef) rfl rfl (by kernel_rfl) (by kernel_rfl) (by kernel_rfl) (fun _ _ _ h => h) (Or.inr ⟨by kernel_rfl, rfl⟩) hHeld ?_
      try simp only [Act.put, List.setIfInBounds_toArray, List.set_cons_zero, List.set_cons_succ]
      refine wpAnyH_takeL (i := 14) (d := some 98) (v := undef) rfl rfl (by kernel_rfl) (by kernel_rfl) (by kernel_rfl) (fun _ _ _ h => h) (Or.inr ⟨by kernel_rfl, rfl⟩) hHeld ?_
      try simp only [Act.put, List.setIfInBounds_toArray, List.set_cons_zero, List.set_cons_succ]
      refine wpAnyH_takeL (i := 15) (d := some 99) (v := undef) rfl rfl (by kernel_rfl) (by kernel_rfl) (by kernel_rfl) (fun _ _ _ h => h) (Or.inr ⟨by kernel_rfl, rfl⟩) hHeld ?_
      try simp only [Act.put, List.setIfInBounds_toArray, List.set_cons_zero, List.set_cons_succ]
      refine wpAnyH_takeL (i := 16) (d := some 100) (v := .bool true) rfl rfl (by kernel_rfl) (by kernel_rfl) (by kernel_rfl) (fun _ _ _ h => h) (Or.inl ⟨by rfl, ?_⟩) hHeld ?_
      · intro w hSw; (try dsimp only at hSw); go_simp
      try simp only [Act.put, List.setIfInBounds_toArray, List.set_cons_zero, List.set_cons_succ]
      refine wpAnyH_takeL (i := 17) (d := some 6) (v := .bool true) rfl rfl (by kernel_rfl) (by kernel_rfl) (by kernel_rfl) (fun _ _ _ h => h) (Or.inl ⟨by rfl, ?_⟩) hHeld ?_
      · intro w hSw; (try dsimp only at hSw); go_simp
      try simp only [Act.put, List.setIfInBounds_toArray, List.set_cons_zero, List.set_cons_succ]
      refine wpAnyH_done (by kernel_rfl) ?_ _
      go_wp2_with fail
      go_ret
      exact ⟨rfl, l37⟩
    | some d =>
      obtain ⟨kb, hkb⟩ : ∃ k, 25 + b.cg.size = k := ⟨_, rfl⟩
      have HKb := Lib.hid hkb
      clear hkb
      obtain ⟨hid_, hrd, hed⟩ := Dk.dNt_some.1 hd
      obtain ⟨kd, hkd⟩ : ∃ k, 25 + d.cg.size = k := ⟨_, rfl⟩
      have HKd := Lib.hid hkd
      have HId := Lib.hid hid_
      have HRd := Lib.hid hrd
      have HEd := Lib.hid hed
      clear hkd hid_ hrd hed
      have qd : ((Dk.mkS (Dk.byN d)).toList == (Dk.mkS bs).toList) = true := by rw [← HEd.out]; exact beq_self_eq_true _
      have HD := Lib.hid hd
      have HIa := Lib.hid hia
      have HIb := Lib.hid hib
      have HRa := Lib.hid hra
      have HRb := Lib.hid hrb
      clear hd hia hib hra hrb
      go_enter Try.func4, Try.ntmps4
      go_wp2_with (first | ((with_reducible refine st_box 25 _ (ntA a) ?_ ?_); exact rfl))
      refine ⟨fun V1 g1 n1 f1 => ?_⟩
      have up1 : w.heap.size ≤ g1 := Nat.le_of_eq f1.at_
      have bl1 := f1.bel
      clear f1
      have r3_l := (hl).on bl1
      have l3 := le_tr (Below.refl _ _) bl1
      clear hl
      clear bl1
      go_wp2_with (first | ((with_reducible refine st_box 25 _ (ntA b) ?_ ?_); exact rfl))
      refine ⟨fun V4 g4 n4 f4 => ?_⟩
      have ne4_a := f4.ne n1
      have up4 : w.heap.size ≤ g4 := f4.up l3
      have bl4 := f4.bel
      clear f4
      have r6_a := le_on n1 bl4
      have r6_l := (r3_l).on bl4
      have l6 := le_tr l3 bl4
      clear n1 r3_l l3
      clear bl4
      go_wp2_with fail
      (with_reducible refine (alive_c _).mono ?_)
      rintro e w7 ⟨rfl, b7⟩
      have r9_a := le_on r6_a b7
      have r9_b := le_on n4 b7
      have r9_l := (r6_l).on b7
      have l9 := le_tr l6 b7
      clear r6_a n4 r6_l l6
      clear b7
      have c10 : w7.cell? ⟨g1, 9, none⟩ = some (.string (a.cg)) := CB.cell r9_a 9
      have c11 : w7.cell? ⟨g4, 9, none⟩ = some (.string (b.cg)) := CB.cell r9_b 9
      go_wp2_with (first | (first | ((with_reducible refine st_load 25 _ g1 ?_ r9_a Try.underlying25 ?_ ?_ ?_); exact rfl; exact rfl; exact Try.zNr) | ((with_reducible refine st_loadG 25 _ g1 ?_ r9_a Try.underlying25 ?_ ?_ ?_ ?_); exact rfl; exact rfl; exact Try.zNr; exact rfl)))
      (with_reducible refine (theirs_c a _).mono ?_)
      rintro e w12 ⟨rfl, b12⟩
      clear c10 c11
      have r14_a := le_on r9_a b12
      have r14_b := le_on r9_b b12
      have r14_l := (r9_l).on b12
      have l14 := le_tr l9 b12
      clear r9_a r9_b r9_l l9
      clear b12
      go_wp2_with fail
      have lt15_a := CB.lt r14_a
      have lt15_b := CB.lt r14_b
      have lb15 : w.heap.size ≤ w12.heap.size := Below.size (B := w.heap.size) l14
      (with_reducible refine (enc_not a _ HIa.out HRa.out).mono ?_)
      rintro e w15 ⟨A901, q901, G901, rfl, h901, b15⟩
      have r17_a := le_on r14_a b15
      have r17_b := le_on r14_b b15
      have r17_l := (r14_l).on b15
      have l17 := le_tr l14 b15
      clear r14_a r14_b r14_l l14
      clear b15
      have na18 := SO.above h901 lt15_a
      have na19 := SO.above h901 lt15_b
      have sm15_x := SO.mono h901 lb15
      clear h901
      clear lb15 lt15_a lt15_b
      go_wp2_with (first | (first | ((with_reducible refine st_load 25 _ g4 ?_ r17_b Try.underlying25 ?_ ?_ ?_); exact rfl; exact rfl; exact Try.zNr) | ((with_reducible refine st_loadG 25 _ g4 ?_ r17_b Try.underlying25 ?_ ?_ ?_ ?_); exact rfl; exact rfl; exact Try.zNr; exact rfl)))
      (with_reducible refine (theirs_c b _).mono ?_)
      rintro e w20 ⟨rfl, b20⟩
      have r21_x := SO.on sm15_x b20
      have r22_a := le_on r17_a b20
      have r22_b := le_on r17_b b20
      have r22_l := (r17_l).on b20
      have l22 := le_tr l17 b20
      clear r17_a r17_b r17_l l17
      clear sm15_x
      clear b20
      go_wp2_with fail
      have lt23_a := CB.lt r22_a
      have lt23_b := CB.lt r22_b
      have lb23 : w.heap.size ≤ w20.heap.size := Below.size (B := w.heap.size) l22
      (with_reducible refine (enc_yes b kb _ HIb.out HRb.out HKb.out).mono ?_)
      rintro e w23 ⟨A902, q902, G902, rfl, h902, b23⟩
      have r24_x := SO.on r21_x b23
      have r25_a := le_on r22_a b23
      have r25_b := le_on r22_b b23
      have r25_l := (r22_l).on b23
      have l25 := le_tr l22 b23
      clear r22_a r22_b r22_l l22
      clear r21_x
      clear b23
      have na26 := SO.above h902 lt23_a
      have na27 := SO.above h902 lt23_b
      have sm23_y := SO.mono h902 lb23
      clear h902
      clear lb23 lt23_a lt23_b
      go_wp2_with fail
      (with_reducible refine (dec_yes_c HD.out _ _ _ _ r25_l.rr).mono ?_)
      rintro e w28 ⟨rfl, b28⟩
      have r29_x := SO.on r24_x b28
      have r29_y := SO.on sm23_y b28
      have r30_a := le_on r25_a b28
      have r30_b := le_on r25_b b28
      have r30_l := (r25_l).on b28
      have l30 := le_tr l25 b28
      clear r25_a r25_b r25_l l25
      clear r24_x sm23_y
      clear b28
      go_wp2_with (first | ((with_reducible refine st_alloc 33 (ntA zN) ?_ ?_); exact zero_nc))
      refine ⟨fun V31 g31 n31 f31 => ?_⟩
      have ne31_a := f31.ne r30_a
      have ne31_b := f31.ne r30_b
      have no31_x := SO.fresh r29_x (Nat.le_of_eq f31.at_)
      have no31_y := SO.fresh r29_y (Nat.le_of_eq f31.at_)
      have up31 : w.heap.size ≤ g31 := f31.up l30
      have bl31 := f31.bel
      clear f31
      have r32_x := SO.on r29_x bl31
      have r32_y := SO.on r29_y bl31
      have r33_a := le_on r30_a bl31
      have r33_b := le_on r30_b bl31
      have r33_l := (r30_l).on bl31
      have l33 := le_tr l30 bl31
      clear r30_a r30_b r30_l l30
      clear r29_x r29_y
      clear bl31
      go_wp2_with (first | ((with_reducible refine st_store 33 _ _ g31 (ntA d) ?_ ?_ n31 ?_ ?_ ?_ ?_); exact rfl; exact rfl; exact Try.zNc; exact rfl; exact ntA_one _))
      refine ⟨fun V34 n34 k34 => ?_⟩
      have m34_a := k34.on r33_a ne31_a
      have m34_b := k34.on r33_b ne31_b
      have m34_l := (r33_l).wr k34 up31
      have m34_x := SO.wr r32_x k34 no31_x
      have m34_y := SO.wr r32_y k34 no31_y
      have o34 := k34.bel _ _ l33 up31
      clear k34
      clear n31 r33_a r33_b r33_l r32_x r32_y l33
      go_wp2_with (first | (first | ((with_reducible refine st_load 33 _ g31 ?_ n34 Try.underlying33 ?_ ?_ ?_); exact rfl; exact rfl; exact Try.zNc) | ((with_reducible refine st_loadG 33 _ g31 ?_ n34 Try.underlying33 ?_ ?_ ?_ ?_); exact rfl; exact rfl; exact Try.zNc; exact rfl)))
      have lt35_a := CB.lt m34_a
      have lt35_b := CB.lt m34_b
      have lt35_u := CB.lt n34
      have lb35 : w.heap.size ≤ V34.heap.size := Below.size (B := w.heap.size) o34
      (with_reducible refine (enc_yes d kd _ HId.out HRd.out HKd.out).mono ?_)
      rintro e w35 ⟨A903, q903, G903, rfl, h903, b35⟩
      have r36_x := SO.on m34_x b35
      have r36_y := SO.on m34_y b35
      have r37_a := le_on m34_a b35
      have r37_b := le_on m34_b b35
      have r37_u := le_on n34 b35
      have r37_l := (m34_l).on b35
      have l37 := le_tr o34 b35
      clear m34_a m34_b n34 m34_l o34
      clear m34_x m34_y
      clear b35
      have na38 := SO.above h903 lt35_a
      have na39 := SO.above h903 lt35_b
      have na40 := SO.above h903 lt35_u
      have sm35_z := SO.mono h903 lb35
      clear h903
      clear lb35 lt35_a lt35_b lt35_u
      have v1 := conv_C _ _ _ _ _ (SO.rr sm35_z)
      have v2 := conv_C _ _ _ _ _ (RL.rr r37_l)
      go_wp2_with fail
      clear v1 v2
      have y41 := Lib.hid (show (fun V : World => True) w35.drew from trivial)
      refine wp_region_held_drew (S := (fun V : World => True)) (by kernel_rfl) y41.out (fun hHeld => ?_)
      obtain ⟨D41, hD41⟩ : ∃ V, w35.drew = V := ⟨_, rfl⟩
      have b41 : Below w35.heap.size w35 D41 := by rw [← hD41]; exact le_dr (Below.refl _ _)
      rw [hD41]
      clear hD41
      have r42_x := SO.on r36_x b41
      have r42_y := SO.on r36_y b41
      have r42_z := SO.on sm35_z b41
      have r43_a := le_on r37_a b41
      have r43_b := le_on r37_b b41
      have r43_u := le_on r37_u b41
      have r43_l := (r37_l).on b41
      have l43 := le_tr l37 b41
      clear r37_a r37_b r37_u r37_l l37
      clear r36_x r36_y sm35_z
      clear b41
      refine wpAnyH_takeL (i := 0) (d := some 84) (v := .int .i64 2) rfl rfl (by kernel_rfl) (by kernel_rfl) (by kernel_rfl) (fun _ _ _ h => h) (Or.inl ⟨by rfl, ?_⟩) hHeld ?_
      · intro w hSw; (try dsimp only at hSw); go_simp
      try simp only [Act.put, List.setIfInBounds_toArray, List.set_cons_zero, List.set_cons_succ]
      refine wpAnyH_takeL (i := 1) (d := some 85) (v := .bool true) rfl rfl (by kernel_rfl) (by kernel_rfl) (by kernel_rfl) (fun _ _ _ h => h) (Or.inl ⟨by rfl, ?_⟩) hHeld ?_
      · intro w hSw; (try dsimp only at hSw); go_simp
      try simp only [Act.put, List.setIfInBounds_toArray, List.set_cons_zero, List.set_cons_succ]
      refine wpAnyH_takeL (i := 2) (d := some 86) (v := .bool true) rfl rfl (by kernel_rfl) (by kernel_rfl) (by kernel_rfl) (fun _ _ _ h => h) (Or.inl ⟨by rfl, ?_⟩) hHeld ?_
      · intro w hSw; (try dsimp only at hSw); go_simp
      try simp only [Act.put, List.setIfInBounds_toArray, List.set_cons_zero, List.set_cons_succ]
      refine wpAnyH_takeL (i := 3) (d := some 87) (v := undef) rfl rfl (by kernel_rfl) (by kernel_rfl) (by kernel_rfl) (fun _ _ _ h => h) (Or.inr ⟨by kernel_rfl, rfl⟩) hHeld ?_
      try simp only [Act.put, List.setIfInBounds_toArray, List.set_cons_zero, List.set_cons_succ]
      refine wpAnyH_takeL (i := 4) (d := some 88) (v := undef) rfl rfl (by kernel_rfl) (by kernel_rfl) (by kernel_rfl) (fun _ _ _ h => h) (Or.inr ⟨by kernel_rfl, rfl⟩) hHeld ?_
      try simp only [Act.put, List.setIfInBounds_toArray, List.set_cons_zero, List.set_cons_succ]
      refine wpAnyH_takeL (i := 5) (d := some 89) (v := .bool true) rfl rfl (by kernel_rfl) (by kernel_rfl) (by kernel_rfl) (fun _ _ _ h => h) (Or.inl ⟨by rfl, ?_⟩) hHeld ?_
      · intro w hSw; (try dsimp only at hSw); go_simp
      try simp only [Act.put, List.setIfInBounds_toArray, List.set_cons_zero, List.set_cons_succ]
      refine wpAnyH_takeL (i := 6) (d := some 90) (v := .bool true) rfl rfl (by kernel_rfl) (by kernel_rfl) (by kernel_rfl) (fun _ _ _ h => h) (Or.inl ⟨by rfl, ?_⟩) hHeld ?_
      · intro w hSw; (try dsimp only at hSw); go_simp
      try simp only [Act.put, List.setIfInBounds_toArray, List.set_cons_zero, List.set_cons_succ]
      refine wpAnyH_takeL (i := 7) (d := some 91) (v := undef) rfl rfl (by kernel_rfl) (by kernel_rfl) (by kernel_rfl) (fun _ _ _ h => h) (Or.inr ⟨by kernel_rfl, rfl⟩) hHeld ?_
      try simp only [Act.put, List.setIfInBounds_toArray, List.set_cons_zero, List.set_cons_succ]
      refine wpAnyH_takeL (i := 8) (d := some 92) (v := undef) rfl rfl (by kernel_rfl) (by kernel_rfl) (by kernel_rfl) (fun _ _ _ h => h) (Or.inr ⟨by kernel_rfl, rfl⟩) hHeld ?_
      try simp only [Act.put, List.setIfInBounds_toArray, List.set_cons_zero, List.set_cons_succ]
      refine wpAnyH_takeL (i := 9) (d := some 93) (v := undef) rfl rfl (by kernel_rfl) (by kernel_rfl) (by kernel_rfl) (fun _ _ _ h => h) (Or.inr ⟨by kernel_rfl, rfl⟩) hHeld ?_
      try simp only [Act.put, List.setIfInBounds_toArray, List.set_cons_zero, List.set_cons_succ]
      refine wpAnyH_takeL (i := 10) (d := some 94) (v := undef) rfl rfl (by kernel_rfl) (by kernel_rfl) (by kernel_rfl) (fun _ _ _ h => h) (Or.inr ⟨by kernel_rfl, rfl⟩) hHeld ?_
      try simp only [Act.put, List.setIfInBounds_toArray, List.set_cons_zero, List.set_cons_succ]
      refine wpAnyH_takeL (i := 11) (d := some 95) (v := undef) rfl rfl (by kernel_rfl) (by kernel_rfl) (by kernel_rfl) (fun _ _ _ h => h) (Or.inr ⟨by kernel_rfl, rfl⟩) hHeld ?_
      try simp only [Act.put, List.setIfInBounds_toArray, List.set_cons_zero, List.set_cons_succ]
      refine wpAnyH_takeL (i := 12) (d := some 96) (v := undef) rfl rfl (by kernel_rfl) (by kernel_rfl) (by kernel_rfl) (fun _ _ _ h => h) (Or.inr ⟨by kernel_rfl, rfl⟩) hHeld ?_
      try simp only [Act.put, List.setIfInBounds_toArray, List.set_cons_zero, List.set_cons_succ]
      refine wpAnyH_takeL (i := 13) (d := some 97) (v := undef) rfl rfl (by kernel_rfl) (by kernel_rfl) (by kernel_rfl) (fun _ _ _ h => h) (Or.inr ⟨by kernel_rfl, rfl⟩) hHeld ?_
      try simp only [Act.put, List.setIfInBounds_toArray, List.set_cons_zero, List.set_cons_succ]
      refine wpAnyH_takeL (i := 14) (d := some 98) (v := undef) rfl rfl (by kernel_rfl) (by kernel_rfl) (by kernel_rfl) (fun _ _ _ h => h) (Or.inr ⟨by kernel_rfl, rfl⟩) hHeld ?_
      try simp only [Act.put, List.setIfInBounds_toArray, List.set_cons_zero, List.set_cons_succ]
      refine wpAnyH_takeL (i := 15) (d := some 99) (v := undef) rfl rfl (by kernel_rfl) (by kernel_rfl) (by kernel_rfl) (fun _ _ _ h => h) (Or.inr ⟨by kernel_rfl, rfl⟩) hHeld ?_
      try simp only [Act.put, List.setIfInBounds_toArray, List.set_cons_zero, List.set_cons_succ]
      refine wpAnyH_takeL (i := 16) (d := some 100) (v := .bool true) rfl rfl (by kernel_rfl) (by kernel_rfl) (by kernel_rfl) (fun _ _ _ h => h) (Or.inl ⟨by rfl, ?_⟩) hHeld ?_
      · intro w hSw; (try dsimp only at hSw); go_simp
      try simp only [Act.put, List.setIfInBounds_toArray, List.set_cons_zero, List.set_cons_succ]
      refine wpAnyH_takeL (i := 17) (d := some 6) (v := .bool true) rfl rfl (by kernel_rfl) (by kernel_rfl) (by kernel_rfl) (fun _ _ _ h => h) (Or.inl ⟨by rfl, ?_⟩) hHeld ?_
      · intro w hSw; (try dsimp only at hSw); go_simp
      try simp only [Act.put, List.setIfInBounds_toArray, List.set_cons_zero, List.set_cons_succ]
      refine wpAnyH_done (by kernel_rfl) ?_ _
      go_wp2_with fail
      go_ret
      exact ⟨rfl, l43⟩
  · skip
    cases hd : Dk.dNt bs with
    | none =>
      have HD := Lib.hid hd
      have HIa := Lib.hid hia
      have HIb := Lib.hid hib
      have HRa := Lib.hid hra
      have HRb := Lib.hid hrb
      clear hd hia hib hra hrb
      go_enter Try.func4, Try.ntmps4
      go_wp2_with (first | ((with_reducible refine st_box 25 _ (ntA a) ?_ ?_); exact rfl))
      refine ⟨fun V1 g1 n1 f1 => ?_⟩
      have up1 : w.heap.size ≤ g1 := Nat.le_of_eq f1.at_
      have bl1 := f1.bel
      clear f1
      have r3_l := (hl).on bl1
      have l3 := le_tr (Below.refl _ _) bl1
      clear hl
      clear bl1
      go_wp2_with (first | ((with_reducible refine st_box 25 _ (ntA b) ?_ ?_); exact rfl))
      refine ⟨fun V4 g4 n4 f4 => ?_⟩
      have ne4_a := f4.ne n1
      have up4 : w.heap.size ≤ g4 := f4.up l3
      have bl4 := f4.bel
      clear f4
      have r6_a := le_on n1 bl4
      have r6_l := (r3_l).on bl4
      have l6 := le_tr l3 bl4
      clear n1 r3_l l3
      clear bl4
      go_wp2_with fail
      (with_reducible refine (alive_c _).mono ?_)
      rintro e w7 ⟨rfl, b7⟩
      have r9_a := le_on r6_a b7
      have r9_b := le_on n4 b7
      have r9_l := (r6_l).on b7
      have l9 := le_tr l6 b7
      clear r6_a n4 r6_l l6
      clear b7
      have c10 : w7.cell? ⟨g1, 9, none⟩ = some (.string (a.cg)) := CB.cell r9_a 9
      have c11 : w7.cell? ⟨g4, 9, none⟩ = some (.string (b.cg)) := CB.cell r9_b 9
      go_wp2_with (first | (first | ((with_reducible refine st_load 25 _ g1 ?_ r9_a Try.underlying25 ?_ ?_ ?_); exact rfl; exact rfl; exact Try.zNr) | ((with_reducible refine st_loadG 25 _ g1 ?_ r9_a Try.underlying25 ?_ ?_ ?_ ?_); exact rfl; exact rfl; exact Try.zNr; exact rfl)))
      (with_reducible refine (theirs_c a _).mono ?_)
      rintro e w12 ⟨rfl, b12⟩
      clear c10 c11
      have r14_a := le_on r9_a b12
      have r14_b := le_on r9_b b12
      have r14_l := (r9_l).on b12
      have l14 := le_tr l9 b12
      clear r9_a r9_b r9_l l9
      clear b12
      go_wp2_with fail
      have lt15_a := CB.lt r14_a
      have lt15_b := CB.lt r14_b
      have lb15 : w.heap.size ≤ w12.heap.size := Below.size (B := w.heap.size) l14
      (with_reducible refine (enc_not a _ HIa.out HRa.out).mono ?_)
      rintro e w15 ⟨A901, q901, G901, rfl, h901, b15⟩
      have r17_a := le_on r14_a b15
      have r17_b := le_on r14_b b15
      have r17_l := (r14_l).on b15
      have l17 := le_tr l14 b15
      clear r14_a r14_b r14_l l14
      clear b15
      have na18 := SO.above h901 lt15_a
      have na19 := SO.above h901 lt15_b
      have sm15_x := SO.mono h901 lb15
      clear h901
      clear lb15 lt15_a lt15_b
      go_wp2_with (first | (first | ((with_reducible refine st_load 25 _ g4 ?_ r17_b Try.underlying25 ?_ ?_ ?_); exact rfl; exact rfl; exact Try.zNr) | ((with_reducible refine st_loadG 25 _ g4 ?_ r17_b Try.underlying25 ?_ ?_ ?_ ?_); exact rfl; exact rfl; exact Try.zNr; exact rfl)))
      (with_reducible refine (theirs_c b _).mono ?_)
      rintro e w20 ⟨rfl, b20⟩
      have r21_x := SO.on sm15_x b20
      have r22_a := le_on r17_a b20
      have r22_b := le_on r17_b b20
      have r22_l := (r17_l).on b20
      have l22 := le_tr l17 b20
      clear r17_a r17_b r17_l l17
      clear sm15_x
      clear b20
      go_wp2_with fail
      have lt23_a := CB.lt r22_a
      have lt23_b := CB.lt r22_b
      have lb23 : w.heap.size ≤ w20.heap.size := Below.size (B := w.heap.size) l22
      (with_reducible refine (enc_not b _ HIb.out HRb.out).mono ?_)
      rintro e w23 ⟨A902, q902, G902, rfl, h902, b23⟩
      have r24_x := SO.on r21_x b23
      have r25_a := le_on r22_a b23
      have r25_b := le_on r22_b b23
      have r25_l := (r22_l).on b23
      have l25 := le_tr l22 b23
      clear r22_a r22_b r22_l l22
      clear r21_x
      clear b23
      have na26 := SO.above h902 lt23_a
      have na27 := SO.above h902 lt23_b
      have sm23_y := SO.mono h902 lb23
      clear h902
      clear lb23 lt23_a lt23_b
      go_wp2_with fail
      (with_reducible refine (dec_no_c HD.out _ _ _ _ r25_l.rr).mono ?_)
      rintro e w28 ⟨rfl, b28⟩
      have r29_x := SO.on r24_x b28
      have r29_y := SO.on sm23_y b28
      have r30_a := le_on r25_a b28
      have r30_b := le_on r25_b b28
      have r30_l := (r25_l).on b28
      have l30 := le_tr l25 b28
      clear r25_a r25_b r25_l l25
      clear r24_x sm23_y
      clear b28
      go_wp2_with (first | ((with_reducible refine st_alloc 33 (ntA zN) ?_ ?_); exact zero_nc))
      refine ⟨fun V31 g31 n31 f31 => ?_⟩
      have ne31_a := f31.ne r30_a
      have ne31_b := f31.ne r30_b
      have no31_x := SO.fresh r29_x (Nat.le_of_eq f31.at_)
      have no31_y := SO.fresh r29_y (Nat.le_of_eq f31.at_)
      have up31 : w.heap.size ≤ g31 := f31.up l30
      have bl31 := f31.bel
      clear f31
      have r32_x := SO.on r29_x bl31
      have r32_y := SO.on r29_y bl31
      have r33_a := le_on r30_a bl31
      have r33_b := le_on r30_b bl31
      have r33_l := (r30_l).on bl31
      have l33 := le_tr l30 bl31
      clear r30_a r30_b r30_l l30
      clear r29_x r29_y
      clear bl31
      go_wp2_with (first | ((with_reducible refine st_store 33 _ _ g31 (ntA zN) ?_ ?_ n31 ?_ ?_ ?_ ?_); exact rfl; exact rfl; exact Try.zNc; exact rfl; exact ntA_one _))
      refine ⟨fun V34 n34 k34 => ?_⟩
      have m34_a := k34.on r33_a ne31_a
      have m34_b := k34.on r33_b ne31_b
      have m34_l := (r33_l).wr k34 up31
      have m34_x := SO.wr r32_x k34 no31_x
      have m34_y := SO.wr r32_y k34 no31_y
      have o34 := k34.bel _ _ l33 up31
      clear k34
      clear n31 r33_a r33_b r33_l r32_x r32_y l33
      go_wp2_with fail
      have y35 := Lib.hid (show (fun V : World => True) V34.drew from trivial)
      refine wp_region_held_drew (S := (fun V : World => True)) (by kernel_rfl) y35.out (fun hHeld => ?_)
      obtain ⟨D35, hD35⟩ : ∃ V, V34.drew = V := ⟨_, rfl⟩
      have b35 : Below V34.heap.size V34 D35 := by rw [← hD35]; exact le_dr (Below.refl _ _)
      rw [hD35]
      clear hD35
      have r36_x := SO.on m34_x b35
      have r36_y := SO.on m34_y b35
      have r37_a := le_on m34_a b35
      have r37_b := le_on m34_b b35
      have r37_u := le_on n34 b35
      have r37_l := (m34_l).on b35
      have l37 := le_tr o34 b35
      clear m34_a m34_b n34 m34_l o34
      clear m34_x m34_y
      clear b35
      refine wpAnyH_takeL (i := 0) (d := some 84) (v := .int .i64 2) rfl rfl (by kernel_rfl) (by kernel_rfl) (by kernel_rfl) (fun _ _ _ h => h) (Or.inl ⟨by rfl, ?_⟩) hHeld ?_
      · intro w hSw; (try dsimp only at hSw); go_simp
      try simp only [Act.put, List.setIfInBounds_toArray, List.set_cons_zero, List.set_cons_succ]
      refine wpAnyH_takeL (i := 1) (d := some 85) (v := .bool true) rfl rfl (by kernel_rfl) (by kernel_rfl) (by kernel_rfl) (fun _ _ _ h => h) (Or.inl ⟨by rfl, ?_⟩) hHeld ?_
      · intro w hSw; (try dsimp only at hSw); go_simp
      try simp only [Act.put, List.setIfInBounds_toArray, List.set_cons_zero, List.set_cons_succ]
      refine wpAnyH_takeL (i := 2) (d := some 86) (v := .bool true) rfl rfl (by kernel_rfl) (by kernel_rfl) (by kernel_rfl) (fun _ _ _ h => h) (Or.inl ⟨by rfl, ?_⟩) hHeld ?_
      · intro w hSw; (try dsimp only at hSw); go_simp
      try simp only [Act.put, List.setIfInBounds_toArray, List.set_cons_zero, List.set_cons_succ]
      refine wpAnyH_takeL (i := 3) (d := some 87) (v := undef) rfl rfl (by kernel_rfl) (by kernel_rfl) (by kernel_rfl) (fun _ _ _ h => h) (Or.inr ⟨by kernel_rfl, rfl⟩) hHeld ?_
      try simp only [Act.put, List.setIfInBounds_toArray, List.set_cons_zero, List.set_cons_succ]
      refine wpAnyH_takeL (i := 4) (d := some 88) (v := undef) rfl rfl (by kernel_rfl) (by kernel_rfl) (by kernel_rfl) (fun _ _ _ h => h) (Or.inr ⟨by kernel_rfl, rfl⟩) hHeld ?_
      try simp only [Act.put, List.setIfInBounds_toArray, List.set_cons_zero, List.set_cons_succ]
      refine wpAnyH_takeL (i := 5) (d := some 89) (v := .bool true) rfl rfl (by kernel_rfl) (by kernel_rfl) (by kernel_rfl) (fun _ _ _ h => h) (Or.inl ⟨by rfl, ?_⟩) hHeld ?_
      · intro w hSw; (try dsimp only at hSw); go_simp
      try simp only [Act.put, List.setIfInBounds_toArray, List.set_cons_zero, List.set_cons_succ]
      refine wpAnyH_takeL (i := 6) (d := some 90) (v := .bool true) rfl rfl (by kernel_rfl) (by kernel_rfl) (by kernel_rfl) (fun _ _ _ h => h) (Or.inl ⟨by rfl, ?_⟩) hHeld ?_
      · intro w hSw; (try dsimp only at hSw); go_simp
      try simp only [Act.put, List.setIfInBounds_toArray, List.set_cons_zero, List.set_cons_succ]
      refine wpAnyH_takeL (i := 7) (d := some 91) (v := undef) rfl rfl (by kernel_rfl) (by kernel_rfl) (by kernel_rfl) (fun _ _ _ h => h) (Or.inr ⟨by kernel_rfl, rfl⟩) hHeld ?_
      try simp only [Act.put, List.setIfInBounds_toArray, List.set_cons_zero, List.set_cons_succ]
      refine wpAnyH_takeL (i := 8) (d := some 92) (v := undef) rfl rfl (by kernel_rfl) (by kernel_rfl) (by kernel_rfl) (fun _ _ _ h => h) (Or.inr ⟨by kernel_rfl, rfl⟩) hHeld ?_
      try simp only [Act.put, List.setIfInBounds_toArray, List.set_cons_zero, List.set_cons_succ]
      refine wpAnyH_takeL (i := 9) (d := some 93) (v := undef) rfl rfl (by kernel_rfl) (by kernel_rfl) (by kernel_rfl) (fun _ _ _ h => h) (Or.inr ⟨by kernel_rfl, rfl⟩) hHeld ?_
      try simp only [Act.put, List.setIfInBounds_toArray, List.set_cons_zero, List.set_cons_succ]
      refine wpAnyH_takeL (i := 10) (d := some 94) (v := undef) rfl rfl (by kernel_rfl) (by kernel_rfl) (by kernel_rfl) (fun _ _ _ h => h) (Or.inr ⟨by kernel_rfl, rfl⟩) hHeld ?_
      try simp only [Act.put, List.setIfInBounds_toArray, List.set_cons_zero, List.set_cons_succ]
      refine wpAnyH_takeL (i := 11) (d := some 95) (v := undef) rfl rfl (by kernel_rfl) (by kernel_rfl) (by kernel_rfl) (fun _ _ _ h => h) (Or.inr ⟨by kernel_rfl, rfl⟩) hHeld ?_
      try simp only [Act.put, List.setIfInBounds_toArray, List.set_cons_zero, List.set_cons_succ]
      refine wpAnyH_takeL (i := 12) (d := some 96) (v := undef) rfl rfl (by kernel_rfl) (by kernel_rfl) (by kernel_rfl) (fun _ _ _ h => h) (Or.inr ⟨by kernel_rfl, rfl⟩) hHeld ?_
      try simp only [Act.put, List.setIfInBounds_toArray, List.set_cons_zero, List.set_cons_succ]
      refine wpAnyH_takeL (i := 13) (d := some 97) (v := undef) rfl rfl (by kernel_rfl) (by kernel_rfl) (by kernel_rfl) (fun _ _ _ h => h) (Or.inr ⟨by kernel_rfl, rfl⟩) hHeld ?_
      try simp only [Act.put, List.setIfInBounds_toArray, List.set_cons_zero, List.set_cons_succ]
      refine wpAnyH_takeL (i := 14) (d := some 98) (v := undef) rfl rfl (by kernel_rfl) (by kernel_rfl) (by kernel_rfl) (fun _ _ _ h => h) (Or.inr ⟨by kernel_rfl, rfl⟩) hHeld ?_
      try simp only [Act.put, List.setIfInBounds_toArray, List.set_cons_zero, List.set_cons_succ]
      refine wpAnyH_takeL (i := 15) (d := some 99) (v := undef) rfl rfl (by kernel_rfl) (by kernel_rfl) (by kernel_rfl) (fun _ _ _ h => h) (Or.inr ⟨by kernel_rfl, rfl⟩) hHeld ?_
      try simp only [Act.put, List.setIfInBounds_toArray, List.set_cons_zero, List.set_cons_succ]
      refine wpAnyH_takeL (i := 16) (d := some 100) (v := .bool true) rfl rfl (by kernel_rfl) (by kernel_rfl) (by kernel_rfl) (fun _ _ _ h => h) (Or.inl ⟨by rfl, ?_⟩) hHeld ?_
      · intro w hSw; (try dsimp only at hSw); go_simp
      try simp only [Act.put, List.setIfInBounds_toArray, List.set_cons_zero, List.set_cons_succ]
      refine wpAnyH_takeL (i := 17) (d := some 6) (v := .bool true) rfl rfl (by kernel_rfl) (by kernel_rfl) (by kernel_rfl) (fun _ _ _ h => h) (Or.inl ⟨by rfl, ?_⟩) hHeld ?_
      · intro w hSw; (try dsimp only at hSw); go_simp
      try simp only [Act.put, List.setIfInBounds_toArray, List.set_cons_zero, List.set_cons_succ]
      refine wpAnyH_done (by kernel_rfl) ?_ _
      go_wp2_with fail
      go_ret
      exact ⟨rfl, l37⟩
    | some d =>
      obtain ⟨hid_, hrd, hed⟩ := Dk.dNt_some.1 hd
      obtain ⟨kd, hkd⟩ : ∃ k, 25 + d.cg.size = k := ⟨_, rfl⟩
      have HKd := Lib.hid hkd
      have HId := Lib.hid hid_
      have HRd := Lib.hid hrd
      have HEd := Lib.hid hed
      clear hkd hid_ hrd hed
      have qd : ((Dk.mkS (Dk.byN d)).toList == (Dk.mkS bs).toList) = true := by rw [← HEd.out]; exact beq_self_eq_true _
      have HD := Lib.hid hd
      have HIa := Lib.hid hia
      have HIb := Lib.hid hib
      have HRa := Lib.hid hra
      have HRb := Lib.hid hrb
      clear hd hia hib hra hrb
      go_enter Try.func4, Try.ntmps4
      go_wp2_with (first | ((with_reducible refine st_box 25 _ (ntA a) ?_ ?_); exact rfl))
      refine ⟨fun V1 g1 n1 f1 => ?_⟩
      have up1 : w.heap.size ≤ g1 := Nat.le_of_eq f1.at_
      have bl1 := f1.bel
      clear f1
      have r3_l := (hl).on bl1
      have l3 := le_tr (Below.refl _ _) bl1
      clear hl
      clear bl1
      go_wp2_with (first | ((with_reducible refine st_box 25 _ (ntA b) ?_ ?_); exact rfl))
      refine ⟨fun V4 g4 n4 f4 => ?_⟩
      have ne4_a := f4.ne n1
      have up4 : w.heap.size ≤ g4 := f4.up l3
      have bl4 := f4.bel
      clear f4
      have r6_a := le_on n1 bl4
      have r6_l := (r3_l).on bl4
      have l6 := le_tr l3 bl4
      clear n1 r3_l l3
      clear bl4
      go_wp2_with fail
      (with_reducible refine (alive_c _).mono ?_)
      rintro e w7 ⟨rfl, b7⟩
      have r9_a := le_on r6_a b7
      have r9_b := le_on n4 b7
      have r9_l := (r6_l).on b7
      have l9 := le_tr l6 b7
      clear r6_a n4 r6_l l6
      clear b7
      have c10 : w7.cell? ⟨g1, 9, none⟩ = some (.string (a.cg)) := CB.cell r9_a 9
      have c11 : w7.cell? ⟨g4, 9, none⟩ = some (.string (b.cg)) := CB.cell r9_b 9
      go_wp2_with (first | (first | ((with_reducible refine st_load 25 _ g1 ?_ r9_a Try.underlying25 ?_ ?_ ?_); exact rfl; exact rfl; exact Try.zNr) | ((with_reducible refine st_loadG 25 _ g1 ?_ r9_a Try.underlying25 ?_ ?_ ?_ ?_); exact rfl; exact rfl; exact Try.zNr; exact rfl)))
      (with_reducible refine (theirs_c a _).mono ?_)
      rintro e w12 ⟨rfl, b12⟩
      clear c10 c11
      have r14_a := le_on r9_a b12
      have r14_b := le_on r9_b b12
      have r14_l := (r9_l).on b12
      have l14 := le_tr l9 b12
      clear r9_a r9_b r9_l l9
      clear b12
      go_wp2_with fail
      have lt15_a := CB.lt r14_a
      have lt15_b := CB.lt r14_b
      have lb15 : w.heap.size ≤ w12.heap.size := Below.size (B := w.heap.size) l14
      (with_reducible refine (enc_not a _ HIa.out HRa.out).mono ?_)
      rintro e w15 ⟨A901, q901, G901, rfl, h901, b15⟩
      have r17_a := le_on r14_a b15
      have r17_b := le_on r14_b b15
      have r17_l := (r14_l).on b15
      have l17 := le_tr l14 b15
      clear r14_a r14_b r14_l l14
      clear b15
      have na18 := SO.above h901 lt15_a
      have na19 := SO.above h901 lt15_b
      have sm15_x := SO.mono h901 lb15
      clear h901
      clear lb15 lt15_a lt15_b
      go_wp2_with (first | (first | ((with_reducible refine st_load 25 _ g4 ?_ r17_b Try.underlying25 ?_ ?_ ?_); exact rfl; exact rfl; exact Try.zNr) | ((with_reducible refine st_loadG 25 _ g4 ?_ r17_b Try.underlying25 ?_ ?_ ?_ ?_); exact rfl; exact rfl; exact Try.zNr; exact rfl)))
      (with_reducible refine (theirs_c b _).mono ?_)
      rintro e w20 ⟨rfl, b20⟩
      have r21_x := SO.on sm15_x b20
      have r22_a := le_on r17_a b20
      have r22_b := le_on r17_b b20
      have r22_l := (r17_l).on b20
      have l22 := le_tr l17 b20
      clear r17_a r17_b r17_l l17
      clear sm15_x
      clear b20
      go_wp2_with fail
      have lt23_a := CB.lt r22_a
      have lt23_b := CB.lt r22_b
      have lb23 : w.heap.size ≤ w20.heap.size := Below.size (B := w.heap.size) l22
      (with_reducible refine (enc_not b _ HIb.out HRb.out).mono ?_)
      rintro e w23 ⟨A902, q902, G902, rfl, h902, b23⟩
      have r24_x := SO.on r21_x b23
      have r25_a := le_on r22_a b23
      have r25_b := le_on r22_b b23
      have r25_l := (r22_l).on b23
      have l25 := le_tr l22 b23
      clear r22_a r22_b r22_l l22
      clear r21_x
      clear b23
      have na26 := SO.above h902 lt23_a
      have na27 := SO.above h902 lt23_b
      have sm23_y := SO.mono h902 lb23
      clear h902
      clear lb23 lt23_a lt23_b
      go_wp2_with fail
      (with_reducible refine (dec_yes_c HD.out _ _ _ _ r25_l.rr).mono ?_)
      rintro e w28 ⟨rfl, b28⟩
      have r29_x := SO.on r24_x b28
      have r29_y := SO.on sm23_y b28
      have r30_a := le_on r25_a b28
      have r30_b := le_on r25_b b28
      have r30_l := (r25_l).on b28
      have l30 := le_tr l25 b28
      clear r25_a r25_b r25_l l25
      clear r24_x sm23_y
      clear b28
      go_wp2_with (first | ((with_reducible refine st_alloc 33 (ntA zN) ?_ ?_); exact zero_nc))
      refine ⟨fun V31 g31 n31 f31 => ?_⟩
      have ne31_a := f31.ne r30_a
      have ne31_b := f31.ne r30_b
      have no31_x := SO.fresh r29_x (Nat.le_of_eq f31.at_)
      have no31_y := SO.fresh r29_y (Nat.le_of_eq f31.at_)
      have up31 : w.heap.size ≤ g31 := f31.up l30
      have bl31 := f31.bel
      clear f31
      have r32_x := SO.on r29_x bl31
      have r32_y := SO.on r29_y bl31
      have r33_a := le_on r30_a bl31
      have r33_b := le_on r30_b bl31
      have r33_l := (r30_l).on bl31
      have l33 := le_tr l30 bl31
      clear r30_a r30_b r30_l l30
      clear r29_x r29_y
      clear bl31
      go_wp2_with (first | ((with_reducible refine st_store 33 _ _ g31 (ntA d) ?_ ?_ n31 ?_ ?_ ?_ ?_); exact rfl; exact rfl; exact Try.zNc; exact rfl; exact ntA_one _))
      refine ⟨fun V34 n34 k34 => ?_⟩
      have m34_a := k34.on r33_a ne31_a
      have m34_b := k34.on r33_b ne31_b
      have m34_l := (r33_l).wr k34 up31
      have m34_x := SO.wr r32_x k34 no31_x
      have m34_y := SO.wr r32_y k34 no31_y
      have o34 := k34.bel _ _ l33 up31
      clear k34
      clear n31 r33_a r33_b r33_l r32_x r32_y l33
      go_wp2_with (first | (first | ((with_reducible refine st_load 33 _ g31 ?_ n34 Try.underlying33 ?_ ?_ ?_); exact rfl; exact rfl; exact Try.zNc) | ((with_reducible refine st_loadG 33 _ g31 ?_ n34 Try.underlying33 ?_ ?_ ?_ ?_); exact rfl; exact rfl; exact Try.zNc; exact rfl)))
      have lt35_a := CB.lt m34_a
      have lt35_b := CB.lt m34_b
      have lt35_u := CB.lt n34
      have lb35 : w.heap.size ≤ V34.heap.size := Below.size (B := w.heap.size) o34
      (with_reducible refine (enc_yes d kd _ HId.out HRd.out HKd.out).mono ?_)
      rintro e w35 ⟨A903, q903, G903, rfl, h903, b35⟩
      have r36_x := SO.on m34_x b35
      have r36_y := SO.on m34_y b35
      have r37_a := le_on m34_a b35
      have r37_b := le_on m34_b b35
      have r37_u := le_on n34 b35
      have r37_l := (m34_l).on b35
      have l37 := le_tr o34 b35
      clear m34_a m34_b n34 m34_l o34
      clear m34_x m34_y
      clear b35
      have na38 := SO.above h903 lt35_a
      have na39 := SO.above h903 lt35_b
      have na40 := SO.above h903 lt35_u
      have sm35_z := SO.mono h903 lb35
      clear h903
      clear lb35 lt35_a lt35_b lt35_u
      have v1 := conv_C _ _ _ _ _ (SO.rr sm35_z)
      have v2 := conv_C _ _ _ _ _ (RL.rr r37_l)
      go_wp2_with fail
      clear v1 v2
      have y41 := Lib.hid (show (fun V : World => True) w35.drew from trivial)
      refine wp_region_held_drew (S := (fun V : World => True)) (by kernel_rfl) y41.out (fun hHeld => ?_)
      obtain ⟨D41, hD41⟩ : ∃ V, w35.drew = V := ⟨_, rfl⟩
      have b41 : Below w35.heap.size w35 D41 := by rw [← hD41]; exact le_dr (Below.refl _ _)
      rw [hD41]
      clear hD41
      have r42_x := SO.on r36_x b41
      have r42_y := SO.on r36_y b41
      have r42_z := SO.on sm35_z b41
      have r43_a := le_on r37_a b41
      have r43_b := le_on r37_b b41
      have r43_u := le_on r37_u b41
      have r43_l := (r37_l).on b41
      have l43 := le_tr l37 b41
      clear r37_a r37_b r37_u r37_l l37
      clear r36_x r36_y sm35_z
      clear b41
      refine wpAnyH_takeL (i := 0) (d := some 84) (v := .int .i64 2) rfl rfl (by kernel_rfl) (by kernel_rfl) (by kernel_rfl) (fun _ _ _ h => h) (Or.inl ⟨by rfl, ?_⟩) hHeld ?_
      · intro w hSw; (try dsimp only at hSw); go_simp
      try simp only [Act.put, List.setIfInBounds_toArray, List.set_cons_zero, List.set_cons_succ]
      refine wpAnyH_takeL (i := 1) (d := some 85) (v := .bool true) rfl rfl (by kernel_rfl) (by kernel_rfl) (by kernel_rfl) (fun _ _ _ h => h) (Or.inl ⟨by rfl, ?_⟩) hHeld ?_
      · intro w hSw; (try dsimp only at hSw); go_simp
      try simp only [Act.put, List.setIfInBounds_toArray, List.set_cons_zero, List.set_cons_succ]
      refine wpAnyH_takeL (i := 2) (d := some 86) (v := .bool true) rfl rfl (by kernel_rfl) (by kernel_rfl) (by kernel_rfl) (fun _ _ _ h => h) (Or.inl ⟨by rfl, ?_⟩) hHeld ?_
      · intro w hSw; (try dsimp only at hSw); go_simp
      try simp only [Act.put, List.setIfInBounds_toArray, List.set_cons_zero, List.set_cons_succ]
      refine wpAnyH_takeL (i := 3) (d := some 87) (v := undef) rfl rfl (by kernel_rfl) (by kernel_rfl) (by kernel_rfl) (fun _ _ _ h => h) (Or.inr ⟨by kernel_rfl, rfl⟩) hHeld ?_
      try simp only [Act.put, List.setIfInBounds_toArray, List.set_cons_zero, List.set_cons_succ]
      refine wpAnyH_takeL (i := 4) (d := some 88) (v := undef) rfl rfl (by kernel_rfl) (by kernel_rfl) (by kernel_rfl) (fun _ _ _ h => h) (Or.inr ⟨by kernel_rfl, rfl⟩) hHeld ?_
      try simp only [Act.put, List.setIfInBounds_toArray, List.set_cons_zero, List.set_cons_succ]
      refine wpAnyH_takeL (i := 5) (d := some 89) (v := .bool true) rfl rfl (by kernel_rfl) (by kernel_rfl) (by kernel_rfl) (fun _ _ _ h => h) (Or.inl ⟨by rfl, ?_⟩) hHeld ?_
      · intro w hSw; (try dsimp only at hSw); go_simp
      try simp only [Act.put, List.setIfInBounds_toArray, List.set_cons_zero, List.set_cons_succ]
      refine wpAnyH_takeL (i := 6) (d := some 90) (v := .bool true) rfl rfl (by kernel_rfl) (by kernel_rfl) (by kernel_rfl) (fun _ _ _ h => h) (Or.inl ⟨by rfl, ?_⟩) hHeld ?_
      · intro w hSw; (try dsimp only at hSw); go_simp
      try simp only [Act.put, List.setIfInBounds_toArray, List.set_cons_zero, List.set_cons_succ]
      refine wpAnyH_takeL (i := 7) (d := some 91) (v := undef) rfl rfl (by kernel_rfl) (by kernel_rfl) (by kernel_rfl) (fun _ _ _ h => h) (Or.inr ⟨by kernel_rfl, rfl⟩) hHeld ?_
      try simp only [Act.put, List.setIfInBounds_toArray, List.set_cons_zero, List.set_cons_succ]
      refine wpAnyH_takeL (i := 8) (d := some 92) (v := undef) rfl rfl (by kernel_rfl) (by kernel_rfl) (by kernel_rfl) (fun _ _ _ h => h) (Or.inr ⟨by kernel_rfl, rfl⟩) hHeld ?_
      try simp only [Act.put, List.setIfInBounds_toArray, List.set_cons_zero, List.set_cons_succ]
      refine wpAnyH_takeL (i := 9) (d := some 93) (v := undef) rfl rfl (by kernel_rfl) (by kernel_rfl) (by kernel_rfl) (fun _ _ _ h => h) (Or.inr ⟨by kernel_rfl, rfl⟩) hHeld ?_
      try simp only [Act.put, List.setIfInBounds_toArray, List.set_cons_zero, List.set_cons_succ]
      refine wpAnyH_takeL (i := 10) (d := some 94) (v := undef) rfl rfl (by kernel_rfl) (by kernel_rfl) (by kernel_rfl) (fun _ _ _ h => h) (Or.inr ⟨by kernel_rfl, rfl⟩) hHeld ?_
      try simp only [Act.put, List.setIfInBounds_toArray, List.set_cons_zero, List.set_cons_succ]
      refine wpAnyH_takeL (i := 11) (d := some 95) (v := undef) rfl rfl (by kernel_rfl) (by kernel_rfl) (by kernel_rfl) (fun _ _ _ h => h) (Or.inr ⟨by kernel_rfl, rfl⟩) hHeld ?_
      try simp only [Act.put, List.setIfInBounds_toArray, List.set_cons_zero, List.set_cons_succ]
      refine wpAnyH_takeL (i := 12) (d := some 96) (v := undef) rfl rfl (by kernel_rfl) (by kernel_rfl) (by kernel_rfl) (fun _ _ _ h => h) (Or.inr ⟨by kernel_rfl, rfl⟩) hHeld ?_
      try simp only [Act.put, List.setIfInBounds_toArray, List.set_cons_zero, List.set_cons_succ]
      refine wpAnyH_takeL (i := 13) (d := some 97) (v := undef) rfl rfl (by kernel_rfl) (by kernel_rfl) (by kernel_rfl) (fun _ _ _ h => h) (Or.inr ⟨by kernel_rfl, rfl⟩) hHeld ?_
      try simp only [Act.put, List.setIfInBounds_toArray, List.set_cons_zero, List.set_cons_succ]
      refine wpAnyH_takeL (i := 14) (d := some 98) (v := undef) rfl rfl (by kernel_rfl) (by kernel_rfl) (by kernel_rfl) (fun _ _ _ h => h) (Or.inr ⟨by kernel_rfl, rfl⟩) hHeld ?_
      try simp only [Act.put, List.setIfInBounds_toArray, List.set_cons_zero, List.set_cons_succ]
      refine wpAnyH_takeL (i := 15) (d := some 99) (v := undef) rfl rfl (by kernel_rfl) (by kernel_rfl) (by kernel_rfl) (fun _ _ _ h => h) (Or.inr ⟨by kernel_rfl, rfl⟩) hHeld ?_
      try simp only [Act.put, List.setIfInBounds_toArray, List.set_cons_zero, List.set_cons_succ]
      refine wpAnyH_takeL (i := 16) (d := some 100) (v := .bool true) rfl rfl (by kernel_rfl) (by kernel_rfl) (by kernel_rfl) (fun _ _ _ h => h) (Or.inl ⟨by rfl, ?_⟩) hHeld ?_
      · intro w hSw; (try dsimp only at hSw); go_simp
      try simp only [Act.put, List.setIfInBounds_toArray, List.set_cons_zero, List.set_cons_succ]
      refine wpAnyH_takeL (i := 17) (d := some 6) (v := .bool true) rfl rfl (by kernel_rfl) (by kernel_rfl) (by kernel_rfl) (fun _ _ _ h => h) (Or.inl ⟨by rfl, ?_⟩) hHeld ?_
      · intro w hSw; (try dsimp only at hSw); go_simp
      try simp only [Act.put, List.setIfInBounds_toArray, List.set_cons_zero, List.set_cons_succ]
      refine wpAnyH_done (by kernel_rfl) ?_ _
      go_wp2_with fail
      go_ret
      exact ⟨rfl, l43⟩
end Go.Proofs.Ytbkfepgcnijlfaa
