/-
  The law WheelCalls: its walk. Condition: the timers can be read.
-/
import Derived.Test.YtgpmgghjcocfmaaWhN
import Derived.Test.YtgpmgghjcocfmaaWhI
import Derived.Deep.CutRange
set_option linter.unusedVariables false
set_option linter.unusedSimpArgs false
namespace Go.Proofs.Ytgpmgghjcocfmaa
open Go.RowKit

set_option maxRecDepth 100000 in
set_option maxHeartbeats 16000000 in
theorem calls_walk (now : Int) (A : Option Addr) (n c : Nat) (id at_ : Int) (L : List (Int × Int)) (w : World) (h : TR w A n c L) (hid : (Lit.int .i64 id).wf = true) (hat : (Lit.int .i64 at_).wf = true) :
    Calls Try.prog 3 #[.agg #[.int .i64 now, .slice A n c], .int .i64 id, .int .i64 at_] w fun e w' => e = .returned (.bool true) ∧ Below w.heap.size w w' := by
  have Hid := Lib.hid hid
  have Hat := Lib.hid hat
  have hln := h.len
  obtain ⟨SS, hSS⟩ : ∃ x, sSet now L id at_ = x := ⟨_, rfl⟩
  obtain ⟨ES, hES⟩ : ∃ x, eSet now L id at_ = x := ⟨_, rfl⟩
  obtain ⟨SP, hSP⟩ : ∃ x, sStop now L id = x := ⟨_, rfl⟩
  obtain ⟨EP, hEP⟩ : ∃ x, eStop now L id = x := ⟨_, rfl⟩
  obtain ⟨NT, hNT⟩ : ∃ x, nTick now L at_ = x := ⟨_, rfl⟩
  obtain ⟨ST, hST⟩ : ∃ x, sTick now L at_ = x := ⟨_, rfl⟩
  obtain ⟨RT, hRT⟩ : ∃ x, rTick now L at_ = x := ⟨_, rfl⟩
  obtain ⟨ET, hET⟩ : ∃ x, eTick now L at_ = x := ⟨_, rfl⟩
  have HlSS := Lib.hid (show SS.length ≤ n + 1 by
    rw [← hSS, ← hln]
    unfold sSet
    split
    · rw [length_insT]; have := (del_sub L id).length_le; omega
    · omega)
  have HlSP := Lib.hid (show SP.length ≤ n + 1 by
    rw [← hSP, ← hln]
    unfold sStop
    split
    · have := (del_sub L id).length_le; omega
    · omega)
  have HlST := Lib.hid (show ST.length ≤ n + 1 by
    rw [← hST, ← hln]
    unfold sTick
    split
    · have := List.length_filter_le (fun p : Int × Int => !decide (p.2 ≤ now + at_)) L; unfold lf; omega
    · omega)
  have HSS := Lib.hid hSS
  have HES := Lib.hid hES
  have HSP := Lib.hid hSP
  have HEP := Lib.hid hEP
  have HNT := Lib.hid hNT
  have HST := Lib.hid hST
  have HRT := Lib.hid hRT
  have HET := Lib.hid hET
  obtain ⟨RB, hRB⟩ : ∃ b, rightB now L = b := ⟨_, rfl⟩
  have HRB := Lib.hid hRB
  clear hSS hES hSP hEP hNT hST hRT hET hRB hid hat hln
  obtain ⟨W, hW, bx, hb0⟩ := boxed w 24 now A n c
  have HW := Lib.hid hW
  clear hW
  have tw := h.on hb0
  have hlen := h.len
  clear h
  go_enter Try.func3, Try.ntmps3
  go_wp2_with fail
  rw [HW.out]
  clear HW
  refine (alive_c W).mono ?_
  rintro e w1 ⟨rfl, k⟩
  have bw_1 := bx.on k bx.lt
  have tw_1 := tw.on k
  have bl_1 := bel2 hb0 k
  clear bx tw hb0 k
  obtain ⟨d0, d1⟩ := bw_1.cells
  by_cases hbig : (100 : Int) < (n : Int)
  · go_wp2_with fail
    go_ret
    exact ⟨rfl, bl_1⟩
  have hn : n ≤ 100000 := by omega
  go_wp2_with fail
  clear d0 d1
  refine (theirs_c now A n c L _ tw_1 hn).mono ?_
  rintro e v2 ⟨T2, tn2, tcc2, rfl, tx2, k⟩
  have tm2 : tn2 ≤ 100000 := by have := tx2.len; omega
  have bw_2 := bw_1.on k bw_1.lt
  have tw_2 := tw_1.on k
  have bl_2 := bel2 bl_1 k
  clear bw_1 tw_1 bl_1 k
  go_wp2_with fail
  refine (set_w now T2 tn2 tcc2 id at_ L _ tx2.tr tm2 Hid.out Hat.out).mono ?_
  rw [HSS.out, HES.out]
  rintro e r2 ⟨A2, n2, c2, rfl, x2, k⟩
  have bw_3 := bw_2.on k bw_2.lt
  have tw_3 := tw_2.on k
  have bl_3 := bel2 bl_2 k
  clear bw_2 tw_2 bl_2 k
  clear tx2
  obtain ⟨X2, hX2, bn2, k⟩ := boxed r2 28 now A2 n2 c2
  have HX2 := Lib.hid hX2
  clear hX2
  obtain ⟨d0, d1⟩ := bw_3.cells
  have hlt2 := bw_3.lt
  go_wp2_with fail
  rw [HX2.out]
  clear d0 d1 HX2 hlt2
  have bw_4 := bw_3.on k bw_3.lt
  have tw_4 := tw_3.on k
  have bl_4 := bel2 bl_3 k
  have x2_4 := x2.on k
  clear bw_3 tw_3 bl_3 x2 k
  generalize r2.heap.size = p2 at *
  refine (set_r now A n c id at_ L _ tw_4 hn Hid.out Hat.out).mono ?_
  rw [HSS.out, HES.out]
  rintro e r3 ⟨A3, n3, c3, rfl, x3, k⟩
  have bw_5 := bw_4.on k bw_4.lt
  have tw_5 := tw_4.on k
  have bl_5 := bel2 bl_4 k
  have x2_5 := x2_4.on k
  have b2_5 := bn2.on k bn2.lt
  clear bw_4 tw_4 bl_4 x2_4 bn2 k
  obtain ⟨X3, hX3, bn3, k⟩ := boxed r3 24 now A3 n3 c3
  have HX3 := Lib.hid hX3
  clear hX3
  obtain ⟨d0, d1⟩ := bw_5.cells
  have hlt3 := bw_5.lt
  go_wp2_with fail
  rw [HX3.out]
  clear d0 d1 HX3 hlt3
  have bw_6 := bw_5.on k bw_5.lt
  have tw_6 := tw_5.on k
  have bl_6 := bel2 bl_5 k
  have x2_6 := x2_5.on k
  have b2_6 := b2_5.on k b2_5.lt
  have x3_6 := x3.on k
  clear bw_5 tw_5 bl_5 x2_5 b2_5 x3 k
  generalize r3.heap.size = p3 at *
  refine (theirs_c now A n c L _ tw_6 hn).mono ?_
  rintro e v4 ⟨T4, tn4, tcc4, rfl, tx4, k⟩
  have tm4 : tn4 ≤ 100000 := by have := tx4.len; omega
  have bw_7 := bw_6.on k bw_6.lt
  have tw_7 := tw_6.on k
  have bl_7 := bel2 bl_6 k
  have x2_7 := x2_6.on k
  have b2_7 := b2_6.on k b2_6.lt
  have x3_7 := x3_6.on k
  have b3_7 := bn3.on k bn3.lt
  clear bw_6 tw_6 bl_6 x2_6 b2_6 x3_6 bn3 k
  go_wp2_with fail
  refine (stop_w now T4 tn4 tcc4 id L _ tx4.tr tm4).mono ?_
  rw [HSP.out, HEP.out]
  rintro e r4 ⟨A4, n4, c4, rfl, x4, k⟩
  have bw_8 := bw_7.on k bw_7.lt
  have tw_8 := tw_7.on k
  have bl_8 := bel2 bl_7 k
  have x2_8 := x2_7.on k
  have b2_8 := b2_7.on k b2_7.lt
  have x3_8 := x3_7.on k
  have b3_8 := b3_7.on k b3_7.lt
  clear bw_7 tw_7 bl_7 x2_7 b2_7 x3_7 b3_7 k
  clear tx4
  obtain ⟨X4, hX4, bn4, k⟩ := boxed r4 28 now A4 n4 c4
  have HX4 := Lib.hid hX4
  clear hX4
  obtain ⟨d0, d1⟩ := bw_8.cells
  have hlt4 := bw_8.lt
  go_wp2_with fail
  rw [HX4.out]
  clear d0 d1 HX4 hlt4
  have bw_9 := bw_8.on k bw_8.lt
  have tw_9 := tw_8.on k
  have bl_9 := bel2 bl_8 k
  have x2_9 := x2_8.on k
  have b2_9 := b2_8.on k b2_8.lt
  have x3_9 := x3_8.on k
  have b3_9 := b3_8.on k b3_8.lt
  have x4_9 := x4.on k
  clear bw_8 tw_8 bl_8 x2_8 b2_8 x3_8 b3_8 x4 k
  generalize r4.heap.size = p4 at *
  refine (stop_r now A n c id L _ tw_9 hn).mono ?_
  rw [HSP.out, HEP.out]
  rintro e r5 ⟨A5, n5, c5, rfl, x5, k⟩
  have bw_10 := bw_9.on k bw_9.lt
  have tw_10 := tw_9.on k
  have bl_10 := bel2 bl_9 k
  have x2_10 := x2_9.on k
  have b2_10 := b2_9.on k b2_9.lt
  have x3_10 := x3_9.on k
  have b3_10 := b3_9.on k b3_9.lt
  have x4_10 := x4_9.on k
  have b4_10 := bn4.on k bn4.lt
  clear bw_9 tw_9 bl_9 x2_9 b2_9 x3_9 b3_9 x4_9 bn4 k
  obtain ⟨X5, hX5, bn5, k⟩ := boxed r5 24 now A5 n5 c5
  have HX5 := Lib.hid hX5
  clear hX5
  obtain ⟨d0, d1⟩ := bw_10.cells
  have hlt5 := bw_10.lt
  go_wp2_with fail
  rw [HX5.out]
  clear d0 d1 HX5 hlt5
  have bw_11 := bw_10.on k bw_10.lt
  have tw_11 := tw_10.on k
  have bl_11 := bel2 bl_10 k
  have x2_11 := x2_10.on k
  have b2_11 := b2_10.on k b2_10.lt
  have x3_11 := x3_10.on k
  have b3_11 := b3_10.on k b3_10.lt
  have x4_11 := x4_10.on k
  have b4_11 := b4_10.on k b4_10.lt
  have x5_11 := x5.on k
  clear bw_10 tw_10 bl_10 x2_10 b2_10 x3_10 b3_10 x4_10 b4_10 x5 k
  generalize r5.heap.size = p5 at *
  refine (theirs_c now A n c L _ tw_11 hn).mono ?_
  rintro e v6 ⟨T6, tn6, tcc6, rfl, tx6, k⟩
  have tm6 : tn6 ≤ 100000 := by have := tx6.len; omega
  have bw_12 := bw_11.on k bw_11.lt
  have tw_12 := tw_11.on k
  have bl_12 := bel2 bl_11 k
  have x2_12 := x2_11.on k
  have b2_12 := b2_11.on k b2_11.lt
  have x3_12 := x3_11.on k
  have b3_12 := b3_11.on k b3_11.lt
  have x4_12 := x4_11.on k
  have b4_12 := b4_11.on k b4_11.lt
  have x5_12 := x5_11.on k
  have b5_12 := bn5.on k bn5.lt
  clear bw_11 tw_11 bl_11 x2_11 b2_11 x3_11 b3_11 x4_11 b4_11 x5_11 bn5 k
  go_wp2_with fail
  refine (tick_w now T6 tn6 tcc6 at_ L _ tx6.tr tm6).mono ?_
  rw [HNT.out, HST.out, HRT.out, HET.out]
  rintro e r6 ⟨A6, n6, c6, I6, m6, q6, rfl, x6, y6, k⟩
  have bw_13 := bw_12.on k bw_12.lt
  have tw_13 := tw_12.on k
  have bl_13 := bel2 bl_12 k
  have x2_13 := x2_12.on k
  have b2_13 := b2_12.on k b2_12.lt
  have x3_13 := x3_12.on k
  have b3_13 := b3_12.on k b3_12.lt
  have x4_13 := x4_12.on k
  have b4_13 := b4_12.on k b4_12.lt
  have x5_13 := x5_12.on k
  have b5_13 := b5_12.on k b5_12.lt
  clear bw_12 tw_12 bl_12 x2_12 b2_12 x3_12 b3_12 x4_12 b4_12 x5_12 b5_12 k
  clear tx6
  obtain ⟨X6, hX6, bn6, k⟩ := boxed r6 28 NT A6 n6 c6
  have HX6 := Lib.hid hX6
  clear hX6
  obtain ⟨d0, d1⟩ := bw_13.cells
  have hlt6 := bw_13.lt
  go_wp2_with fail
  rw [HX6.out]
  clear d0 d1 HX6 hlt6
  have bw_14 := bw_13.on k bw_13.lt
  have tw_14 := tw_13.on k
  have bl_14 := bel2 bl_13 k
  have x2_14 := x2_13.on k
  have b2_14 := b2_13.on k b2_13.lt
  have x3_14 := x3_13.on k
  have b3_14 := b3_13.on k b3_13.lt
  have x4_14 := x4_13.on k
  have b4_14 := b4_13.on k b4_13.lt
  have x5_14 := x5_13.on k
  have b5_14 := b5_13.on k b5_13.lt
  have x6_14 := x6.on k
  have y6_14 := y6.on k
  clear bw_13 tw_13 bl_13 x2_13 b2_13 x3_13 b3_13 x4_13 b4_13 x5_13 b5_13 x6 y6 k
  generalize r6.heap.size = p6 at *
  refine (tick_r now A n c at_ L _ tw_14 hn).mono ?_
  rw [HNT.out, HST.out, HRT.out, HET.out]
  rintro e r7 ⟨A7, n7, c7, I7, m7, q7, rfl, x7, y7, k⟩
  have bw_15 := bw_14.on k bw_14.lt
  have tw_15 := tw_14.on k
  have bl_15 := bel2 bl_14 k
  have x2_15 := x2_14.on k
  have b2_15 := b2_14.on k b2_14.lt
  have x3_15 := x3_14.on k
  have b3_15 := b3_14.on k b3_14.lt
  have x4_15 := x4_14.on k
  have b4_15 := b4_14.on k b4_14.lt
  have x5_15 := x5_14.on k
  have b5_15 := b5_14.on k b5_14.lt
  have x6_15 := x6_14.on k
  have y6_15 := y6_14.on k
  have b6_15 := bn6.on k bn6.lt
  clear bw_14 tw_14 bl_14 x2_14 b2_14 x3_14 b3_14 x4_14 b4_14 x5_14 b5_14 x6_14 y6_14 bn6 k
  obtain ⟨X7, hX7, bn7, k⟩ := boxed r7 24 NT A7 n7 c7
  have HX7 := Lib.hid hX7
  clear hX7
  obtain ⟨d0, d1⟩ := bw_15.cells
  have hlt7 := bw_15.lt
  go_wp2_with fail
  rw [HX7.out]
  clear d0 d1 HX7 hlt7
  have bw_16 := bw_15.on k bw_15.lt
  have tw_16 := tw_15.on k
  have bl_16 := bel2 bl_15 k
  have x2_16 := x2_15.on k
  have b2_16 := b2_15.on k b2_15.lt
  have x3_16 := x3_15.on k
  have b3_16 := b3_15.on k b3_15.lt
  have x4_16 := x4_15.on k
  have b4_16 := b4_15.on k b4_15.lt
  have x5_16 := x5_15.on k
  have b5_16 := b5_15.on k b5_15.lt
  have x6_16 := x6_15.on k
  have y6_16 := y6_15.on k
  have b6_16 := b6_15.on k b6_15.lt
  have x7_16 := x7.on k
  have y7_16 := y7.on k
  clear bw_15 tw_15 bl_15 x2_15 b2_15 x3_15 b3_15 x4_15 b4_15 x5_15 b5_15 x6_15 y6_15 b6_15 x7 y7 k
  generalize r7.heap.size = p7 at *
  refine (theirs_c now A n c L _ tw_16 hn).mono ?_
  rintro e v8 ⟨T8, tn8, tcc8, rfl, tx8, k⟩
  have tm8 : tn8 ≤ 100000 := by have := tx8.len; omega
  have bw_17 := bw_16.on k bw_16.lt
  have tw_17 := tw_16.on k
  have bl_17 := bel2 bl_16 k
  have x2_17 := x2_16.on k
  have b2_17 := b2_16.on k b2_16.lt
  have x3_17 := x3_16.on k
  have b3_17 := b3_16.on k b3_16.lt
  have x4_17 := x4_16.on k
  have b4_17 := b4_16.on k b4_16.lt
  have x5_17 := x5_16.on k
  have b5_17 := b5_16.on k b5_16.lt
  have x6_17 := x6_16.on k
  have y6_17 := y6_16.on k
  have b6_17 := b6_16.on k b6_16.lt
  have x7_17 := x7_16.on k
  have y7_17 := y7_16.on k
  have b7_17 := bn7.on k bn7.lt
  clear bw_16 tw_16 bl_16 x2_16 b2_16 x3_16 b3_16 x4_16 b4_16 x5_16 b5_16 x6_16 y6_16 b6_16 x7_16 y7_16 bn7 k
  go_wp2_with fail
  have hnx := next_w now T8 tn8 tcc8 L _ tx8.tr tm8
  have hSSm : n2 ≤ 100000 := by have := x2_17.len; have := HlSS.out; omega
  have hSPm : n4 ≤ 100000 := by have := x4_17.len; have := HlSP.out; omega
  have hSTm : n6 ≤ 100000 := by have := x6_17.len; have := HlST.out; omega
  clear tx8 tm8
  obtain ⟨BN, hBN⟩ : ∃ b, bNext now L = b := ⟨_, rfl⟩
  obtain ⟨XN, hXN⟩ : ∃ b, xNext now L = b := ⟨_, rfl⟩
  have HBN := Lib.hid hBN
  have HXN := Lib.hid hXN
  rw [hBN, hXN] at hnx
  clear hBN hXN
  have Hlen := Lib.hid hlen
  clear hlen
  refine hnx.mono ?_
  rintro e v9 ⟨rfl, k⟩
  clear hnx
  have bw_18 := bw_17.on k bw_17.lt
  have tw_18 := tw_17.on k
  have bl_18 := bel2 bl_17 k
  have x2_18 := x2_17.on k
  have b2_18 := b2_17.on k b2_17.lt
  have x3_18 := x3_17.on k
  have b3_18 := b3_17.on k b3_17.lt
  have x4_18 := x4_17.on k
  have b4_18 := b4_17.on k b4_17.lt
  have x5_18 := x5_17.on k
  have b5_18 := b5_17.on k b5_17.lt
  have x6_18 := x6_17.on k
  have y6_18 := y6_17.on k
  have b6_18 := b6_17.on k b6_17.lt
  have x7_18 := x7_17.on k
  have y7_18 := y7_17.on k
  have b7_18 := b7_17.on k b7_17.lt
  clear bw_17 tw_17 bl_17 x2_17 b2_17 x3_17 b3_17 x4_17 b4_17 x5_17 b5_17 x6_17 y6_17 b6_17 x7_17 y7_17 b7_17 k
  obtain ⟨d0, d1⟩ := bw_18.cells
  have hrr := right_r now A n c L v9 tw_18 hn
  rw [HRB.out] at hrr
  go_upto_region 12 with fail
  go_cut [23] from 79 to 86 (fun s23 wx => s23 = .bool BN ∧ Below v9.heap.size v9 wx)
  case first =>
    cases RB with
    | false =>
      go_wp2_with fail
      refine hrr.mono ?_
      rintro e v10 ⟨rfl, k⟩
      go_wp2_with fail
      go_meet
      case rel => exact ⟨by rw [← HBN.out]; unfold bNext; rw [HRB.out]; rfl, k⟩
    | true =>
      go_wp2_with fail
      refine hrr.mono ?_
      rintro e v10 ⟨rfl, k⟩
      obtain ⟨d2, d3⟩ := (bw_18.on k bw_18.lt).cells
      rcases Nat.eq_zero_or_pos n with h0 | h0
      · have hp0 : ¬ (0 : Int) < (n : Int) := by omega
        have hp1 : decide ((0 : Int) < (n : Int)) = false := decide_eq_false hp0
        have hp2 : decide (0 < n) = false := decide_eq_false (by omega)
        have Hb := Lib.hid (show bNext now L = false by unfold bNext; rw [Hlen.out, h0]; simp)
        clear h0
        go_wp2_with fail
        go_meet
        case rel => exact ⟨by rw [← HBN.out, Hb.out], k⟩
      · have hp0 : (0 : Int) < (n : Int) := by omega
        have hp1 : decide ((0 : Int) < (n : Int)) = true := decide_eq_true hp0
        have hp2 : decide (0 < n) = true := decide_eq_true h0
        have Hb := Lib.hid (show bNext now L = true by unfold bNext; rw [HRB.out, Hlen.out]; simp; omega)
        go_wp2_with fail
        go_meet
        case rel => exact ⟨by rw [← HBN.out, Hb.out], k⟩
  case rest =>
  obtain ⟨rfl, k⟩ := hcut
  clear hrr d0 d1
  have bw_19 := bw_18.on k bw_18.lt
  have tw_19 := tw_18.on k
  have bl_19 := bel2 bl_18 k
  have x2_19 := x2_18.on k
  have b2_19 := b2_18.on k b2_18.lt
  have x3_19 := x3_18.on k
  have b3_19 := b3_18.on k b3_18.lt
  have x4_19 := x4_18.on k
  have b4_19 := b4_18.on k b4_18.lt
  have x5_19 := x5_18.on k
  have b5_19 := b5_18.on k b5_18.lt
  have x6_19 := x6_18.on k
  have y6_19 := y6_18.on k
  have b6_19 := b6_18.on k b6_18.lt
  have x7_19 := x7_18.on k
  have y7_19 := y7_18.on k
  have b7_19 := b7_18.on k b7_18.lt
  clear bw_18 tw_18 bl_18 x2_18 b2_18 x3_18 b3_18 x4_18 b4_18 x5_18 b5_18 x6_18 y6_18 b6_18 x7_18 y7_18 b7_18 k
  obtain ⟨d0, d1⟩ := bw_19.cells
  go_upto_region 13 with fail
  go_cut [112] from 87 to 111 (fun s112 wx => s112 = .bool false ∧ Below wc.heap.size wc wx)
  case first =>
    cases BN with
    | false =>
      have hx0 : XN = 0 := by
        rw [← HXN.out]
        unfold xNext
        refine if_neg (fun h => ?_)
        have := HBN.out
        unfold bNext at this
        rw [h.1, Bool.true_and, decide_eq_false_iff_not] at this
        exact this h.2
      subst hx0
      go_quiet (fail)
      go_wp2_with fail
      go_meet
      case rel => exact ⟨rfl, belowN (Below.refl _ _) _⟩
    | true =>
      have hb := HBN.out
      unfold bNext at hb
      rw [Bool.and_eq_true, decide_eq_true_eq] at hb
      obtain ⟨hbr, hL0⟩ := hb
      have h0 : 0 < n := by rw [← Hlen.out]; exact hL0
      obtain ⟨xk, xv, hx⟩ : ∃ xk xv, tk L 0 = (xk, xv) := ⟨_, _, rfl⟩
      obtain ⟨_, n0, n1, hA, _, _⟩ := rightB_iff.1 hbr
      have hA0 := hA _ (tk_mem hL0)
      have hxx : XN = xv - now := by rw [← HXN.out]; unfold xNext; rw [if_pos ⟨hbr, hL0⟩, hx]
      rw [hx] at hA0
      simp only [lastT] at hA0 n1
      obtain ⟨g, off, rfl, _, s0, s1⟩ := tw_19.at_ h0
      rw [hx] at s0 s1
      simp only [Nat.zero_mul, Nat.add_zero] at s0 s1
      have hq : IntKind.i64.wrap (xv - now) = xv - now := IntWalk.i64_in _ (by omega)
      have hq2 : ((xv - now : Int) != xv - now) = false := by simp
      subst hxx
      clear hA hx hL0 hbr
      go_quiet (fail)
      go_wp2_with fail
      go_meet
      case rel => exact ⟨rfl, belowN (Below.refl _ _) _⟩
  case rest =>
  obtain ⟨rfl, k⟩ := hcut
  clear d0 d1
  have bw_20 := bw_19.on k bw_19.lt
  have tw_20 := tw_19.on k
  have bl_20 := bel2 bl_19 k
  have x2_20 := x2_19.on k
  have b2_20 := b2_19.on k b2_19.lt
  have x3_20 := x3_19.on k
  have b3_20 := b3_19.on k b3_19.lt
  have x4_20 := x4_19.on k
  have b4_20 := b4_19.on k b4_19.lt
  have x5_20 := x5_19.on k
  have b5_20 := b5_19.on k b5_19.lt
  have x6_20 := x6_19.on k
  have y6_20 := y6_19.on k
  have b6_20 := b6_19.on k b6_19.lt
  have x7_20 := x7_19.on k
  have y7_20 := y7_19.on k
  have b7_20 := b7_19.on k b7_19.lt
  clear bw_19 tw_19 bl_19 x2_19 b2_19 x3_19 b3_19 x4_19 b4_19 x5_19 b5_19 x6_19 y6_19 b6_19 x7_19 y7_19 b7_19 k
  go_wp2_with fail
  have hRR : ((RB : Bool) == RB) = true := by simp
  have hlen := Hlen.out
  go_region_held3 (fun W' => (W'.cell? ⟨w.heap.size, 0, none⟩ = some (.int .i64 now) ∧ W'.cell? ⟨w.heap.size, 1, none⟩ = some (.slice A n c)) ∧ (W'.cell? ⟨p2, 0, none⟩ = some (.int .i64 now) ∧ W'.cell? ⟨p2, 1, none⟩ = some (.slice A2 n2 c2)) ∧ (W'.cell? ⟨p3, 0, none⟩ = some (.int .i64 now) ∧ W'.cell? ⟨p3, 1, none⟩ = some (.slice A3 n3 c3)) ∧ (W'.cell? ⟨p4, 0, none⟩ = some (.int .i64 now) ∧ W'.cell? ⟨p4, 1, none⟩ = some (.slice A4 n4 c4)) ∧ (W'.cell? ⟨p5, 0, none⟩ = some (.int .i64 now) ∧ W'.cell? ⟨p5, 1, none⟩ = some (.slice A5 n5 c5)) ∧ (W'.cell? ⟨p6, 0, none⟩ = some (.int .i64 NT) ∧ W'.cell? ⟨p6, 1, none⟩ = some (.slice A6 n6 c6)) ∧ (W'.cell? ⟨p7, 0, none⟩ = some (.int .i64 NT) ∧ W'.cell? ⟨p7, 1, none⟩ = some (.slice A7 n7 c7))) (first | exact ⟨bw_20.cells, b2_20.cells, b3_20.cells, b4_20.cells, b5_20.cells, b6_20.cells, b7_20.cells⟩ | exact ⟨bwa.cells, b2a.cells, b3a.cells, b4a.cells, b5a.cells, b6a.cells, b7a.cells⟩ | exact ⟨bwb.cells, b2b.cells, b3b.cells, b4b.cells, b5b.cells, b6b.cells, b7b.cells⟩ | exact ⟨bwc.cells, b2c.cells, b3c.cells, b4c.cells, b5c.cells, b6c.cells, b7c.cells⟩ | exact ⟨bwd.cells, b2d.cells, b3d.cells, b4d.cells, b5d.cells, b6d.cells, b7d.cells⟩ | exact ⟨bwe.cells, b2e.cells, b3e.cells, b4e.cells, b5e.cells, b6e.cells, b7e.cells⟩ | exact ⟨bwf.cells, b2f.cells, b3f.cells, b4f.cells, b5f.cells, b6f.cells, b7f.cells⟩ | exact ⟨bwg.cells, b2g.cells, b3g.cells, b4g.cells, b5g.cells, b6g.cells, b7g.cells⟩ | exact ⟨bwh.cells, b2h.cells, b3h.cells, b4h.cells, b5h.cells, b6h.cells, b7h.cells⟩ | exact ⟨bwi.cells, b2i.cells, b3i.cells, b4i.cells, b5i.cells, b6i.cells, b7i.cells⟩ | exact ⟨bwj.cells, b2j.cells, b3j.cells, b4j.cells, b5j.cells, b6j.cells, b7j.cells⟩) (first
    | (go_at_call 12; refine (theirs_c now A n c L wc.drew tw_20.drew hn).mono ?_; rintro e z1 ⟨U1, un1, uc1, rfl, ux1, g1⟩; have um1 : un1 ≤ 100000 := (by have := ux1.len; omega); have bwa := bw_20.drew.on g1 bw_20.lt; have b2a := b2_20.drew.on g1 b2_20.lt; have b3a := b3_20.drew.on g1 b3_20.lt; have b4a := b4_20.drew.on g1 b4_20.lt; have b5a := b5_20.drew.on g1 b5_20.lt; have b6a := b6_20.drew.on g1 b6_20.lt; have b7a := b7_20.drew.on g1 b7_20.lt; have twa := tw_20.on (below_drew g1); have x2a := x2_20.on (below_drew g1); have x3a := x3_20.on (below_drew g1); have x4a := x4_20.on (below_drew g1); have x5a := x5_20.on (below_drew g1); have x6a := x6_20.on (below_drew g1); have x7a := x7_20.on (below_drew g1); have y6a := y6_20.on (below_drew g1); have y7a := y7_20.on (below_drew g1); have bla := bel2 bl_20 (below_drew g1))
    | (go_at_call 20; (with_reducible refine (right_w now U1 un1 uc1 L z1 ux1.tr um1).mono ?_); rw [HRB.out]; rintro e z2 ⟨rfl, g2⟩; have bwb := bwa.on g2 bwa.lt; have b2b := b2a.on g2 b2a.lt; have b3b := b3a.on g2 b3a.lt; have b4b := b4a.on g2 b4a.lt; have b5b := b5a.on g2 b5a.lt; have b6b := b6a.on g2 b6a.lt; have b7b := b7a.on g2 b7a.lt; have twb := twa.on g2; have x2b := x2a.on g2; have x3b := x3a.on g2; have x4b := x4a.on g2; have x5b := x5a.on g2; have x6b := x6a.on g2; have x7b := x7a.on g2; have y6b := y6a.on g2; have y7b := y7a.on g2; have blb := bel2 bla g2)
    | (go_at_call 19; (with_reducible refine (right_r now A n c L z2 twb hn).mono ?_); rw [HRB.out]; rintro e z3 ⟨rfl, g3⟩; have bwc := bwb.on g3 bwb.lt; have b2c := b2b.on g3 b2b.lt; have b3c := b3b.on g3 b3b.lt; have b4c := b4b.on g3 b4b.lt; have b5c := b5b.on g3 b5b.lt; have b6c := b6b.on g3 b6b.lt; have b7c := b7b.on g3 b7b.lt; have twc := twb.on g3; have x2c := x2b.on g3; have x3c := x3b.on g3; have x4c := x4b.on g3; have x5c := x5b.on g3; have x6c := x6b.on g3; have x7c := x7b.on g3; have y6c := y6b.on g3; have y7c := y7b.on g3; have blc := bel2 blb g3)
    | (go_at_call 22; (with_reducible refine (ours_c now A2 n2 c2 SS z3 x2c.tr hSSm).mono ?_); rintro e z4 ⟨U4, un4, uc4, rfl, ux4, g4⟩; have um4 : un4 ≤ 100000 := (by have := ux4.len; have := HlSS.out; omega); have bwd := bwc.on g4 bwc.lt; have b2d := b2c.on g4 b2c.lt; have b3d := b3c.on g4 b3c.lt; have b4d := b4c.on g4 b4c.lt; have b5d := b5c.on g4 b5c.lt; have b6d := b6c.on g4 b6c.lt; have b7d := b7c.on g4 b7c.lt; have twd := twc.on g4; have x2d := x2c.on g4; have x3d := x3c.on g4; have x4d := x4c.on g4; have x5d := x5c.on g4; have x6d := x6c.on g4; have x7d := x7c.on g4; have y6d := y6c.on g4; have y7d := y7c.on g4; have bld := bel2 blc g4)
    | (go_at_call 21; (with_reducible refine (same_r now U4 A3 un4 uc4 n3 c3 SS z4 ux4.tr x3d um4).mono ?_); rintro e z5 ⟨rfl, g5⟩; have bwe := bwd.on g5 bwd.lt; have b2e := b2d.on g5 b2d.lt; have b3e := b3d.on g5 b3d.lt; have b4e := b4d.on g5 b4d.lt; have b5e := b5d.on g5 b5d.lt; have b6e := b6d.on g5 b6d.lt; have b7e := b7d.on g5 b7d.lt; have twe := twd.on g5; have x2e := x2d.on g5; have x3e := x3d.on g5; have x4e := x4d.on g5; have x5e := x5d.on g5; have x6e := x6d.on g5; have x7e := x7d.on g5; have y6e := y6d.on g5; have y7e := y7d.on g5; have ble := bel2 bld g5)
    | (go_at_call 22; (with_reducible refine (ours_c now A4 n4 c4 SP z5 x4e.tr hSPm).mono ?_); rintro e z6 ⟨U6, un6, uc6, rfl, ux6, g6⟩; have um6 : un6 ≤ 100000 := (by have := ux6.len; have := HlSP.out; omega); have bwf := bwe.on g6 bwe.lt; have b2f := b2e.on g6 b2e.lt; have b3f := b3e.on g6 b3e.lt; have b4f := b4e.on g6 b4e.lt; have b5f := b5e.on g6 b5e.lt; have b6f := b6e.on g6 b6e.lt; have b7f := b7e.on g6 b7e.lt; have twf := twe.on g6; have x2f := x2e.on g6; have x3f := x3e.on g6; have x4f := x4e.on g6; have x5f := x5e.on g6; have x6f := x6e.on g6; have x7f := x7e.on g6; have y6f := y6e.on g6; have y7f := y7e.on g6; have blf := bel2 ble g6)
    | (go_at_call 21; (with_reducible refine (same_r now U6 A5 un6 uc6 n5 c5 SP z6 ux6.tr x5f um6).mono ?_); rintro e z7 ⟨rfl, g7⟩; have bwg := bwf.on g7 bwf.lt; have b2g := b2f.on g7 b2f.lt; have b3g := b3f.on g7 b3f.lt; have b4g := b4f.on g7 b4f.lt; have b5g := b5f.on g7 b5f.lt; have b6g := b6f.on g7 b6f.lt; have b7g := b7f.on g7 b7f.lt; have twg := twf.on g7; have x2g := x2f.on g7; have x3g := x3f.on g7; have x4g := x4f.on g7; have x5g := x5f.on g7; have x6g := x6f.on g7; have x7g := x7f.on g7; have y6g := y6f.on g7; have y7g := y7f.on g7; have blg := bel2 blf g7)
    | (go_at_call 22; (with_reducible refine (ours_c NT A6 n6 c6 ST z7 x6g.tr hSTm).mono ?_); rintro e z8 ⟨U8, un8, uc8, rfl, ux8, g8⟩; have um8 : un8 ≤ 100000 := (by have := ux8.len; have := HlST.out; omega); have bwh := bwg.on g8 bwg.lt; have b2h := b2g.on g8 b2g.lt; have b3h := b3g.on g8 b3g.lt; have b4h := b4g.on g8 b4g.lt; have b5h := b5g.on g8 b5g.lt; have b6h := b6g.on g8 b6g.lt; have b7h := b7g.on g8 b7g.lt; have twh := twg.on g8; have x2h := x2g.on g8; have x3h := x3g.on g8; have x4h := x4g.on g8; have x5h := x5g.on g8; have x6h := x6g.on g8; have x7h := x7g.on g8; have y6h := y6g.on g8; have y7h := y7g.on g8; have blh := bel2 blg g8)
    | (go_at_call 21; (with_reducible refine (same_r NT U8 A7 un8 uc8 n7 c7 ST z8 ux8.tr x7h um8).mono ?_); rintro e z9 ⟨rfl, g9⟩; have bwi := bwh.on g9 bwh.lt; have b2i := b2h.on g9 b2h.lt; have b3i := b3h.on g9 b3h.lt; have b4i := b4h.on g9 b4h.lt; have b5i := b5h.on g9 b5h.lt; have b6i := b6h.on g9 b6h.lt; have b7i := b7h.on g9 b7h.lt; have twi := twh.on g9; have x2i := x2h.on g9; have x3i := x3h.on g9; have x4i := x4h.on g9; have x5i := x5h.on g9; have x6i := x6h.on g9; have x7i := x7h.on g9; have y6i := y6h.on g9; have y7i := y7h.on g9; have bli := bel2 blh g9)
    | (go_at_call 23; (with_reducible refine (same_i _ _ _ _ _ _ _ z9 y6i y7i).mono ?_); rintro e z10 ⟨rfl, g10⟩; have bwj := bwi.on g10 bwi.lt; have b2j := b2i.on g10 b2i.lt; have b3j := b3i.on g10 b3i.lt; have b4j := b4i.on g10 b4i.lt; have b5j := b5i.on g10 b5i.lt; have b6j := b6i.on g10 b6i.lt; have b7j := b7i.on g10 b7i.lt; have twj := twi.on g10; have x2j := x2i.on g10; have x3j := x3i.on g10; have x4j := x4i.on g10; have x5j := x5i.on g10; have x6j := x6i.on g10; have x7j := x7i.on g10; have y6j := y6i.on g10; have y7j := y7i.on g10; have blj := bel2 bli g10))
  go_wp2_with fail
  go_ret
  exact ⟨rfl, blj⟩
end Go.Proofs.Ytgpmgghjcocfmaa
