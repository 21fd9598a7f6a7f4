/-
  The law NoteHands, walked. Condition: the bytes are in their type's range.
-/
import Derived.Test.YtbkfepgcnijlfaaNoL
set_option linter.unusedVariables false
set_option linter.unusedSimpArgs false
namespace Go.Proofs.Ytbkfepgcnijlfaa
open Go.RowKit
open Dk (Nt InN RightN BoundN MsgN NoMsg KindN EpN bound_n)


set_option maxRecDepth 100000 in
set_option maxHeartbeats 4000000 in
theorem hands_walk (n : Nt) (w : World) (hi : InN n) (hk : n.kd = 1 ∧ n.tx = 0 ∧ n.ep = 0 ∧ n.vl = 0) : Calls Try.prog 7 #[.agg (mgA n), .int .u8 n.mb] w fun r w' => r = .returned (.bool true) ∧ Below w.heap.size w w' := by
  by_cases hs : n.cg.size ≤ 700
  rotate_left
  · skip
    have q1 : decide ((700 : Int) < (n.cg.size : Int)) = true := by simp; omega
    have q1' : decide ((n.cg.size : Int) > 700) = true := by simp; omega
    go_enter Try.func7, Try.ntmps7
    go_wp2_with (first | ((with_reducible refine st_box 23 _ (mgA n) ?_ ?_); exact rfl))
    refine ⟨fun V1 g1 n1 f1 => ?_⟩
    have up1 : w.heap.size ≤ g1 := Nat.le_of_eq f1.at_
    have bl1 := f1.bel
    clear f1
    have l3 := le_tr (Below.refl _ _) bl1
    clear bl1
    go_wp2_with fail
    (with_reducible refine (alive_c _).mono ?_)
    rintro e w4 ⟨rfl, b4⟩
    have r6_g := le_on n1 b4
    have l6 := le_tr l3 b4
    clear n1 l3
    clear b4
    have c7 : w4.cell? ⟨g1, 4, none⟩ = some (.string (n.cg)) := CB.cell r6_g 4
    go_wp2_with fail
    go_ret
    exact ⟨rfl, l6⟩
  have q1 : decide ((700 : Int) < (n.cg.size : Int)) = false := by simp; omega
  have q1' : decide ((n.cg.size : Int) > 700) = false := by simp; omega
  have hB : Try.prog.built 33 [(0, .int .i64 1), (1, .int .u8 n.mb), (5, .agg (mgA n))] = some (ntA n) := by
    have := built_n3 1 n.mb n
    have e : (⟨1, n.mb, 0, 0, 0, n.mq, n.mf, n.mt, n.me, n.cg⟩ : Nt) = n := by apply Dk.Nt.ext_ <;> simp only <;> omega
    rw [e] at this
    exact this
  have hB := Lib.hid hB
  clear hk
  have C6 := fun W => right_c n W
  have E : ∀ V : World, (Op.equalIn 10000 33 (.agg (ntA n)) (.agg (ntA n))).run Try.prog V = .ok true V := fun V => by have := eq_nc n n V; rw [eqN_refl] at this; exact this
  have E2 : ∀ V : World, (Op.equalIn 10000 23 (.agg (mgA n)) (.agg (mgA n))).run Try.prog V = .ok true V := fun V => by have := eq_mr n n 9998 V; rw [eqM_refl] at this; exact this
  by_cases hr : RightN n
  · skip
    simp only [decide_eq_true hr] at C6
    have HI := Lib.hid hi
    have HR := Lib.hid hr
    clear hi hr
    obtain ⟨k, hk⟩ : ∃ k, 25 + n.cg.size = k := ⟨_, rfl⟩
    have HK := Lib.hid hk
    clear hk
    go_enter Try.func7, Try.ntmps7
    go_wp2_with (first | ((with_reducible refine st_box 23 _ (mgA n) ?_ ?_); exact rfl))
    refine ⟨fun V1 g1 n1 f1 => ?_⟩
    have up1 : w.heap.size ≤ g1 := Nat.le_of_eq f1.at_
    have bl1 := f1.bel
    clear f1
    have l3 := le_tr (Below.refl _ _) bl1
    clear bl1
    go_wp2_with fail
    (with_reducible refine (alive_c _).mono ?_)
    rintro e w4 ⟨rfl, b4⟩
    have r6_g := le_on n1 b4
    have l6 := le_tr l3 b4
    clear n1 l3
    clear b4
    have c7 : w4.cell? ⟨g1, 4, none⟩ = some (.string (n.cg)) := CB.cell r6_g 4
    go_wp2_with (first | (first | ((with_reducible refine st_load 23 _ g1 ?_ r6_g Try.underlying23 ?_ ?_ ?_); exact rfl; exact rfl; exact Try.zMr) | ((with_reducible refine st_loadG 23 _ g1 ?_ r6_g Try.underlying23 ?_ ?_ ?_ ?_); exact rfl; exact rfl; exact Try.zMr; exact rfl)) | ((with_reducible refine st_builtk3 33 (v0 := .int .i64 1) (v1 := .int .u8 n.mb) (v2 := .agg (mgA n)) ?_ ?_ ?_ hB.out ?_); exact rfl; exact rfl; exact rfl) | ((with_reducible refine st_alloc 33 (ntA zN) ?_ ?_); exact zero_nc))
    refine ⟨fun V8 g8 n8 f8 => ?_⟩
    clear c7
    have ne8_g := f8.ne r6_g
    have up8 : w.heap.size ≤ g8 := f8.up l6
    have bl8 := f8.bel
    clear f8
    have r10_g := le_on r6_g bl8
    have l10 := le_tr l6 bl8
    clear r6_g l6
    clear bl8
    go_wp2_with (first | ((with_reducible refine st_store 33 _ _ g8 (ntA n) ?_ ?_ n8 ?_ ?_ ?_ ?_); exact rfl; exact rfl; exact Try.zNc; exact rfl; exact ntA_one _))
    refine ⟨fun V11 n11 k11 => ?_⟩
    have m11_g := k11.on r10_g ne8_g
    have o11 := k11.bel _ _ l10 up8
    clear k11
    clear n8 r10_g l10
    go_wp2_with (first | (first | ((with_reducible refine st_load 33 _ g8 ?_ n11 Try.underlying33 ?_ ?_ ?_); exact rfl; exact rfl; exact Try.zNc) | ((with_reducible refine st_loadG 33 _ g8 ?_ n11 Try.underlying33 ?_ ?_ ?_ ?_); exact rfl; exact rfl; exact Try.zNc; exact rfl)))
    have lt12_g := CB.lt m11_g
    have lt12_n := CB.lt n11
    have lb12 : w.heap.size ≤ V11.heap.size := Below.size (B := w.heap.size) o11
    (with_reducible refine (enc_yes n k _ HI.out HR.out HK.out).mono ?_)
    rintro e w12 ⟨A2, q2, G2, rfl, h2, b12⟩
    have r14_g := le_on m11_g b12
    have r14_n := le_on n11 b12
    have l14 := le_tr o11 b12
    clear m11_g n11 o11
    clear b12
    have na15 := SO.above h2 lt12_g
    have na16 := SO.above h2 lt12_n
    have sm12_x := SO.mono h2 lb12
    clear h2
    clear lb12 lt12_g lt12_n
    go_wp2_with fail
    (with_reducible refine (dec_yes_c (back_n HI.out HR.out) _ _ _ _ (SO.rr sm12_x)).mono ?_)
    rintro e w17 ⟨rfl, b17⟩
    have r18_x := SO.on sm12_x b17
    have r19_g := le_on r14_g b17
    have r19_n := le_on r14_n b17
    have l19 := le_tr l14 b17
    clear r14_g r14_n l14
    clear sm12_x
    clear b17
    go_wp2_with (first | ((with_reducible refine st_alloc 33 (ntA zN) ?_ ?_); exact zero_nc))
    refine ⟨fun V20 g20 n20 f20 => ?_⟩
    have ne20_g := f20.ne r19_g
    have ne20_n := f20.ne r19_n
    have no20_x := SO.fresh r18_x (Nat.le_of_eq f20.at_)
    have up20 : w.heap.size ≤ g20 := f20.up l19
    have bl20 := f20.bel
    clear f20
    have r21_x := SO.on r18_x bl20
    have r22_g := le_on r19_g bl20
    have r22_n := le_on r19_n bl20
    have l22 := le_tr l19 bl20
    clear r19_g r19_n l19
    clear r18_x
    clear bl20
    go_wp2_with (first | ((with_reducible refine st_store 33 _ _ g20 (ntA n) ?_ ?_ n20 ?_ ?_ ?_ ?_); exact rfl; exact rfl; exact Try.zNc; exact rfl; exact ntA_one _))
    refine ⟨fun V23 n23 k23 => ?_⟩
    have m23_g := k23.on r22_g ne20_g
    have m23_n := k23.on r22_n ne20_n
    have m23_x := SO.wr r21_x k23 no20_x
    have o23 := k23.bel _ _ l22 up20
    clear k23
    clear n20 r22_g r22_n r21_x l22
    go_wp2_with (first | (first | ((with_reducible refine st_load 33 _ g20 ?_ n23 Try.underlying33 ?_ ?_ ?_); exact rfl; exact rfl; exact Try.zNc) | ((with_reducible refine st_loadG 33 _ g20 ?_ n23 Try.underlying33 ?_ ?_ ?_ ?_); exact rfl; exact rfl; exact Try.zNc; exact rfl)) | (first | ((with_reducible refine st_load 33 _ g8 ?_ m23_n Try.underlying33 ?_ ?_ ?_); exact rfl; exact rfl; exact Try.zNc) | ((with_reducible refine st_loadG 33 _ g8 ?_ m23_n Try.underlying33 ?_ ?_ ?_ ?_); exact rfl; exact rfl; exact Try.zNc; exact rfl)) | (first | ((with_reducible refine st_load 23 _ g1 ?_ m23_g Try.underlying23 ?_ ?_ ?_); exact rfl; exact rfl; exact Try.zMr) | ((with_reducible refine st_loadG 23 _ g1 ?_ m23_g Try.underlying23 ?_ ?_ ?_ ?_); exact rfl; exact rfl; exact Try.zMr; exact rfl)) | (first | ((with_reducible refine st_part 31 _ g20 5 ?_ (pt := mgA n) n23 ?_ Try.underlying31 ?_ ?_ ?_); exact rfl; exact ntA_pmc _; exact rfl; exact Try.zMc) | ((with_reducible refine st_partG 31 _ g20 5 ?_ (pt := mgA n) n23 ?_ Try.underlying31 ?_ ?_ ?_ ?_); exact rfl; exact ntA_pmc _; exact rfl; exact Try.zMc; exact rfl)))
    go_ret
    exact ⟨rfl, o23⟩
  simp only [decide_eq_false hr] at C6
  have HI := Lib.hid hi
  have HR := Lib.hid hr
  clear hi hr
  go_enter Try.func7, Try.ntmps7
  go_wp2_with (first | ((with_reducible refine st_box 23 _ (mgA n) ?_ ?_); exact rfl))
  refine ⟨fun V1 g1 n1 f1 => ?_⟩
  have up1 : w.heap.size ≤ g1 := Nat.le_of_eq f1.at_
  have bl1 := f1.bel
  clear f1
  have l3 := le_tr (Below.refl _ _) bl1
  clear bl1
  go_wp2_with fail
  (with_reducible refine (alive_c _).mono ?_)
  rintro e w4 ⟨rfl, b4⟩
  have r6_g := le_on n1 b4
  have l6 := le_tr l3 b4
  clear n1 l3
  clear b4
  have c7 : w4.cell? ⟨g1, 4, none⟩ = some (.string (n.cg)) := CB.cell r6_g 4
  go_wp2_with (first | (first | ((with_reducible refine st_load 23 _ g1 ?_ r6_g Try.underlying23 ?_ ?_ ?_); exact rfl; exact rfl; exact Try.zMr) | ((with_reducible refine st_loadG 23 _ g1 ?_ r6_g Try.underlying23 ?_ ?_ ?_ ?_); exact rfl; exact rfl; exact Try.zMr; exact rfl)) | ((with_reducible refine st_builtk3 33 (v0 := .int .i64 1) (v1 := .int .u8 n.mb) (v2 := .agg (mgA n)) ?_ ?_ ?_ hB.out ?_); exact rfl; exact rfl; exact rfl) | ((with_reducible refine st_alloc 33 (ntA zN) ?_ ?_); exact zero_nc))
  refine ⟨fun V8 g8 n8 f8 => ?_⟩
  clear c7
  have ne8_g := f8.ne r6_g
  have up8 : w.heap.size ≤ g8 := f8.up l6
  have bl8 := f8.bel
  clear f8
  have r10_g := le_on r6_g bl8
  have l10 := le_tr l6 bl8
  clear r6_g l6
  clear bl8
  go_wp2_with (first | ((with_reducible refine st_store 33 _ _ g8 (ntA n) ?_ ?_ n8 ?_ ?_ ?_ ?_); exact rfl; exact rfl; exact Try.zNc; exact rfl; exact ntA_one _))
  refine ⟨fun V11 n11 k11 => ?_⟩
  have m11_g := k11.on r10_g ne8_g
  have o11 := k11.bel _ _ l10 up8
  clear k11
  clear n8 r10_g l10
  go_wp2_with (first | (first | ((with_reducible refine st_load 33 _ g8 ?_ n11 Try.underlying33 ?_ ?_ ?_); exact rfl; exact rfl; exact Try.zNc) | ((with_reducible refine st_loadG 33 _ g8 ?_ n11 Try.underlying33 ?_ ?_ ?_ ?_); exact rfl; exact rfl; exact Try.zNc; exact rfl)))
  have lt12_g := CB.lt m11_g
  have lt12_n := CB.lt n11
  have lb12 : w.heap.size ≤ V11.heap.size := Below.size (B := w.heap.size) o11
  (with_reducible refine (enc_not n _ HI.out HR.out).mono ?_)
  rintro e w12 ⟨A2, q2, G2, rfl, h2, b12⟩
  have r14_g := le_on m11_g b12
  have r14_n := le_on n11 b12
  have l14 := le_tr o11 b12
  clear m11_g n11 o11
  clear b12
  have na15 := SO.above h2 lt12_g
  have na16 := SO.above h2 lt12_n
  have sm12_x := SO.mono h2 lb12
  clear h2
  clear lb12 lt12_g lt12_n
  go_wp2_with (first | (first | ((with_reducible refine st_load 33 _ g8 ?_ r14_n Try.underlying33 ?_ ?_ ?_); exact rfl; exact rfl; exact Try.zNc) | ((with_reducible refine st_loadG 33 _ g8 ?_ r14_n Try.underlying33 ?_ ?_ ?_ ?_); exact rfl; exact rfl; exact Try.zNc; exact rfl)))
  (with_reducible refine (C6 _).mono ?_)
  rintro e w17 ⟨rfl, b17⟩
  have r18_x := SO.on sm12_x b17
  have r19_g := le_on r14_g b17
  have r19_n := le_on r14_n b17
  have l19 := le_tr l14 b17
  clear r14_g r14_n l14
  clear sm12_x
  clear b17
  go_wp2_with fail
  go_ret
  exact ⟨rfl, l19⟩
end Go.Proofs.Ytbkfepgcnijlfaa
