/-
  The law PartyGaps, walked. Condition: the number is in its type's range.
-/
import Derived.Test.YtemhfaodgofcpaaPaF
set_option linter.unusedVariables false
set_option linter.unusedSimpArgs false
namespace Go.Proofs.Ytemhfaodgofcpaa
open Go.RowKit

set_option maxRecDepth 100000 in
set_option maxHeartbeats 4000000 in
theorem gaps_walk (hd : Nat) (p : Pk) (w : World) (hb : hd < 65536) : Calls Try.prog 7 #[.int .u16 (hd : Int), .agg (pA p)] w fun r w' => r = .returned (.bool true) ∧ Below w.heap.size w w' := by
  have qw : IntKind.i64.wrap (hd : Int) = (hd : Int) := IntWalk.i64_in _ (by omega)
  have qw2 : IntKind.i64.wrap ((hd : Int) + 1) = (hd : Int) + 1 := IntWalk.i64_in _ (by omega)
  by_cases h6 : p.tx.size ≤ 600
  · skip
    have q1 : decide ((600 : Int) < (p.tx.size : Int)) = false := by simp; omega
    have q1' : decide ((p.tx.size : Int) > 600) = false := by simp; omega
    by_cases hs : p.seq = (hd : Int)
    · have q2 : (p.seq == (hd : Int)) = true := by simp [hs]
      by_cases h5 : p.tx.size ≤ 500
      · have q3 : decide ((p.tx.size : Int) ≤ 500) = true := by simp; omega
        have H1 := fun W => hear_y (hd : Int) p W (hea_ok (by omega) (by omega) hs h5)
        have qt : (p.tx.toList == p.tx.toList) = true := beq_self_eq_true _
        clear hs h5 h6
        go_enter Try.func7, Try.ntmps7
        go_wp2_with (first | ((with_reducible refine st_box 23 _ (pA p) ?_ ?_); exact rfl))
        refine ⟨fun V1 g1 n1 f1 => ?_⟩
        have up1 : w.heap.size ≤ g1 := Nat.le_of_eq f1.at_
        have bl1 := f1.bel
        clear f1
        have l3 := le_tr (Below.refl _ _) bl1
        clear bl1
        go_wp2_with fail
        (with_reducible refine (alive_c _).mono ?_)
        rintro e w4 ⟨rfl, b4⟩
        have r6_p := le_on n1 b4
        have l6 := le_tr l3 b4
        clear n1 l3
        clear b4
        have c7 : w4.cell? ⟨g1, 1, none⟩ = some (.string (p.tx)) := CB.cell r6_p 1
        go_wp2_with (first | ((with_reducible refine st_builtn 26 0 _ (.int .i64 (hd : Int)) (hA (hd : Int)) ?_ ?_ ?_); exact rfl; exact built_i _) | ((with_reducible refine st_alloc 26 (hA (0)) ?_ ?_); exact zero_in))
        refine ⟨fun V8 g8 n8 f8 => ?_⟩
        clear c7
        have ne8_p := f8.ne r6_p
        have up8 : w.heap.size ≤ g8 := f8.up l6
        have bl8 := f8.bel
        clear f8
        have r10_p := le_on r6_p bl8
        have l10 := le_tr l6 bl8
        clear r6_p l6
        clear bl8
        go_wp2_with (first | ((with_reducible refine st_store 26 _ _ g8 (hA (hd : Int)) ?_ ?_ n8 ?_ ?_ ?_ ?_); exact rfl; exact rfl; exact Try.zIn; exact rfl; exact hA_one _))
        refine ⟨fun V11 n11 k11 => ?_⟩
        have m11_p := k11.on r10_p ne8_p
        have o11 := k11.bel _ _ l10 up8
        clear k11
        clear n8 r10_p l10
        go_wp2_with (first | (first | ((with_reducible refine st_load 26 _ g8 ?_ n11 Try.underlying26 ?_ ?_ ?_); exact rfl; exact rfl; exact Try.zIn) | ((with_reducible refine st_loadG 26 _ g8 ?_ n11 Try.underlying26 ?_ ?_ ?_ ?_); exact rfl; exact rfl; exact Try.zIn; exact rfl)) | (first | ((with_reducible refine st_load 23 _ g1 ?_ m11_p Try.underlying23 ?_ ?_ ?_); exact rfl; exact rfl; exact Try.zPr) | ((with_reducible refine st_loadG 23 _ g1 ?_ m11_p Try.underlying23 ?_ ?_ ?_ ?_); exact rfl; exact rfl; exact Try.zPr; exact rfl)))
        (with_reducible refine (H1 _).mono ?_)
        rintro e w12 ⟨rfl, b12⟩
        have r14_p := le_on m11_p b12
        have r14_i := le_on n11 b12
        have l14 := le_tr o11 b12
        clear m11_p n11 o11
        clear b12
        go_wp2_with (first | ((with_reducible refine st_alloc 26 (hA (0)) ?_ ?_); exact zero_in))
        refine ⟨fun V15 g15 n15 f15 => ?_⟩
        have ne15_p := f15.ne r14_p
        have ne15_i := f15.ne r14_i
        have up15 : w.heap.size ≤ g15 := f15.up l14
        have bl15 := f15.bel
        clear f15
        have r17_p := le_on r14_p bl15
        have r17_i := le_on r14_i bl15
        have l17 := le_tr l14 bl15
        clear r14_p r14_i l14
        clear bl15
        go_wp2_with (first | ((with_reducible refine st_store 26 _ _ g15 (hA ((hd : Int) + 1)) ?_ ?_ n15 ?_ ?_ ?_ ?_); exact rfl; exact rfl; exact Try.zIn; exact rfl; exact hA_one _))
        refine ⟨fun V18 n18 k18 => ?_⟩
        have m18_p := k18.on r17_p ne15_p
        have m18_i := k18.on r17_i ne15_i
        have o18 := k18.bel _ _ l17 up15
        clear k18
        clear n15 r17_p r17_i l17
        have c19 : V18.cell? ⟨g1, 0, none⟩ = some (.int .i64 (p.seq)) := CB.cell m18_p 0
        have c20 : V18.cell? ⟨g1, 1, none⟩ = some (.string (p.tx)) := CB.cell m18_p 1
        have c21 : V18.cell? ⟨g8, 0, none⟩ = some (.int .i64 (hd : Int)) := CB.cell m18_i 0
        have c22 : V18.cell? ⟨g15, 0, none⟩ = some (.int .i64 ((hd : Int) + 1)) := CB.cell n18 0
        go_wp2_with fail
        go_ret
        exact ⟨rfl, o18⟩
      have q3 : decide ((p.tx.size : Int) ≤ 500) = false := by simp; omega
      have hne : ¬ eHea (hd : Int) p = 0 := by unfold eHea; rw [if_pos (by omega)]; decide
      obtain ⟨k, hk⟩ : ∃ k, eHea (hd : Int) p = k := ⟨_, rfl⟩
      rw [hk] at hne
      have H1 := fun W => hear_n (hd : Int) p k W hk hne
      have q5 : ((k : Int) != 0) = true := by simp [hne]
      have q6 : (k != 0) = true := by simp [hne]
      have qt : (ByteArray.empty.toList == ByteArray.empty.toList) = true := beq_self_eq_true _
      have qt2 : (ByteArray.empty.toList == (⟨#[]⟩ : ByteArray).toList) = true := beq_self_eq_true _
      have hE : ∀ V, (Op.equalIn 10000 26 (.agg (hA (hd : Int))) (.agg (hA (hd : Int)))).run Try.prog V = .ok true V := fun V => by have := eq_in (hd : Int) (hd : Int) V; rw [show ((hd : Int) == (hd : Int)) = true by simp] at this; exact this
      clear hs h5 h6 hk hne
      go_enter Try.func7, Try.ntmps7
      go_wp2_with (first | ((with_reducible refine st_box 23 _ (pA p) ?_ ?_); exact rfl))
      refine ⟨fun V1 g1 n1 f1 => ?_⟩
      have up1 : w.heap.size ≤ g1 := Nat.le_of_eq f1.at_
      have bl1 := f1.bel
      clear f1
      have l3 := le_tr (Below.refl _ _) bl1
      clear bl1
      go_wp2_with fail
      (with_reducible refine (alive_c _).mono ?_)
      rintro e w4 ⟨rfl, b4⟩
      have r6_p := le_on n1 b4
      have l6 := le_tr l3 b4
      clear n1 l3
      clear b4
      have c7 : w4.cell? ⟨g1, 1, none⟩ = some (.string (p.tx)) := CB.cell r6_p 1
      go_wp2_with (first | ((with_reducible refine st_builtn 26 0 _ (.int .i64 (hd : Int)) (hA (hd : Int)) ?_ ?_ ?_); exact rfl; exact built_i _) | ((with_reducible refine st_alloc 26 (hA (0)) ?_ ?_); exact zero_in))
      refine ⟨fun V8 g8 n8 f8 => ?_⟩
      clear c7
      have ne8_p := f8.ne r6_p
      have up8 : w.heap.size ≤ g8 := f8.up l6
      have bl8 := f8.bel
      clear f8
      have r10_p := le_on r6_p bl8
      have l10 := le_tr l6 bl8
      clear r6_p l6
      clear bl8
      go_wp2_with (first | ((with_reducible refine st_store 26 _ _ g8 (hA (hd : Int)) ?_ ?_ n8 ?_ ?_ ?_ ?_); exact rfl; exact rfl; exact Try.zIn; exact rfl; exact hA_one _))
      refine ⟨fun V11 n11 k11 => ?_⟩
      have m11_p := k11.on r10_p ne8_p
      have o11 := k11.bel _ _ l10 up8
      clear k11
      clear n8 r10_p l10
      go_wp2_with (first | (first | ((with_reducible refine st_load 26 _ g8 ?_ n11 Try.underlying26 ?_ ?_ ?_); exact rfl; exact rfl; exact Try.zIn) | ((with_reducible refine st_loadG 26 _ g8 ?_ n11 Try.underlying26 ?_ ?_ ?_ ?_); exact rfl; exact rfl; exact Try.zIn; exact rfl)) | (first | ((with_reducible refine st_load 23 _ g1 ?_ m11_p Try.underlying23 ?_ ?_ ?_); exact rfl; exact rfl; exact Try.zPr) | ((with_reducible refine st_loadG 23 _ g1 ?_ m11_p Try.underlying23 ?_ ?_ ?_ ?_); exact rfl; exact rfl; exact Try.zPr; exact rfl)))
      (with_reducible refine (H1 _).mono ?_)
      rintro e w12 ⟨rfl, b12⟩
      have r14_p := le_on m11_p b12
      have r14_i := le_on n11 b12
      have l14 := le_tr o11 b12
      clear m11_p n11 o11
      clear b12
      go_wp2_with (first | ((with_reducible refine st_alloc 26 (hA (0)) ?_ ?_); exact zero_in))
      refine ⟨fun V15 g15 n15 f15 => ?_⟩
      have ne15_p := f15.ne r14_p
      have ne15_i := f15.ne r14_i
      have up15 : w.heap.size ≤ g15 := f15.up l14
      have bl15 := f15.bel
      clear f15
      have r17_p := le_on r14_p bl15
      have r17_i := le_on r14_i bl15
      have l17 := le_tr l14 bl15
      clear r14_p r14_i l14
      clear bl15
      go_wp2_with (first | ((with_reducible refine st_store 26 _ _ g15 (hA (hd : Int)) ?_ ?_ n15 ?_ ?_ ?_ ?_); exact rfl; exact rfl; exact Try.zIn; exact rfl; exact hA_one _))
      refine ⟨fun V18 n18 k18 => ?_⟩
      have m18_p := k18.on r17_p ne15_p
      have m18_i := k18.on r17_i ne15_i
      have o18 := k18.bel _ _ l17 up15
      clear k18
      clear n15 r17_p r17_i l17
      have c19 : V18.cell? ⟨g1, 0, none⟩ = some (.int .i64 (p.seq)) := CB.cell m18_p 0
      have c20 : V18.cell? ⟨g1, 1, none⟩ = some (.string (p.tx)) := CB.cell m18_p 1
      have c21 : V18.cell? ⟨g8, 0, none⟩ = some (.int .i64 (hd : Int)) := CB.cell m18_i 0
      have c22 : V18.cell? ⟨g15, 0, none⟩ = some (.int .i64 (hd : Int)) := CB.cell n18 0
      go_wp2_with (first | (first | ((with_reducible refine st_load 26 _ g15 ?_ n18 Try.underlying26 ?_ ?_ ?_); exact rfl; exact rfl; exact Try.zIn) | ((with_reducible refine st_loadG 26 _ g15 ?_ n18 Try.underlying26 ?_ ?_ ?_ ?_); exact rfl; exact rfl; exact Try.zIn; exact rfl)) | (first | ((with_reducible refine st_load 26 _ g8 ?_ m18_i Try.underlying26 ?_ ?_ ?_); exact rfl; exact rfl; exact Try.zIn) | ((with_reducible refine st_loadG 26 _ g8 ?_ m18_i Try.underlying26 ?_ ?_ ?_ ?_); exact rfl; exact rfl; exact Try.zIn; exact rfl)))
      go_ret
      exact ⟨rfl, o18⟩
    have q2 : (p.seq == (hd : Int)) = false := by simp [hs]
    have hne : ¬ eHea (hd : Int) p = 0 := hea_no hs
    obtain ⟨k, hk⟩ : ∃ k, eHea (hd : Int) p = k := ⟨_, rfl⟩
    rw [hk] at hne
    have H1 := fun W => hear_n (hd : Int) p k W hk hne
    have q5 : ((k : Int) != 0) = true := by simp [hne]
    have q6 : (k != 0) = true := by simp [hne]
    have qt : (ByteArray.empty.toList == ByteArray.empty.toList) = true := beq_self_eq_true _
    have qt2 : (ByteArray.empty.toList == (⟨#[]⟩ : ByteArray).toList) = true := beq_self_eq_true _
    have hE : ∀ V, (Op.equalIn 10000 26 (.agg (hA (hd : Int))) (.agg (hA (hd : Int)))).run Try.prog V = .ok true V := fun V => by have := eq_in (hd : Int) (hd : Int) V; rw [show ((hd : Int) == (hd : Int)) = true by simp] at this; exact this
    clear hs h6 hk hne
    go_enter Try.func7, Try.ntmps7
    go_wp2_with (first | ((with_reducible refine st_box 23 _ (pA p) ?_ ?_); exact rfl))
    refine ⟨fun V1 g1 n1 f1 => ?_⟩
    have up1 : w.heap.size ≤ g1 := Nat.le_of_eq f1.at_
    have bl1 := f1.bel
    clear f1
    have l3 := le_tr (Below.refl _ _) bl1
    clear bl1
    go_wp2_with fail
    (with_reducible refine (alive_c _).mono ?_)
    rintro e w4 ⟨rfl, b4⟩
    have r6_p := le_on n1 b4
    have l6 := le_tr l3 b4
    clear n1 l3
    clear b4
    have c7 : w4.cell? ⟨g1, 1, none⟩ = some (.string (p.tx)) := CB.cell r6_p 1
    go_wp2_with (first | ((with_reducible refine st_builtn 26 0 _ (.int .i64 (hd : Int)) (hA (hd : Int)) ?_ ?_ ?_); exact rfl; exact built_i _) | ((with_reducible refine st_alloc 26 (hA (0)) ?_ ?_); exact zero_in))
    refine ⟨fun V8 g8 n8 f8 => ?_⟩
    clear c7
    have ne8_p := f8.ne r6_p
    have up8 : w.heap.size ≤ g8 := f8.up l6
    have bl8 := f8.bel
    clear f8
    have r10_p := le_on r6_p bl8
    have l10 := le_tr l6 bl8
    clear r6_p l6
    clear bl8
    go_wp2_with (first | ((with_reducible refine st_store 26 _ _ g8 (hA (hd : Int)) ?_ ?_ n8 ?_ ?_ ?_ ?_); exact rfl; exact rfl; exact Try.zIn; exact rfl; exact hA_one _))
    refine ⟨fun V11 n11 k11 => ?_⟩
    have m11_p := k11.on r10_p ne8_p
    have o11 := k11.bel _ _ l10 up8
    clear k11
    clear n8 r10_p l10
    go_wp2_with (first | (first | ((with_reducible refine st_load 26 _ g8 ?_ n11 Try.underlying26 ?_ ?_ ?_); exact rfl; exact rfl; exact Try.zIn) | ((with_reducible refine st_loadG 26 _ g8 ?_ n11 Try.underlying26 ?_ ?_ ?_ ?_); exact rfl; exact rfl; exact Try.zIn; exact rfl)) | (first | ((with_reducible refine st_load 23 _ g1 ?_ m11_p Try.underlying23 ?_ ?_ ?_); exact rfl; exact rfl; exact Try.zPr) | ((with_reducible refine st_loadG 23 _ g1 ?_ m11_p Try.underlying23 ?_ ?_ ?_ ?_); exact rfl; exact rfl; exact Try.zPr; exact rfl)))
    (with_reducible refine (H1 _).mono ?_)
    rintro e w12 ⟨rfl, b12⟩
    have r14_p := le_on m11_p b12
    have r14_i := le_on n11 b12
    have l14 := le_tr o11 b12
    clear m11_p n11 o11
    clear b12
    go_wp2_with (first | ((with_reducible refine st_alloc 26 (hA (0)) ?_ ?_); exact zero_in))
    refine ⟨fun V15 g15 n15 f15 => ?_⟩
    have ne15_p := f15.ne r14_p
    have ne15_i := f15.ne r14_i
    have up15 : w.heap.size ≤ g15 := f15.up l14
    have bl15 := f15.bel
    clear f15
    have r17_p := le_on r14_p bl15
    have r17_i := le_on r14_i bl15
    have l17 := le_tr l14 bl15
    clear r14_p r14_i l14
    clear bl15
    go_wp2_with (first | ((with_reducible refine st_store 26 _ _ g15 (hA (hd : Int)) ?_ ?_ n15 ?_ ?_ ?_ ?_); exact rfl; exact rfl; exact Try.zIn; exact rfl; exact hA_one _))
    refine ⟨fun V18 n18 k18 => ?_⟩
    have m18_p := k18.on r17_p ne15_p
    have m18_i := k18.on r17_i ne15_i
    have o18 := k18.bel _ _ l17 up15
    clear k18
    clear n15 r17_p r17_i l17
    have c19 : V18.cell? ⟨g1, 0, none⟩ = some (.int .i64 (p.seq)) := CB.cell m18_p 0
    have c20 : V18.cell? ⟨g1, 1, none⟩ = some (.string (p.tx)) := CB.cell m18_p 1
    have c21 : V18.cell? ⟨g8, 0, none⟩ = some (.int .i64 (hd : Int)) := CB.cell m18_i 0
    have c22 : V18.cell? ⟨g15, 0, none⟩ = some (.int .i64 (hd : Int)) := CB.cell n18 0
    go_wp2_with (first | (first | ((with_reducible refine st_load 26 _ g15 ?_ n18 Try.underlying26 ?_ ?_ ?_); exact rfl; exact rfl; exact Try.zIn) | ((with_reducible refine st_loadG 26 _ g15 ?_ n18 Try.underlying26 ?_ ?_ ?_ ?_); exact rfl; exact rfl; exact Try.zIn; exact rfl)) | (first | ((with_reducible refine st_load 26 _ g8 ?_ m18_i Try.underlying26 ?_ ?_ ?_); exact rfl; exact rfl; exact Try.zIn) | ((with_reducible refine st_loadG 26 _ g8 ?_ m18_i Try.underlying26 ?_ ?_ ?_ ?_); exact rfl; exact rfl; exact Try.zIn; exact rfl)))
    go_ret
    exact ⟨rfl, o18⟩
  have q1 : decide ((600 : Int) < (p.tx.size : Int)) = true := by simp; omega
  have q1' : decide ((p.tx.size : Int) > 600) = true := by simp; omega
  go_enter Try.func7, Try.ntmps7
  go_wp2_with (first | ((with_reducible refine st_box 23 _ (pA p) ?_ ?_); exact rfl))
  refine ⟨fun V1 g1 n1 f1 => ?_⟩
  have up1 : w.heap.size ≤ g1 := Nat.le_of_eq f1.at_
  have bl1 := f1.bel
  clear f1
  have l3 := le_tr (Below.refl _ _) bl1
  clear bl1
  go_wp2_with fail
  (with_reducible refine (alive_c _).mono ?_)
  rintro e w4 ⟨rfl, b4⟩
  have r6_p := le_on n1 b4
  have l6 := le_tr l3 b4
  clear n1 l3
  clear b4
  have c7 : w4.cell? ⟨g1, 1, none⟩ = some (.string (p.tx)) := CB.cell r6_p 1
  go_wp2_with fail
  go_ret
  exact ⟨rfl, l6⟩
end Go.Proofs.Ytemhfaodgofcpaa
