/-
  The law PartyHears, walked. No condition.
-/
import Derived.Test.YtemhfaodgofcpaaPaF
set_option linter.unusedVariables false
set_option linter.unusedSimpArgs false
namespace Go.Proofs.Ytemhfaodgofcpaa
open Go.RowKit

set_option maxRecDepth 100000 in
set_option maxHeartbeats 4000000 in
theorem hears_walk (h : Int) (p : Pk) (w : World) : Calls Try.prog 3 #[.int .i64 h, .agg (pA p)] w fun r w' => r = .returned (.bool true) ∧ Below w.heap.size w w' := by
  have H1 := fun W => hear_c h p W
  have H2 := fun W => hear_r h p W
  unfold HPost at H1 H2
  obtain ⟨x, hx⟩ : ∃ x, sHea h p = x := ⟨_, rfl⟩
  obtain ⟨t, ht⟩ : ∃ t, tHea h p = t := ⟨_, rfl⟩
  obtain ⟨e0, he⟩ : ∃ e, eHea h p = e := ⟨_, rfl⟩
  rw [hx, ht, he] at H1 H2
  clear hx ht he
  have hE : ∀ V, (Op.equalIn 10000 31 (.agg (hA x)) (.agg (hA x))).run Try.prog V = .ok true V := fun V => by have := eq_ir x x V; rw [show (x == x) = true by simp] at this; exact this
  have qt : (t.toList == t.toList) = true := beq_self_eq_true _
  have qe : ((e0 : Int) == (e0 : Int)) = true := by simp
  by_cases h6 : p.tx.size ≤ 600
  · skip
    have q1 : decide ((600 : Int) < (p.tx.size : Int)) = false := by simp; omega
    have q1' : decide ((p.tx.size : Int) > 600) = false := by simp; omega
    go_enter Try.func3, Try.ntmps3
    go_wp2_with (first | ((with_reducible refine st_box 23 _ (pA p) ?_ ?_); exact rfl))
    refine ⟨fun V1 g1 n1 f1 => ?_⟩
    have up1 : w.heap.size ≤ g1 := Nat.le_of_eq f1.at_
    have bl1 := f1.bel
    clear f1
    have l3 := le_tr (Below.refl _ _) bl1
    clear bl1
    go_wp2_with fail
    (with_reducible refine (alive_c _).mono ?_)
    rintro e w4 ⟨rfl, b4⟩
    have r6_p := le_on n1 b4
    have l6 := le_tr l3 b4
    clear n1 l3
    clear b4
    have c7 : w4.cell? ⟨g1, 1, none⟩ = some (.string (p.tx)) := CB.cell r6_p 1
    go_wp2_with (first | ((with_reducible refine st_builtn 26 0 _ (.int .i64 h) (hA h) ?_ ?_ ?_); exact rfl; exact built_i _) | ((with_reducible refine st_load 23 _ g1 ?_ r6_p Try.underlying23 ?_ ?_ ?_); exact rfl; exact rfl; exact Try.zPr))
    (with_reducible refine (H1 _).mono ?_)
    rintro e w8 ⟨rfl, b8⟩
    clear c7
    have r10_p := le_on r6_p b8
    have l10 := le_tr l6 b8
    clear r6_p l6
    clear b8
    go_wp2_with (first | ((with_reducible refine st_alloc 26 (hA (0)) ?_ ?_); exact zero_in))
    refine ⟨fun V11 g11 n11 f11 => ?_⟩
    have ne11_p := f11.ne r10_p
    have up11 : w.heap.size ≤ g11 := f11.up l10
    have bl11 := f11.bel
    clear f11
    have r13_p := le_on r10_p bl11
    have l13 := le_tr l10 bl11
    clear r10_p l10
    clear bl11
    go_wp2_with (first | ((with_reducible refine st_store 26 _ _ g11 (hA x) ?_ ?_ n11 ?_ ?_ ?_ ?_); exact rfl; exact rfl; exact Try.zIn; exact rfl; exact hA_one _))
    refine ⟨fun V14 n14 k14 => ?_⟩
    have m14_p := k14.on r13_p ne11_p
    have o14 := k14.bel _ _ l13 up11
    clear k14
    clear n11 r13_p l13
    go_wp2_with (first | ((with_reducible refine st_builtn 31 0 _ (.int .i64 h) (hA h) ?_ ?_ ?_); exact rfl; exact built_ir _) | ((with_reducible refine st_load 23 _ g1 ?_ m14_p Try.underlying23 ?_ ?_ ?_); exact rfl; exact rfl; exact Try.zPr))
    (with_reducible refine (H2 _).mono ?_)
    rintro e w15 ⟨rfl, b15⟩
    have r17_p := le_on m14_p b15
    have r17_a := le_on n14 b15
    have l17 := le_tr o14 b15
    clear m14_p n14 o14
    clear b15
    go_wp2_with (first | ((with_reducible refine st_alloc 31 (hA (0)) ?_ ?_); exact zero_ir))
    refine ⟨fun V18 g18 n18 f18 => ?_⟩
    have ne18_p := f18.ne r17_p
    have ne18_a := f18.ne r17_a
    have up18 : w.heap.size ≤ g18 := f18.up l17
    have bl18 := f18.bel
    clear f18
    have r20_p := le_on r17_p bl18
    have r20_a := le_on r17_a bl18
    have l20 := le_tr l17 bl18
    clear r17_p r17_a l17
    clear bl18
    go_wp2_with (first | ((with_reducible refine st_store 31 _ _ g18 (hA x) ?_ ?_ n18 ?_ ?_ ?_ ?_); exact rfl; exact rfl; exact Try.zIr; exact rfl; exact hA_one _))
    refine ⟨fun V21 n21 k21 => ?_⟩
    have m21_p := k21.on r20_p ne18_p
    have m21_a := k21.on r20_a ne18_a
    have o21 := k21.bel _ _ l20 up18
    clear k21
    clear n18 r20_p r20_a l20
    go_wp2_with (first | ((with_reducible refine st_load 26 _ g11 ?_ m21_a Try.underlying26 ?_ ?_ ?_); exact rfl; exact rfl; exact Try.zIn) | ((with_reducible refine st_load 31 _ g18 ?_ n21 Try.underlying31 ?_ ?_ ?_); exact rfl; exact rfl; exact Try.zIr))
    go_ret
    exact ⟨rfl, o21⟩
  have q1 : decide ((600 : Int) < (p.tx.size : Int)) = true := by simp; omega
  have q1' : decide ((p.tx.size : Int) > 600) = true := by simp; omega
  go_enter Try.func3, Try.ntmps3
  go_wp2_with (first | ((with_reducible refine st_box 23 _ (pA p) ?_ ?_); exact rfl))
  refine ⟨fun V1 g1 n1 f1 => ?_⟩
  have up1 : w.heap.size ≤ g1 := Nat.le_of_eq f1.at_
  have bl1 := f1.bel
  clear f1
  have l3 := le_tr (Below.refl _ _) bl1
  clear bl1
  go_wp2_with fail
  (with_reducible refine (alive_c _).mono ?_)
  rintro e w4 ⟨rfl, b4⟩
  have r6_p := le_on n1 b4
  have l6 := le_tr l3 b4
  clear n1 l3
  clear b4
  have c7 : w4.cell? ⟨g1, 1, none⟩ = some (.string (p.tx)) := CB.cell r6_p 1
  go_wp2_with fail
  go_ret
  exact ⟨rfl, l6⟩
end Go.Proofs.Ytemhfaodgofcpaa
