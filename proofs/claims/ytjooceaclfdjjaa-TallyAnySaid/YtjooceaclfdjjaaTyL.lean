/-
  alive and does of layer 14's laws. No condition.
-/
import Derived.Test.YtjooceaclfdjjaaTyG
import Derived.Test.YtjooceaclfdjjaaTyJ
import Derived.Test.YtjooceaclfdjjaaTyN
set_option linter.unusedVariables false
set_option linter.unusedSimpArgs false
namespace Go.Proofs.Ytjooceaclfdjjaa
open Go.RowKit

theorem RR.of_cu2 {W : World} {T : TypeId} {g : Nat} {x y : Nat} (h : CB W g T #[.int .u8 (x : Int), .int .u8 (y : Int)]) : RR W uc 1 (some ⟨g, 0, none⟩) 2 2 [x, y] := by
  refine RR.of_at rfl (Nat.le_refl _) (by decide) fun k z hz i v hv => ?_
  have hi : i = 0 := by
    obtain ⟨h1, _⟩ := List.getElem?_eq_some_iff.1 hv
    simp [uc] at h1
    exact h1
  subst hi
  simp [uc] at hv
  subst hv
  match k, hz with
  | 0, hz => simp at hz; subst hz; exact CB.cell h 0
  | 1, hz => simp at hz; subst hz; exact CB.cell h 1
  | k + 2, hz => simp at hz
/-- An act, as cells. -/
def aA (a : Ay) : Array Value := #[.bool a.hear, .int .u8 (a.who : Int), .int .i64 a.ep, .int .i64 a.vote]
theorem aA_size (a : Ay) : (aA a).size = 4 := rfl
theorem aA_one (a : Ay) : (aA a).all (·.oneCell') = true := by simp [aA, Value.oneCell']
theorem Try.zAct : (Try.prog.info? 27).map (·.size) = some 4 := by kernel_rfl
set_option maxRecDepth 100000 in
set_option maxHeartbeats 4000000 in
theorem alive_c (w : World) : Calls Try.prog 10 #[] w fun r w' => r = .returned (.bool true) ∧ Below w.heap.size w w' := by
  obtain ⟨T1, h1⟩ : ∃ T, T = sNew [1, 2] := ⟨_, rfl⟩
  obtain ⟨T2, h2⟩ : ∃ T, T = sPut T1 1 3 1 := ⟨_, rfl⟩
  obtain ⟨T3, h3⟩ : ∃ T, T = sPut T2 2 1 1 := ⟨_, rfl⟩
  obtain ⟨U1, hu1⟩ : ∃ T, T = sPut T2 1 2 1 := ⟨_, rfl⟩
  obtain ⟨U2, hu2⟩ : ∃ T, T = sPut T3 2 1 2 := ⟨_, rfl⟩
  have N1 : ∀ g W, CB W g 5 #[.int .u8 1, .int .u8 2] → Calls Try.prog 15 #[.slice (some ⟨g, 0, none⟩) 2 2] W fun r w' => r = .returned (.tuple #[.agg (tA T1), .int .i64 0]) ∧ Below W.heap.size W w' := fun g W h => by
    have h := new_c _ _ _ [1, 2] W (RR.of_cu2 (x := 1) (y := 2) h)
    rw [← h1, show eNew [1, 2] = 0 by decide] at h
    exact h
  have P1 : ∀ W, Calls Try.prog 11 #[.agg (tA T1), .int .u8 1, .int .i64 3, .int .i64 1] W fun r w' => r = .returned (.tuple #[.agg (tA T2), .int .i64 0]) ∧ Below W.heap.size W w' := fun W => by
    have h := put_c T1 1 3 1 W
    rw [← h2, show ePut T1 1 3 1 = 0 by subst h1; decide] at h
    exact h
  have P2 : ∀ W, Calls Try.prog 11 #[.agg (tA T2), .int .u8 1, .int .i64 2, .int .i64 1] W fun r w' => r = .returned (.tuple #[.agg (tA U1), .int .i64 10]) ∧ Below W.heap.size W w' := fun W => by
    have h := put_c T2 1 2 1 W
    rw [← hu1, show ePut T2 1 2 1 = 10 by subst h2 h1; decide] at h
    exact h
  have P3 : ∀ W, Calls Try.prog 11 #[.agg (tA T2), .int .u8 2, .int .i64 1, .int .i64 1] W fun r w' => r = .returned (.tuple #[.agg (tA T3), .int .i64 0]) ∧ Below W.heap.size W w' := fun W => by
    have h := put_c T2 2 1 1 W
    rw [← h3, show ePut T2 2 1 1 = 0 by subst h2 h1; decide] at h
    exact h
  have P4 : ∀ W, Calls Try.prog 11 #[.agg (tA T3), .int .u8 2, .int .i64 1, .int .i64 2] W fun r w' => r = .returned (.tuple #[.agg (tA U2), .int .i64 8]) ∧ Below W.heap.size W w' := fun W => by
    have h := put_c T3 2 1 2 W
    rw [← hu2, show ePut T3 2 1 2 = 8 by subst h3 h2 h1; decide] at h
    exact h
  have O2 : ∀ W, Calls Try.prog 19 #[.agg (tA T2)] W fun r w' => r = .returned (.int .i64 0) ∧ Below W.heap.size W w' := fun W => by
    have h := out_c T2 W
    rw [show outY T2 = 0 by subst h2 h1; decide] at h
    exact h
  have O3 : ∀ W, Calls Try.prog 19 #[.agg (tA T3)] W fun r w' => r = .returned (.int .i64 1) ∧ Below W.heap.size W w' := fun W => by
    have h := out_c T3 W
    rw [show outY T3 = 1 by subst h3 h2 h1; decide] at h
    exact h
  have R3 : ∀ W, Calls Try.prog 17 #[.agg (tA T3)] W fun r w' => r = .returned (.bool true) ∧ Below W.heap.size W w' := fun W => by
    have h := right_c T3 W
    rw [show rightY T3 = true by subst h3 h2 h1; decide] at h
    exact h
  clear h1 h2 h3 hu1 hu2
  go_enter Try.func10, Try.ntmps10
  go_wp2_with fail
  obtain ⟨V0, hV0⟩ : ∃ V, w.alloc (.cells #[.int .u8 1, .int .u8 2] 5) = V := ⟨_, rfl⟩
  have n0 : CB V0 w.heap.size 5 #[.int .u8 1, .int .u8 2] := by rw [← hV0]; exact CB.new _ _ _
  have l0 : Below w.heap.size w V0 := by rw [← hV0]; exact le_al _ _
  rw [hV0]
  clear hV0
  refine (N1 _ _ n0).mono ?_
  rintro e w1 ⟨rfl, b1⟩
  have l2 := le_tr l0 b1
  clear l0
  clear b1
  clear n0
  go_wp2_with (first | ((with_reducible refine st_alloc 30 (tA zeroY) ?_ ?_); exact zero_c))
  refine ⟨fun V3 g3 n3 f3 => ?_⟩
  have up3 : w.heap.size ≤ g3 := f3.up l2
  have bl3 := f3.bel
  clear f3
  have l4 := le_tr l2 bl3
  clear l2
  clear bl3
  go_wp2_with (first | ((with_reducible refine st_store 30 _ _ g3 (tA T1) ?_ ?_ n3 ?_ ?_ ?_ ?_); exact rfl; exact rfl; exact Try.zTc; exact rfl; exact tA_one _))
  refine ⟨fun V5 n5 k5 => ?_⟩
  have o5 := k5.bel _ _ l4 up3
  clear k5
  clear n3 l4
  go_wp2_with (first | (first | ((with_reducible refine st_load 30 _ g3 ?_ n5 Try.underlying30 ?_ ?_ ?_); exact rfl; exact rfl; exact Try.zTc) | ((with_reducible refine st_loadG 30 _ g3 ?_ n5 Try.underlying30 ?_ ?_ ?_ ?_); exact rfl; exact rfl; exact Try.zTc; exact rfl)))
  refine (P1 _).mono ?_
  rintro e w6 ⟨rfl, b6⟩
  have r7_t := le_on n5 b6
  have l7 := le_tr o5 b6
  clear n5 o5
  clear b6
  go_wp2_with (first | ((with_reducible refine st_store 30 _ _ g3 (tA T2) ?_ ?_ r7_t ?_ ?_ ?_ ?_); exact rfl; exact rfl; exact Try.zTc; exact rfl; exact tA_one _))
  refine ⟨fun V8 n8 k8 => ?_⟩
  have o8 := k8.bel _ _ l7 up3
  clear k8
  clear r7_t l7
  go_wp2_with (first | (first | ((with_reducible refine st_load 30 _ g3 ?_ n8 Try.underlying30 ?_ ?_ ?_); exact rfl; exact rfl; exact Try.zTc) | ((with_reducible refine st_loadG 30 _ g3 ?_ n8 Try.underlying30 ?_ ?_ ?_ ?_); exact rfl; exact rfl; exact Try.zTc; exact rfl)))
  refine (O2 _).mono ?_
  rintro e w9 ⟨rfl, b9⟩
  have r10_t := le_on n8 b9
  have l10 := le_tr o8 b9
  clear n8 o8
  clear b9
  go_wp2_with (first | (first | ((with_reducible refine st_load 30 _ g3 ?_ r10_t Try.underlying30 ?_ ?_ ?_); exact rfl; exact rfl; exact Try.zTc) | ((with_reducible refine st_loadG 30 _ g3 ?_ r10_t Try.underlying30 ?_ ?_ ?_ ?_); exact rfl; exact rfl; exact Try.zTc; exact rfl)))
  refine (P2 _).mono ?_
  rintro e w11 ⟨rfl, b11⟩
  have r12_t := le_on r10_t b11
  have l12 := le_tr l10 b11
  clear r10_t l10
  clear b11
  go_wp2_with (first | ((with_reducible refine st_alloc 30 (tA zeroY) ?_ ?_); exact zero_c))
  refine ⟨fun V13 g13 n13 f13 => ?_⟩
  have ne13_t := f13.ne r12_t
  have up13 : w.heap.size ≤ g13 := f13.up l12
  have bl13 := f13.bel
  clear f13
  have r14_t := le_on r12_t bl13
  have l14 := le_tr l12 bl13
  clear r12_t l12
  clear bl13
  go_wp2_with (first | ((with_reducible refine st_store 30 _ _ g13 (tA U1) ?_ ?_ n13 ?_ ?_ ?_ ?_); exact rfl; exact rfl; exact Try.zTc; exact rfl; exact tA_one _))
  refine ⟨fun V15 n15 k15 => ?_⟩
  have m15_t := k15.on r14_t ne13_t
  have o15 := k15.bel _ _ l14 up13
  clear k15
  clear n13 r14_t l14
  go_wp2_with (first | (first | ((with_reducible refine st_load 30 _ g3 ?_ m15_t Try.underlying30 ?_ ?_ ?_); exact rfl; exact rfl; exact Try.zTc) | ((with_reducible refine st_loadG 30 _ g3 ?_ m15_t Try.underlying30 ?_ ?_ ?_ ?_); exact rfl; exact rfl; exact Try.zTc; exact rfl)))
  refine (P3 _).mono ?_
  rintro e w16 ⟨rfl, b16⟩
  have r17_t := le_on m15_t b16
  have r17_u := le_on n15 b16
  have l17 := le_tr o15 b16
  clear m15_t n15 o15
  clear b16
  go_wp2_with (first | ((with_reducible refine st_store 30 _ _ g3 (tA T3) ?_ ?_ r17_t ?_ ?_ ?_ ?_); exact rfl; exact rfl; exact Try.zTc; exact rfl; exact tA_one _))
  refine ⟨fun V18 n18 k18 => ?_⟩
  have m18_u := k18.on r17_u (Ne.symm ne13_t)
  have o18 := k18.bel _ _ l17 up3
  clear k18
  clear r17_t r17_u l17
  go_wp2_with (first | (first | ((with_reducible refine st_load 30 _ g3 ?_ n18 Try.underlying30 ?_ ?_ ?_); exact rfl; exact rfl; exact Try.zTc) | ((with_reducible refine st_loadG 30 _ g3 ?_ n18 Try.underlying30 ?_ ?_ ?_ ?_); exact rfl; exact rfl; exact Try.zTc; exact rfl)))
  refine (P4 _).mono ?_
  rintro e w19 ⟨rfl, b19⟩
  have r20_t := le_on n18 b19
  have r20_u := le_on m18_u b19
  have l20 := le_tr o18 b19
  clear n18 m18_u o18
  clear b19
  go_wp2_with (first | ((with_reducible refine st_alloc 30 (tA zeroY) ?_ ?_); exact zero_c))
  refine ⟨fun V21 g21 n21 f21 => ?_⟩
  have ne21_t := f21.ne r20_t
  have ne21_u := f21.ne r20_u
  have up21 : w.heap.size ≤ g21 := f21.up l20
  have bl21 := f21.bel
  clear f21
  have r22_t := le_on r20_t bl21
  have r22_u := le_on r20_u bl21
  have l22 := le_tr l20 bl21
  clear r20_t r20_u l20
  clear bl21
  go_wp2_with (first | ((with_reducible refine st_store 30 _ _ g21 (tA U2) ?_ ?_ n21 ?_ ?_ ?_ ?_); exact rfl; exact rfl; exact Try.zTc; exact rfl; exact tA_one _))
  refine ⟨fun V23 n23 k23 => ?_⟩
  have m23_t := k23.on r22_t ne21_t
  have m23_u := k23.on r22_u ne21_u
  have o23 := k23.bel _ _ l22 up21
  clear k23
  clear n21 r22_t r22_u l22
  go_wp2_with (first | (first | ((with_reducible refine st_load 30 _ g3 ?_ m23_t Try.underlying30 ?_ ?_ ?_); exact rfl; exact rfl; exact Try.zTc) | ((with_reducible refine st_loadG 30 _ g3 ?_ m23_t Try.underlying30 ?_ ?_ ?_ ?_); exact rfl; exact rfl; exact Try.zTc; exact rfl)))
  refine (O3 _).mono ?_
  rintro e w24 ⟨rfl, b24⟩
  have r25_t := le_on m23_t b24
  have r25_u := le_on m23_u b24
  have r25_v := le_on n23 b24
  have l25 := le_tr o23 b24
  clear m23_t m23_u n23 o23
  clear b24
  go_wp2_with (first | (first | ((with_reducible refine st_load 30 _ g3 ?_ r25_t Try.underlying30 ?_ ?_ ?_); exact rfl; exact rfl; exact Try.zTc) | ((with_reducible refine st_loadG 30 _ g3 ?_ r25_t Try.underlying30 ?_ ?_ ?_ ?_); exact rfl; exact rfl; exact Try.zTc; exact rfl)))
  refine (R3 _).mono ?_
  rintro e w26 ⟨rfl, b26⟩
  have r27_t := le_on r25_t b26
  have r27_u := le_on r25_u b26
  have r27_v := le_on r25_v b26
  have l27 := le_tr l25 b26
  clear r25_t r25_u r25_v l25
  clear b26
  go_wp2_with fail
  go_ret
  exact ⟨rfl, l27⟩
set_option maxRecDepth 100000 in
set_option maxHeartbeats 4000000 in
theorem does_c (S : Ty) (a : Ay) (w : World) : Calls Try.prog 21 #[.agg (tA S), .agg (aA a)] w fun r w' => r = .returned (.tuple #[.agg (tA (sDo S a)), .int .i64 ((eDo S a : Nat) : Int)]) ∧ Below w.heap.size w w' := by
  cases hh : a.hear with
  | true =>
    have HE := Lib.hid (show eDo S a = eHear S a.who a.ep by unfold eDo; rw [hh]; rfl)
    have HS := Lib.hid (show sDo S a = sHear S a.who a.ep by unfold sDo; rw [hh]; rfl)
    have H1 := fun W => hear_c S a.who a.ep W
    obtain ⟨E, hE⟩ : ∃ E, eHear S a.who a.ep = E := ⟨_, rfl⟩
    obtain ⟨U, hU⟩ : ∃ U, sHear S a.who a.ep = U := ⟨_, rfl⟩
    rw [hE, hU] at H1
    rw [hE] at HE
    rw [hU] at HS
    clear hE hU
    go_enter Try.func21, Try.ntmps21
    go_wp2_with (first | ((with_reducible refine st_box 30 _ (tA S) ?_ ?_); exact rfl))
    refine ⟨fun V1 g1 n1 f1 => ?_⟩
    have up1 : w.heap.size ≤ g1 := Nat.le_of_eq f1.at_
    have bl1 := f1.bel
    clear f1
    have l2 := le_tr (Below.refl _ _) bl1
    clear bl1
    go_wp2_with (first | ((with_reducible refine st_box 27 _ (aA a) ?_ ?_); exact rfl))
    refine ⟨fun V3 g3 n3 f3 => ?_⟩
    have ne3_t := f3.ne n1
    have up3 : w.heap.size ≤ g3 := f3.up l2
    have bl3 := f3.bel
    clear f3
    have r4_t := le_on n1 bl3
    have l4 := le_tr l2 bl3
    clear n1 l2
    clear bl3
    go_wp2_with (first | ((with_reducible refine st_alloc 30 (tA zeroY) ?_ ?_); exact zero_c))
    refine ⟨fun V5 g5 n5 f5 => ?_⟩
    have ne5_t := f5.ne r4_t
    have ne5_a := f5.ne n3
    have up5 : w.heap.size ≤ g5 := f5.up l4
    have bl5 := f5.bel
    clear f5
    have r6_t := le_on r4_t bl5
    have r6_a := le_on n3 bl5
    have l6 := le_tr l4 bl5
    clear r4_t n3 l4
    clear bl5
    have c7 : V5.cell? ⟨g3, 0, none⟩ = some (.bool a.hear) := CB.cell r6_a 0
    have c8 : V5.cell? ⟨g3, 1, none⟩ = some (.int .u8 (a.who : Int)) := CB.cell r6_a 1
    have c9 : V5.cell? ⟨g3, 2, none⟩ = some (.int .i64 a.ep) := CB.cell r6_a 2
    have c10 : V5.cell? ⟨g3, 3, none⟩ = some (.int .i64 a.vote) := CB.cell r6_a 3
    rw [hh] at c7
    go_wp2_with (first | (first | ((with_reducible refine st_load 30 _ g1 ?_ r6_t Try.underlying30 ?_ ?_ ?_); exact rfl; exact rfl; exact Try.zTc) | ((with_reducible refine st_loadG 30 _ g1 ?_ r6_t Try.underlying30 ?_ ?_ ?_ ?_); exact rfl; exact rfl; exact Try.zTc; exact rfl)))
    refine (H1 _).mono ?_
    rintro e w11 ⟨rfl, b11⟩
    clear c7 c8 c9 c10
    have r12_t := le_on r6_t b11
    have r12_a := le_on r6_a b11
    have r12_r := le_on n5 b11
    have l12 := le_tr l6 b11
    clear r6_t r6_a n5 l6
    clear b11
    go_wp2_with (first | ((with_reducible refine st_store 30 _ _ g5 (tA U) ?_ ?_ r12_r ?_ ?_ ?_ ?_); exact rfl; exact rfl; exact Try.zTc; exact rfl; exact tA_one _))
    refine ⟨fun V13 n13 k13 => ?_⟩
    have m13_t := k13.on r12_t ne5_t
    have m13_a := k13.on r12_a ne5_a
    have o13 := k13.bel _ _ l12 up5
    clear k13
    clear r12_r r12_t r12_a l12
    go_wp2_with fail
    exact bodyPost_ret (v := .tuple #[.agg (tA U), .int .i64 (E : Int)]) (res_two Try.results21 rfl rfl n13 Try.underlying30 rfl Try.zTc) rfl ⟨(by rw [HE.out, HS.out] <;> rfl), o13⟩
  | false =>
    have HE := Lib.hid (show eDo S a = ePut S a.who a.ep a.vote by unfold eDo; rw [hh]; rfl)
    have HS := Lib.hid (show sDo S a = sPut S a.who a.ep a.vote by unfold sDo; rw [hh]; rfl)
    have H1 := fun W => put_c S a.who a.ep a.vote W
    obtain ⟨E, hE⟩ : ∃ E, ePut S a.who a.ep a.vote = E := ⟨_, rfl⟩
    obtain ⟨U, hU⟩ : ∃ U, sPut S a.who a.ep a.vote = U := ⟨_, rfl⟩
    rw [hE, hU] at H1
    rw [hE] at HE
    rw [hU] at HS
    clear hE hU
    go_enter Try.func21, Try.ntmps21
    go_wp2_with (first | ((with_reducible refine st_box 30 _ (tA S) ?_ ?_); exact rfl))
    refine ⟨fun V1 g1 n1 f1 => ?_⟩
    have up1 : w.heap.size ≤ g1 := Nat.le_of_eq f1.at_
    have bl1 := f1.bel
    clear f1
    have l2 := le_tr (Below.refl _ _) bl1
    clear bl1
    go_wp2_with (first | ((with_reducible refine st_box 27 _ (aA a) ?_ ?_); exact rfl))
    refine ⟨fun V3 g3 n3 f3 => ?_⟩
    have ne3_t := f3.ne n1
    have up3 : w.heap.size ≤ g3 := f3.up l2
    have bl3 := f3.bel
    clear f3
    have r4_t := le_on n1 bl3
    have l4 := le_tr l2 bl3
    clear n1 l2
    clear bl3
    go_wp2_with (first | ((with_reducible refine st_alloc 30 (tA zeroY) ?_ ?_); exact zero_c))
    refine ⟨fun V5 g5 n5 f5 => ?_⟩
    have ne5_t := f5.ne r4_t
    have ne5_a := f5.ne n3
    have up5 : w.heap.size ≤ g5 := f5.up l4
    have bl5 := f5.bel
    clear f5
    have r6_t := le_on r4_t bl5
    have r6_a := le_on n3 bl5
    have l6 := le_tr l4 bl5
    clear r4_t n3 l4
    clear bl5
    have c7 : V5.cell? ⟨g3, 0, none⟩ = some (.bool a.hear) := CB.cell r6_a 0
    have c8 : V5.cell? ⟨g3, 1, none⟩ = some (.int .u8 (a.who : Int)) := CB.cell r6_a 1
    have c9 : V5.cell? ⟨g3, 2, none⟩ = some (.int .i64 a.ep) := CB.cell r6_a 2
    have c10 : V5.cell? ⟨g3, 3, none⟩ = some (.int .i64 a.vote) := CB.cell r6_a 3
    rw [hh] at c7
    go_wp2_with (first | (first | ((with_reducible refine st_load 30 _ g1 ?_ r6_t Try.underlying30 ?_ ?_ ?_); exact rfl; exact rfl; exact Try.zTc) | ((with_reducible refine st_loadG 30 _ g1 ?_ r6_t Try.underlying30 ?_ ?_ ?_ ?_); exact rfl; exact rfl; exact Try.zTc; exact rfl)))
    refine (H1 _).mono ?_
    rintro e w11 ⟨rfl, b11⟩
    clear c7 c8 c9 c10
    have r12_t := le_on r6_t b11
    have r12_a := le_on r6_a b11
    have r12_r := le_on n5 b11
    have l12 := le_tr l6 b11
    clear r6_t r6_a n5 l6
    clear b11
    go_wp2_with (first | ((with_reducible refine st_store 30 _ _ g5 (tA U) ?_ ?_ r12_r ?_ ?_ ?_ ?_); exact rfl; exact rfl; exact Try.zTc; exact rfl; exact tA_one _))
    refine ⟨fun V13 n13 k13 => ?_⟩
    have m13_t := k13.on r12_t ne5_t
    have m13_a := k13.on r12_a ne5_a
    have o13 := k13.bel _ _ l12 up5
    clear k13
    clear r12_r r12_t r12_a l12
    go_wp2_with fail
    exact bodyPost_ret (v := .tuple #[.agg (tA U), .int .i64 (E : Int)]) (res_two Try.results21 rfl rfl n13 Try.underlying30 rfl Try.zTc) rfl ⟨(by rw [HE.out, HS.out] <;> rfl), o13⟩
end Go.Proofs.Ytjooceaclfdjjaa
