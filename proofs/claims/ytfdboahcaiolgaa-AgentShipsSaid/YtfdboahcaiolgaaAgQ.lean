/-
  The document's held, Ship, Speak. Condition: the cargo is no longer than the laws let it be, where held is called.
-/
import Derived.Test.YtfdboahcaiolgaaAgP
import Derived.Test.YtfdboahcaiolgaaAgK
import Derived.Test.YtfdboahcaiolgaaAgN
import Derived.Test.YtfdboahcaiolgaaAgF
set_option linter.unusedVariables false
set_option linter.unusedSimpArgs false
namespace Go.Proofs.Ytfdboahcaiolgaa
open Go.RowKit
open Dk (Nt InN RightN BoundN MsgN NoMsg KindN EpN bound_n)


theorem h_k {s : Sd} (h : RightS s) : hE s = kE s ∧ hL s = kL s := by
  have e : hE s = kE s := by unfold hE kE; rw [if_neg (not_not_intro h)]
  exact ⟨e, by unfold hL kL; rw [e]⟩
theorem LPostB.h_no {w w' : World} {T : TypeId} {s : Sd} {k : Nat} (h : hE s = k) (hk : ¬ k = 0) (hb : Below w.heap.size w w') : LPostB w T (hL s) (hE s) (.returned (.tuple #[.slice none 0 0, .int .i64 (k : Int)])) w' := by
  have : hL s = [] := by unfold hL; rw [if_neg (by omega)]
  rw [this, h]
  exact ⟨none, 0, 0, rfl, RS.nil _ _ _ _, hb⟩
theorem LPostB.h_yes {w w' : World} {T : TypeId} {s : Sd} {A : Option Addr} {n q : Nat} (h : hE s = gE (Dk.bl s.cg)) (hr : RS w' T dcl 2 A n q (gL (Dk.bl s.cg))) (hb : Below w.heap.size w w') : LPostB w T (hL s) (hE s) (.returned (.tuple #[.slice A n q, .int .i64 ((gE (Dk.bl s.cg) : Nat) : Int)])) w' := by
  have : hL s = gL (Dk.bl s.cg) := by
    unfold hL
    split
    · rfl
    · rename_i e; rw [h] at e; exact (gL_err e).symm
  rw [this, h]
  exact ⟨A, n, q, rfl, hr, hb⟩
theorem yl_built5 {P : Program} {ev : Operand → Value} {dst : Option Tmp} {ty : TypeId} {pos : String} {aft : Array Edge} {gd : Option (Nat × Bool)} {w : World} (T : TypeId) (x0 x1 x2 x3 x4 : Operand) (v0 v1 v2 v3 v4 : Value) (cs : Array Value) (h0 : ev x0 = v0) (h1 : ev x1 = v1) (h2 : ev x2 = v2) (h3 : ev x3 = v3) (h4 : ev x4 = v4) (hb : P.built T [(0, v0), (1, v1), (2, v2), (3, v3), (4, v4)] = some cs) :
    (execOp ev ⟨dst, .build T #[(0, x0), (1, x1), (2, x2), (3, x3), (4, x4)], ty, pos, aft, gd⟩).run P w = .ok (.value (.agg cs)) w := by
  have h := run_build (P := P) w T #[(0, v0), (1, v1), (2, v2), (3, v3), (4, v4)] cs hb
  unfold execOp
  simp [Sem.run_bind, h0, h1, h2, h3, h4, h]
theorem sp_r {s : Sd} {mb : Int} (h : ¬ RightS s) : eSp s mb = 2 ∧ lSp s mb = [] := by
  have e : eSp s mb = 2 := if_pos (.inl h)
  exact ⟨e, by unfold lSp; rw [if_neg (by omega)]⟩
theorem RR.keepT {α : Type} {c : α → List Value} {s : Nat} [Nonempty (EncOk c s)] {w V : World} {N : Nat} {T U : TypeId} {A A' : Option Addr} {n q n' q' s' : Nat} {L : List α} {xs : List Value} {G G' : Option Nat} (h : SO N w T c s A n q L G) (hg : w.grownBy V G') (h2 : Seg w U s' A' n' q' xs G') (hne : T ≠ U) : RR V c s A n q L :=
  RR.of_seg (h.seg.keep fun b e => hg.block b (h.seg.lt b e) (h.seg.apart h2 hne b e))
set_option maxRecDepth 100000 in
set_option maxHeartbeats 4000000 in
theorem held_r (s : Sd) (w : World) (hcg : s.cg.size ≤ 600) : Calls Try.prog 43 #[.agg (siA s)] w (LPostB w 42 (hL s) (hE s)) := by
  by_cases hst : s.l.st = 1
  rotate_left
  · skip
    have H := Lib.hid (show hE s = 7 from if_pos hst)
    have q1 : (s.l.st != 1) = true := by simp [hst]
    clear hst
    go_enter Try.func43, Try.ntmps43
    go_wp2_with (first | ((with_reducible refine st_box 40 _ (siA s) ?_ ?_); exact rfl))
    refine ⟨fun V1 g1 n1 f1 => ?_⟩
    have up1 : w.heap.size ≤ g1 := Nat.le_of_eq f1.at_
    have bl1 := f1.bel
    clear f1
    have l3 := le_tr (Below.refl _ _) bl1
    clear bl1
    have c4 : V1.cell? ⟨g1, 2, none⟩ = some (.int .i64 (s.l).st) := CB.cell n1 2
    go_wp2_with fail
    exact bodyPost_ret (v := .tuple #[.slice none 0 0, .int .i64 7]) (by simp [results, Try.results43, go_sem]) rfl (LPostB.h_no H.out (by decide) l3)
  have H := Lib.hid (show hE s = gE (Dk.bl s.cg) from if_neg (not_not_intro hst))
  have q1 : (s.l.st != 1) = false := by simp [hst]
  clear hst
  go_enter Try.func43, Try.ntmps43
  go_wp2_with (first | ((with_reducible refine st_box 40 _ (siA s) ?_ ?_); exact rfl))
  refine ⟨fun V1 g1 n1 f1 => ?_⟩
  have up1 : w.heap.size ≤ g1 := Nat.le_of_eq f1.at_
  have bl1 := f1.bel
  clear f1
  have l3 := le_tr (Below.refl _ _) bl1
  clear bl1
  have c4 : V1.cell? ⟨g1, 2, none⟩ = some (.int .i64 (s.l).st) := CB.cell n1 2
  have c5 : V1.cell? ⟨g1, 4, none⟩ = some (.string (s.cg)) := CB.cell n1 4
  go_wp2_with fail
  (with_reducible refine (gunp_r s.cg _ hcg).mono ?_)
  rintro e w6 ⟨A2, n2, q2, rfl, h2, b6⟩
  clear c4 c5
  have r8_s := le_on n1 b6
  have l8 := le_tr l3 b6
  clear n1 l3
  clear b6
  have hl2 := l8
  go_wp2_with fail
  exact bodyPost_ret (v := .tuple #[.slice A2 n2 q2, .int .i64 ((gE (Dk.bl s.cg) : Nat) : Int)]) (by simp [results, Try.results43, go_sem]) rfl (LPostB.h_yes H.out h2 hl2)
set_option maxRecDepth 100000 in
set_option maxHeartbeats 4000000 in
theorem ship_r (s : Sd) (b : Bl) (w : World) : Calls Try.prog 18 #[.agg (siA s), .agg (btA b)] w fun e w' => e = .returned (.tuple #[.agg (siA (sSh s b)), .int .i64 ((eSh s b : Nat) : Int)]) ∧ Below w.heap.size w w' := by
  have CM := fun V => mayb_r b V
  have CR := fun V => hr_r s V
  by_cases hr : RightS s
  rotate_left
  · skip
    obtain ⟨h1, h2⟩ := sh_2 (b := b) (.inr hr)
    have H1 := Lib.hid h1
    have H2 := Lib.hid h2
    simp only [decide_eq_false hr] at CR
    clear h1 h2 hr CM
    go_enter Try.func18, Try.ntmps18
    go_wp2_with (first | ((with_reducible refine st_box 40 _ (siA s) ?_ ?_); exact rfl))
    refine ⟨fun V1 g1 n1 f1 => ?_⟩
    have up1 : w.heap.size ≤ g1 := Nat.le_of_eq f1.at_
    have bl1 := f1.bel
    clear f1
    have l3 := le_tr (Below.refl _ _) bl1
    clear bl1
    go_wp2_with (first | ((with_reducible refine st_box 42 _ (btA b) ?_ ?_); exact rfl))
    refine ⟨fun V4 g4 n4 f4 => ?_⟩
    have ne4_s := f4.ne n1
    have up4 : w.heap.size ≤ g4 := f4.up l3
    have bl4 := f4.bel
    clear f4
    have r6_s := le_on n1 bl4
    have l6 := le_tr l3 bl4
    clear n1 l3
    clear bl4
    go_wp2_with (first | ((with_reducible refine st_alloc 40 (siA zS) ?_ ?_); exact zero_sr))
    refine ⟨fun V7 g7 n7 f7 => ?_⟩
    have ne7_s := f7.ne r6_s
    have ne7_b := f7.ne n4
    have up7 : w.heap.size ≤ g7 := f7.up l6
    have bl7 := f7.bel
    clear f7
    have r9_s := le_on r6_s bl7
    have r9_b := le_on n4 bl7
    have l9 := le_tr l6 bl7
    clear r6_s n4 l6
    clear bl7
    go_wp2_with (first | (first | ((with_reducible refine st_load 40 _ g1 ?_ r9_s Try.underlying40 ?_ ?_ ?_); exact rfl; exact rfl; exact Try.zSr) | ((with_reducible refine st_loadG 40 _ g1 ?_ r9_s Try.underlying40 ?_ ?_ ?_ ?_); exact rfl; exact rfl; exact Try.zSr; exact rfl)))
    (with_reducible refine (CR _).mono ?_)
    rintro e w10 ⟨rfl, b10⟩
    have r12_s := le_on r9_s b10
    have r12_b := le_on r9_b b10
    have r12_r := le_on n7 b10
    have l12 := le_tr l9 b10
    clear r9_s r9_b n7 l9
    clear b10
    go_wp2_with (first | (first | ((with_reducible refine st_load 40 _ g1 ?_ r12_s Try.underlying40 ?_ ?_ ?_); exact rfl; exact rfl; exact Try.zSr) | ((with_reducible refine st_loadG 40 _ g1 ?_ r12_s Try.underlying40 ?_ ?_ ?_ ?_); exact rfl; exact rfl; exact Try.zSr; exact rfl)) | ((with_reducible refine st_store 40 _ _ g7 (siA s) ?_ ?_ r12_r ?_ ?_ ?_ ?_); exact rfl; exact rfl; exact Try.zSr; exact rfl; exact siA_one _))
    refine ⟨fun V13 n13 k13 => ?_⟩
    have m13_s := k13.on r12_s ne7_s
    have m13_b := k13.on r12_b ne7_b
    have o13 := k13.bel _ _ l12 up7
    clear k13
    clear r12_r r12_s r12_b l12
    go_wp2_with fail
    exact bodyPost_ret (v := .tuple #[.agg (siA s), .int .i64 2]) (res_two Try.results18 rfl rfl n13 Try.underlying40 rfl Try.zSr) rfl ⟨by rw [H1.out, H2.out] <;> rfl, o13⟩
  simp only [decide_eq_true hr] at CR
  by_cases hm : MayB b
  rotate_left
  · skip
    obtain ⟨h1, h2⟩ := sh_2 (s := s) (.inl hm)
    have H1 := Lib.hid h1
    have H2 := Lib.hid h2
    simp only [decide_eq_false hm] at CM
    clear h1 h2 hm hr
    go_enter Try.func18, Try.ntmps18
    go_wp2_with (first | ((with_reducible refine st_box 40 _ (siA s) ?_ ?_); exact rfl))
    refine ⟨fun V1 g1 n1 f1 => ?_⟩
    have up1 : w.heap.size ≤ g1 := Nat.le_of_eq f1.at_
    have bl1 := f1.bel
    clear f1
    have l3 := le_tr (Below.refl _ _) bl1
    clear bl1
    go_wp2_with (first | ((with_reducible refine st_box 42 _ (btA b) ?_ ?_); exact rfl))
    refine ⟨fun V4 g4 n4 f4 => ?_⟩
    have ne4_s := f4.ne n1
    have up4 : w.heap.size ≤ g4 := f4.up l3
    have bl4 := f4.bel
    clear f4
    have r6_s := le_on n1 bl4
    have l6 := le_tr l3 bl4
    clear n1 l3
    clear bl4
    go_wp2_with (first | ((with_reducible refine st_alloc 40 (siA zS) ?_ ?_); exact zero_sr))
    refine ⟨fun V7 g7 n7 f7 => ?_⟩
    have ne7_s := f7.ne r6_s
    have ne7_b := f7.ne n4
    have up7 : w.heap.size ≤ g7 := f7.up l6
    have bl7 := f7.bel
    clear f7
    have r9_s := le_on r6_s bl7
    have r9_b := le_on n4 bl7
    have l9 := le_tr l6 bl7
    clear r6_s n4 l6
    clear bl7
    go_wp2_with (first | (first | ((with_reducible refine st_load 40 _ g1 ?_ r9_s Try.underlying40 ?_ ?_ ?_); exact rfl; exact rfl; exact Try.zSr) | ((with_reducible refine st_loadG 40 _ g1 ?_ r9_s Try.underlying40 ?_ ?_ ?_ ?_); exact rfl; exact rfl; exact Try.zSr; exact rfl)))
    (with_reducible refine (CR _).mono ?_)
    rintro e w10 ⟨rfl, b10⟩
    have r12_s := le_on r9_s b10
    have r12_b := le_on r9_b b10
    have r12_r := le_on n7 b10
    have l12 := le_tr l9 b10
    clear r9_s r9_b n7 l9
    clear b10
    go_wp2_with (first | (first | ((with_reducible refine st_load 42 _ g4 ?_ r12_b Try.underlying42 ?_ ?_ ?_); exact rfl; exact rfl; exact Try.zBr) | ((with_reducible refine st_loadG 42 _ g4 ?_ r12_b Try.underlying42 ?_ ?_ ?_ ?_); exact rfl; exact rfl; exact Try.zBr; exact rfl)))
    (with_reducible refine (CM _).mono ?_)
    rintro e w13 ⟨rfl, b13⟩
    have r15_s := le_on r12_s b13
    have r15_b := le_on r12_b b13
    have r15_r := le_on r12_r b13
    have l15 := le_tr l12 b13
    clear r12_s r12_b r12_r l12
    clear b13
    go_wp2_with (first | (first | ((with_reducible refine st_load 40 _ g1 ?_ r15_s Try.underlying40 ?_ ?_ ?_); exact rfl; exact rfl; exact Try.zSr) | ((with_reducible refine st_loadG 40 _ g1 ?_ r15_s Try.underlying40 ?_ ?_ ?_ ?_); exact rfl; exact rfl; exact Try.zSr; exact rfl)) | ((with_reducible refine st_store 40 _ _ g7 (siA s) ?_ ?_ r15_r ?_ ?_ ?_ ?_); exact rfl; exact rfl; exact Try.zSr; exact rfl; exact siA_one _))
    refine ⟨fun V16 n16 k16 => ?_⟩
    have m16_s := k16.on r15_s ne7_s
    have m16_b := k16.on r15_b ne7_b
    have o16 := k16.bel _ _ l15 up7
    clear k16
    clear r15_r r15_s r15_b l15
    go_wp2_with fail
    exact bodyPost_ret (v := .tuple #[.agg (siA s), .int .i64 2]) (res_two Try.results18 rfl rfl n16 Try.underlying40 rfl Try.zSr) rfl ⟨by rw [H1.out, H2.out] <;> rfl, o16⟩
  simp only [decide_eq_true hm] at CM
  have CK := fun V => held_r s V (by have := hr.2.2.2.1; omega)
  obtain ⟨e1, e2⟩ := h_k hr
  simp only [e1, e2] at CK
  clear e1 e2 hr
  by_cases hk : kE s = 0
  rotate_left
  · skip
    obtain ⟨h1, h2⟩ := sh_k hm hk
    have H1 := Lib.hid h1
    have H2 := Lib.hid h2
    obtain ⟨k, hkk⟩ : ∃ k, kE s = k := ⟨_, rfl⟩
    simp only [hkk] at CK H1
    have q1 : ((k : Int) != 0) = true := by rw [bne_iff_ne]; omega
    clear h1 h2 hk hkk hm
    go_enter Try.func18, Try.ntmps18
    go_wp2_with (first | ((with_reducible refine st_box 40 _ (siA s) ?_ ?_); exact rfl))
    refine ⟨fun V1 g1 n1 f1 => ?_⟩
    have up1 : w.heap.size ≤ g1 := Nat.le_of_eq f1.at_
    have bl1 := f1.bel
    clear f1
    have l3 := le_tr (Below.refl _ _) bl1
    clear bl1
    go_wp2_with (first | ((with_reducible refine st_box 42 _ (btA b) ?_ ?_); exact rfl))
    refine ⟨fun V4 g4 n4 f4 => ?_⟩
    have ne4_s := f4.ne n1
    have up4 : w.heap.size ≤ g4 := f4.up l3
    have bl4 := f4.bel
    clear f4
    have r6_s := le_on n1 bl4
    have l6 := le_tr l3 bl4
    clear n1 l3
    clear bl4
    go_wp2_with (first | ((with_reducible refine st_alloc 40 (siA zS) ?_ ?_); exact zero_sr))
    refine ⟨fun V7 g7 n7 f7 => ?_⟩
    have ne7_s := f7.ne r6_s
    have ne7_b := f7.ne n4
    have up7 : w.heap.size ≤ g7 := f7.up l6
    have bl7 := f7.bel
    clear f7
    have r9_s := le_on r6_s bl7
    have r9_b := le_on n4 bl7
    have l9 := le_tr l6 bl7
    clear r6_s n4 l6
    clear bl7
    go_wp2_with (first | (first | ((with_reducible refine st_load 40 _ g1 ?_ r9_s Try.underlying40 ?_ ?_ ?_); exact rfl; exact rfl; exact Try.zSr) | ((with_reducible refine st_loadG 40 _ g1 ?_ r9_s Try.underlying40 ?_ ?_ ?_ ?_); exact rfl; exact rfl; exact Try.zSr; exact rfl)))
    (with_reducible refine (CR _).mono ?_)
    rintro e w10 ⟨rfl, b10⟩
    have r12_s := le_on r9_s b10
    have r12_b := le_on r9_b b10
    have r12_r := le_on n7 b10
    have l12 := le_tr l9 b10
    clear r9_s r9_b n7 l9
    clear b10
    go_wp2_with (first | (first | ((with_reducible refine st_load 42 _ g4 ?_ r12_b Try.underlying42 ?_ ?_ ?_); exact rfl; exact rfl; exact Try.zBr) | ((with_reducible refine st_loadG 42 _ g4 ?_ r12_b Try.underlying42 ?_ ?_ ?_ ?_); exact rfl; exact rfl; exact Try.zBr; exact rfl)))
    (with_reducible refine (CM _).mono ?_)
    rintro e w13 ⟨rfl, b13⟩
    have r15_s := le_on r12_s b13
    have r15_b := le_on r12_b b13
    have r15_r := le_on r12_r b13
    have l15 := le_tr l12 b13
    clear r12_s r12_b r12_r l12
    clear b13
    go_wp2_with (first | (first | ((with_reducible refine st_load 40 _ g1 ?_ r15_s Try.underlying40 ?_ ?_ ?_); exact rfl; exact rfl; exact Try.zSr) | ((with_reducible refine st_loadG 40 _ g1 ?_ r15_s Try.underlying40 ?_ ?_ ?_ ?_); exact rfl; exact rfl; exact Try.zSr; exact rfl)))
    (with_reducible refine (CK _).mono ?_)
    rintro e w16 ⟨A3, n3, q3, rfl, h3, b16⟩
    have r18_s := le_on r15_s b16
    have r18_b := le_on r15_b b16
    have r18_r := le_on r15_r b16
    have l18 := le_tr l15 b16
    clear r15_s r15_b r15_r l15
    clear b16
    go_wp2_with (first | (first | ((with_reducible refine st_load 40 _ g1 ?_ r18_s Try.underlying40 ?_ ?_ ?_); exact rfl; exact rfl; exact Try.zSr) | ((with_reducible refine st_loadG 40 _ g1 ?_ r18_s Try.underlying40 ?_ ?_ ?_ ?_); exact rfl; exact rfl; exact Try.zSr; exact rfl)) | ((with_reducible refine st_store 40 _ _ g7 (siA s) ?_ ?_ r18_r ?_ ?_ ?_ ?_); exact rfl; exact rfl; exact Try.zSr; exact rfl; exact siA_one _))
    refine ⟨fun V19 n19 k19 => ?_⟩
    have m19_s := k19.on r18_s ne7_s
    have m19_b := k19.on r18_b ne7_b
    have o19 := k19.bel _ _ l18 up7
    clear k19
    clear r18_r r18_s r18_b l18
    go_wp2_with fail
    exact bodyPost_ret (v := .tuple #[.agg (siA s), .int .i64 (k : Int)]) (res_two Try.results18 rfl rfl n19 Try.underlying40 rfl Try.zSr) rfl ⟨by rw [H1.out, H2.out] <;> rfl, o19⟩
  obtain ⟨_, _, _, hrb⟩ := k_ok hk
  by_cases hp : ePu (kL s) b = 0
  rotate_left
  · skip
    obtain ⟨h1, h2⟩ := sh_p hm hk hp
    have H1 := Lib.hid h1
    have H2 := Lib.hid h2
    have CP := fun V A n q (hV : RS V 42 dcl 2 A n q (kL s)) => put_r A n q (kL s) b V hV hrb
    simp only [hk] at CK
    obtain ⟨k, hkk⟩ : ∃ k, ePu (kL s) b = k := ⟨_, rfl⟩
    simp only [hkk] at CP H1
    obtain ⟨Lk, hLk⟩ : ∃ L, kL s = L := ⟨_, rfl⟩
    simp only [hLk] at CP CK
    have q1 : ((k : Int) != 0) = true := by rw [bne_iff_ne]; omega
    clear h1 h2 hk hkk hm hp hLk hrb
    go_enter Try.func18, Try.ntmps18
    go_wp2_with (first | ((with_reducible refine st_box 40 _ (siA s) ?_ ?_); exact rfl))
    refine ⟨fun V1 g1 n1 f1 => ?_⟩
    have up1 : w.heap.size ≤ g1 := Nat.le_of_eq f1.at_
    have bl1 := f1.bel
    clear f1
    have l3 := le_tr (Below.refl _ _) bl1
    clear bl1
    go_wp2_with (first | ((with_reducible refine st_box 42 _ (btA b) ?_ ?_); exact rfl))
    refine ⟨fun V4 g4 n4 f4 => ?_⟩
    have ne4_s := f4.ne n1
    have up4 : w.heap.size ≤ g4 := f4.up l3
    have bl4 := f4.bel
    clear f4
    have r6_s := le_on n1 bl4
    have l6 := le_tr l3 bl4
    clear n1 l3
    clear bl4
    go_wp2_with (first | ((with_reducible refine st_alloc 40 (siA zS) ?_ ?_); exact zero_sr))
    refine ⟨fun V7 g7 n7 f7 => ?_⟩
    have ne7_s := f7.ne r6_s
    have ne7_b := f7.ne n4
    have up7 : w.heap.size ≤ g7 := f7.up l6
    have bl7 := f7.bel
    clear f7
    have r9_s := le_on r6_s bl7
    have r9_b := le_on n4 bl7
    have l9 := le_tr l6 bl7
    clear r6_s n4 l6
    clear bl7
    go_wp2_with (first | (first | ((with_reducible refine st_load 40 _ g1 ?_ r9_s Try.underlying40 ?_ ?_ ?_); exact rfl; exact rfl; exact Try.zSr) | ((with_reducible refine st_loadG 40 _ g1 ?_ r9_s Try.underlying40 ?_ ?_ ?_ ?_); exact rfl; exact rfl; exact Try.zSr; exact rfl)))
    (with_reducible refine (CR _).mono ?_)
    rintro e w10 ⟨rfl, b10⟩
    have r12_s := le_on r9_s b10
    have r12_b := le_on r9_b b10
    have r12_r := le_on n7 b10
    have l12 := le_tr l9 b10
    clear r9_s r9_b n7 l9
    clear b10
    go_wp2_with (first | (first | ((with_reducible refine st_load 42 _ g4 ?_ r12_b Try.underlying42 ?_ ?_ ?_); exact rfl; exact rfl; exact Try.zBr) | ((with_reducible refine st_loadG 42 _ g4 ?_ r12_b Try.underlying42 ?_ ?_ ?_ ?_); exact rfl; exact rfl; exact Try.zBr; exact rfl)))
    (with_reducible refine (CM _).mono ?_)
    rintro e w13 ⟨rfl, b13⟩
    have r15_s := le_on r12_s b13
    have r15_b := le_on r12_b b13
    have r15_r := le_on r12_r b13
    have l15 := le_tr l12 b13
    clear r12_s r12_b r12_r l12
    clear b13
    go_wp2_with (first | (first | ((with_reducible refine st_load 40 _ g1 ?_ r15_s Try.underlying40 ?_ ?_ ?_); exact rfl; exact rfl; exact Try.zSr) | ((with_reducible refine st_loadG 40 _ g1 ?_ r15_s Try.underlying40 ?_ ?_ ?_ ?_); exact rfl; exact rfl; exact Try.zSr; exact rfl)))
    (with_reducible refine (CK _).mono ?_)
    rintro e w16 ⟨A3, n3, q3, rfl, h3, b16⟩
    have r18_s := le_on r15_s b16
    have r18_b := le_on r15_b b16
    have r18_r := le_on r15_r b16
    have l18 := le_tr l15 b16
    clear r15_s r15_b r15_r l15
    clear b16
    go_wp2_with (first | (first | ((with_reducible refine st_load 42 _ g4 ?_ r18_b Try.underlying42 ?_ ?_ ?_); exact rfl; exact rfl; exact Try.zBr) | ((with_reducible refine st_loadG 42 _ g4 ?_ r18_b Try.underlying42 ?_ ?_ ?_ ?_); exact rfl; exact rfl; exact Try.zBr; exact rfl)))
    (with_reducible refine (CP _ _ _ _ h3).mono ?_)
    rintro e w19 ⟨A4, n4, q4, rfl, h4, b19⟩
    have r21_s := le_on r18_s b19
    have r21_b := le_on r18_b b19
    have r21_r := le_on r18_r b19
    have l21 := le_tr l18 b19
    clear r18_s r18_b r18_r l18
    clear b19
    clear h3
    go_wp2_with (first | (first | ((with_reducible refine st_load 40 _ g1 ?_ r21_s Try.underlying40 ?_ ?_ ?_); exact rfl; exact rfl; exact Try.zSr) | ((with_reducible refine st_loadG 40 _ g1 ?_ r21_s Try.underlying40 ?_ ?_ ?_ ?_); exact rfl; exact rfl; exact Try.zSr; exact rfl)) | ((with_reducible refine st_store 40 _ _ g7 (siA s) ?_ ?_ r21_r ?_ ?_ ?_ ?_); exact rfl; exact rfl; exact Try.zSr; exact rfl; exact siA_one _))
    refine ⟨fun V22 n22 k22 => ?_⟩
    have m22_s := k22.on r21_s ne7_s
    have m22_b := k22.on r21_b ne7_b
    have o22 := k22.bel _ _ l21 up7
    clear k22
    clear r21_r r21_s r21_b l21
    go_wp2_with fail
    exact bodyPost_ret (v := .tuple #[.agg (siA s), .int .i64 (k : Int)]) (res_two Try.results18 rfl rfl n22 Try.underlying40 rfl Try.zSr) rfl ⟨by rw [H1.out, H2.out] <;> rfl, o22⟩
  obtain ⟨h1, h2, hri⟩ := sh_0 hm hk hp
  have H1 := Lib.hid h1
  have H2 := Lib.hid h2
  have CP := fun V A n q (hV : RS V 42 dcl 2 A n q (kL s)) => put_r A n q (kL s) b V hV hrb
  simp only [hk] at CK
  have e1 : putL (kL s) b = insB (kL s) b := putL_ok hp rfl
  simp only [hp, e1] at CP
  obtain ⟨p1, p2⟩ := bPk_yes hri
  obtain ⟨I, hI⟩ : ∃ I, insB (kL s) b = I := ⟨_, rfl⟩
  simp only [hI] at CP p1 p2 H2
  have CE := fun V A n q (hV : RS V 42 dcl 2 A n q I) => gpack_r A n q I V hV.rr
  simp only [p1, p2] at CE
  obtain ⟨Lk, hLk⟩ : ∃ L, kL s = L := ⟨_, rfl⟩
  simp only [hLk] at CP CK
  clear h1 h2 hk hm hp hLk hrb hri e1 p1 p2 hI
  go_enter Try.func18, Try.ntmps18
  go_wp2_with (first | ((with_reducible refine st_box 40 _ (siA s) ?_ ?_); exact rfl))
  refine ⟨fun V1 g1 n1 f1 => ?_⟩
  have up1 : w.heap.size ≤ g1 := Nat.le_of_eq f1.at_
  have bl1 := f1.bel
  clear f1
  have l3 := le_tr (Below.refl _ _) bl1
  clear bl1
  go_wp2_with (first | ((with_reducible refine st_box 42 _ (btA b) ?_ ?_); exact rfl))
  refine ⟨fun V4 g4 n4 f4 => ?_⟩
  have ne4_s := f4.ne n1
  have up4 : w.heap.size ≤ g4 := f4.up l3
  have bl4 := f4.bel
  clear f4
  have r6_s := le_on n1 bl4
  have l6 := le_tr l3 bl4
  clear n1 l3
  clear bl4
  go_wp2_with (first | ((with_reducible refine st_alloc 40 (siA zS) ?_ ?_); exact zero_sr))
  refine ⟨fun V7 g7 n7 f7 => ?_⟩
  have ne7_s := f7.ne r6_s
  have ne7_b := f7.ne n4
  have up7 : w.heap.size ≤ g7 := f7.up l6
  have bl7 := f7.bel
  clear f7
  have r9_s := le_on r6_s bl7
  have r9_b := le_on n4 bl7
  have l9 := le_tr l6 bl7
  clear r6_s n4 l6
  clear bl7
  go_wp2_with (first | (first | ((with_reducible refine st_load 40 _ g1 ?_ r9_s Try.underlying40 ?_ ?_ ?_); exact rfl; exact rfl; exact Try.zSr) | ((with_reducible refine st_loadG 40 _ g1 ?_ r9_s Try.underlying40 ?_ ?_ ?_ ?_); exact rfl; exact rfl; exact Try.zSr; exact rfl)))
  (with_reducible refine (CR _).mono ?_)
  rintro e w10 ⟨rfl, b10⟩
  have r12_s := le_on r9_s b10
  have r12_b := le_on r9_b b10
  have r12_r := le_on n7 b10
  have l12 := le_tr l9 b10
  clear r9_s r9_b n7 l9
  clear b10
  go_wp2_with (first | (first | ((with_reducible refine st_load 42 _ g4 ?_ r12_b Try.underlying42 ?_ ?_ ?_); exact rfl; exact rfl; exact Try.zBr) | ((with_reducible refine st_loadG 42 _ g4 ?_ r12_b Try.underlying42 ?_ ?_ ?_ ?_); exact rfl; exact rfl; exact Try.zBr; exact rfl)))
  (with_reducible refine (CM _).mono ?_)
  rintro e w13 ⟨rfl, b13⟩
  have r15_s := le_on r12_s b13
  have r15_b := le_on r12_b b13
  have r15_r := le_on r12_r b13
  have l15 := le_tr l12 b13
  clear r12_s r12_b r12_r l12
  clear b13
  go_wp2_with (first | (first | ((with_reducible refine st_load 40 _ g1 ?_ r15_s Try.underlying40 ?_ ?_ ?_); exact rfl; exact rfl; exact Try.zSr) | ((with_reducible refine st_loadG 40 _ g1 ?_ r15_s Try.underlying40 ?_ ?_ ?_ ?_); exact rfl; exact rfl; exact Try.zSr; exact rfl)))
  (with_reducible refine (CK _).mono ?_)
  rintro e w16 ⟨A3, n3, q3, rfl, h3, b16⟩
  have r18_s := le_on r15_s b16
  have r18_b := le_on r15_b b16
  have r18_r := le_on r15_r b16
  have l18 := le_tr l15 b16
  clear r15_s r15_b r15_r l15
  clear b16
  go_wp2_with (first | (first | ((with_reducible refine st_load 42 _ g4 ?_ r18_b Try.underlying42 ?_ ?_ ?_); exact rfl; exact rfl; exact Try.zBr) | ((with_reducible refine st_loadG 42 _ g4 ?_ r18_b Try.underlying42 ?_ ?_ ?_ ?_); exact rfl; exact rfl; exact Try.zBr; exact rfl)))
  (with_reducible refine (CP _ _ _ _ h3).mono ?_)
  rintro e w19 ⟨A4, n4, q4, rfl, h4, b19⟩
  have r21_s := le_on r18_s b19
  have r21_b := le_on r18_b b19
  have r21_r := le_on r18_r b19
  have l21 := le_tr l18 b19
  clear r18_s r18_b r18_r l18
  clear b19
  clear h3
  go_wp2_with fail
  (with_reducible refine (CE _ _ _ _ h4).mono ?_)
  rintro e w22 ⟨rfl, b22⟩
  have r24_s := le_on r21_s b22
  have r24_b := le_on r21_b b22
  have r24_r := le_on r21_r b22
  have l24 := le_tr l21 b22
  clear r21_s r21_b r21_r l21
  clear b22
  clear h4
  go_wp2_with (first | ((with_reducible refine st_cell 9 _ _ g1 4 (.string (Dk.mkS (encG I))) ?_ ?_ r24_s (new := siA ({ s with cg := Dk.mkS (encG I) })) ?_ ?_ ?_ ?_ ?_ ?_); exact rfl; exact rfl; exact (by rw [siA_size]; decide); exact siA_cg _ _; exact one_s; exact rfl; exact rfl))
  refine ⟨fun V25 n25 k25 => ?_⟩
  have m25_b := k25.on r24_b (Ne.symm ne4_s)
  have m25_r := k25.on r24_r (Ne.symm ne7_s)
  have o25 := k25.bel _ _ l24 up1
  clear k25
  clear r24_s r24_b r24_r l24
  go_wp2_with (first | (first | ((with_reducible refine st_load 40 _ g1 ?_ n25 Try.underlying40 ?_ ?_ ?_); exact rfl; exact rfl; exact Try.zSr) | ((with_reducible refine st_loadG 40 _ g1 ?_ n25 Try.underlying40 ?_ ?_ ?_ ?_); exact rfl; exact rfl; exact Try.zSr; exact rfl)) | ((with_reducible refine st_store 40 _ _ g7 (siA ({ s with cg := Dk.mkS (encG I) })) ?_ ?_ m25_r ?_ ?_ ?_ ?_); exact rfl; exact rfl; exact Try.zSr; exact rfl; exact siA_one _))
  refine ⟨fun V26 n26 k26 => ?_⟩
  have m26_s := k26.on n25 ne7_s
  have m26_b := k26.on m25_b ne7_b
  have o26 := k26.bel _ _ o25 up7
  clear k26
  clear m25_r n25 m25_b o25
  go_wp2_with fail
  exact bodyPost_ret (v := .tuple #[.agg (siA ({ s with cg := Dk.mkS (encG I) })), .int .i64 0]) (res_two Try.results18 rfl rfl n26 Try.underlying40 rfl Try.zSr) rfl ⟨by rw [H1.out, H2.out] <;> rfl, o26⟩
set_option maxRecDepth 100000 in
set_option maxHeartbeats 4000000 in
theorem speak_r (s : Sd) (mb : Int) (w : World) : Calls Try.prog 20 #[.agg (siA s), .int .u8 mb] w (LPostN w 109 (lSp s mb) (eSp s mb)) := by
  have CR := fun V => hr_r s V
  by_cases hr : RightS s
  rotate_left
  · skip
    have H := Lib.hid (sp_r (mb := mb) hr)
    simp only [decide_eq_false hr] at CR
    clear hr
    go_enter Try.func20, Try.ntmps20
    go_wp2_with (first | ((with_reducible refine st_box 40 _ (siA s) ?_ ?_); exact rfl))
    refine ⟨fun V1 g1 n1 f1 => ?_⟩
    have up1 : w.heap.size ≤ g1 := Nat.le_of_eq f1.at_
    have bl1 := f1.bel
    clear f1
    have l3 := le_tr (Below.refl _ _) bl1
    clear bl1
    go_wp2_with (first | (first | ((with_reducible refine st_load 40 _ g1 ?_ n1 Try.underlying40 ?_ ?_ ?_); exact rfl; exact rfl; exact Try.zSr) | ((with_reducible refine st_loadG 40 _ g1 ?_ n1 Try.underlying40 ?_ ?_ ?_ ?_); exact rfl; exact rfl; exact Try.zSr; exact rfl)))
    (with_reducible refine (CR _).mono ?_)
    rintro e w4 ⟨rfl, b4⟩
    have r6_s := le_on n1 b4
    have l6 := le_tr l3 b4
    clear n1 l3
    clear b4
    go_wp2_with fail
    exact bodyPost_ret (v := .tuple #[.slice none 0 0, .int .i64 2]) (by simp [results, Try.results20, go_sem]) rfl (LPostN.mk_ H.out (RS.nil _ _ _ _) l6)
  simp only [decide_eq_true hr] at CR
  by_cases h8 : 8 ≤ mb
  · skip
    have H := Lib.hid (sp_2 (s := s) h8)
    have k1 : decide (mb ≥ 8) = true := by simp [h8]
    have k2 : decide (8 ≤ mb) = true := by simp [h8]
    clear h8 hr
    go_enter Try.func20, Try.ntmps20
    go_wp2_with (first | ((with_reducible refine st_box 40 _ (siA s) ?_ ?_); exact rfl))
    refine ⟨fun V1 g1 n1 f1 => ?_⟩
    have up1 : w.heap.size ≤ g1 := Nat.le_of_eq f1.at_
    have bl1 := f1.bel
    clear f1
    have l3 := le_tr (Below.refl _ _) bl1
    clear bl1
    go_wp2_with (first | (first | ((with_reducible refine st_load 40 _ g1 ?_ n1 Try.underlying40 ?_ ?_ ?_); exact rfl; exact rfl; exact Try.zSr) | ((with_reducible refine st_loadG 40 _ g1 ?_ n1 Try.underlying40 ?_ ?_ ?_ ?_); exact rfl; exact rfl; exact Try.zSr; exact rfl)))
    (with_reducible refine (CR _).mono ?_)
    rintro e w4 ⟨rfl, b4⟩
    have r6_s := le_on n1 b4
    have l6 := le_tr l3 b4
    clear n1 l3
    clear b4
    go_wp2_with fail
    exact bodyPost_ret (v := .tuple #[.slice none 0 0, .int .i64 2]) (by simp [results, Try.results20, go_sem]) rfl (LPostN.mk_ H.out (RS.nil _ _ _ _) l6)
  have k1 : decide (mb ≥ 8) = false := by simp; omega
  have k2 : decide (8 ≤ mb) = false := by simp; omega
  have CK := fun V => held_r s V (by have := hr.2.2.2.1; omega)
  obtain ⟨e1, e2⟩ := h_k hr
  simp only [e1, e2] at CK
  clear e1 e2 hr
  by_cases hk : kE s = 0
  rotate_left
  · skip
    obtain ⟨h1, h2⟩ := sp_k h8 hk
    obtain ⟨k, hkk⟩ : ∃ k, kE s = k := ⟨_, rfl⟩
    simp only [hkk] at CK h1
    have H := Lib.hid (And.intro h1 h2)
    have q1 : ((k : Int) != 0) = true := by rw [bne_iff_ne]; omega
    clear h1 h2 hk hkk h8
    go_enter Try.func20, Try.ntmps20
    go_wp2_with (first | ((with_reducible refine st_box 40 _ (siA s) ?_ ?_); exact rfl))
    refine ⟨fun V1 g1 n1 f1 => ?_⟩
    have up1 : w.heap.size ≤ g1 := Nat.le_of_eq f1.at_
    have bl1 := f1.bel
    clear f1
    have l3 := le_tr (Below.refl _ _) bl1
    clear bl1
    go_wp2_with (first | (first | ((with_reducible refine st_load 40 _ g1 ?_ n1 Try.underlying40 ?_ ?_ ?_); exact rfl; exact rfl; exact Try.zSr) | ((with_reducible refine st_loadG 40 _ g1 ?_ n1 Try.underlying40 ?_ ?_ ?_ ?_); exact rfl; exact rfl; exact Try.zSr; exact rfl)))
    (with_reducible refine (CR _).mono ?_)
    rintro e w4 ⟨rfl, b4⟩
    have r6_s := le_on n1 b4
    have l6 := le_tr l3 b4
    clear n1 l3
    clear b4
    go_wp2_with (first | (first | ((with_reducible refine st_load 40 _ g1 ?_ r6_s Try.underlying40 ?_ ?_ ?_); exact rfl; exact rfl; exact Try.zSr) | ((with_reducible refine st_loadG 40 _ g1 ?_ r6_s Try.underlying40 ?_ ?_ ?_ ?_); exact rfl; exact rfl; exact Try.zSr; exact rfl)))
    (with_reducible refine (CK _).mono ?_)
    rintro e w7 ⟨A3, n3, q3, rfl, h3, b7⟩
    have r9_s := le_on r6_s b7
    have l9 := le_tr l6 b7
    clear r6_s l6
    clear b7
    go_wp2_with fail
    exact bodyPost_ret (v := .tuple #[.slice none 0 0, .int .i64 (k : Int)]) (by simp [results, Try.results20, go_sem]) rfl (LPostN.mk_ H.out (RS.nil _ _ _ _) l9)
  have H := Lib.hid (sp_0 h8 hk)
  obtain ⟨_, _, _, hrb⟩ := k_ok hk
  simp only [hk] at CK
  obtain ⟨L, hL⟩ : ∃ L, kL s = L := ⟨_, rfl⟩
  rw [hL] at hrb
  simp only [hL] at CK H
  have hL50 := hrb.1
  clear hk hL hrb h8
  go_enter Try.func20, Try.ntmps20
  go_wp2_with (first | ((with_reducible refine st_box 40 _ (siA s) ?_ ?_); exact rfl))
  refine ⟨fun V1 g1 n1 f1 => ?_⟩
  have up1 : w.heap.size ≤ g1 := Nat.le_of_eq f1.at_
  have bl1 := f1.bel
  clear f1
  have l3 := le_tr (Below.refl _ _) bl1
  clear bl1
  go_wp2_with (first | (first | ((with_reducible refine st_load 40 _ g1 ?_ n1 Try.underlying40 ?_ ?_ ?_); exact rfl; exact rfl; exact Try.zSr) | ((with_reducible refine st_loadG 40 _ g1 ?_ n1 Try.underlying40 ?_ ?_ ?_ ?_); exact rfl; exact rfl; exact Try.zSr; exact rfl)))
  (with_reducible refine (CR _).mono ?_)
  rintro e w4 ⟨rfl, b4⟩
  have r6_s := le_on n1 b4
  have l6 := le_tr l3 b4
  clear n1 l3
  clear b4
  go_wp2_with (first | (first | ((with_reducible refine st_load 40 _ g1 ?_ r6_s Try.underlying40 ?_ ?_ ?_); exact rfl; exact rfl; exact Try.zSr) | ((with_reducible refine st_loadG 40 _ g1 ?_ r6_s Try.underlying40 ?_ ?_ ?_ ?_); exact rfl; exact rfl; exact Try.zSr; exact rfl)))
  (with_reducible refine (CK _).mono ?_)
  rintro e w7 ⟨A, n, q, rfl, h3, b7⟩
  have r9_s := le_on r6_s b7
  have l9 := le_tr l6 b7
  clear r6_s l6
  clear b7
  have hn50 : n ≤ 50 := by have := h3.len; omega
  have hlen := Lib.hid h3.len
  clear hL50 CK
  obtain ⟨GL, h4⟩ := h3
  have hl0 : SO 0 w7 42 dcl 2 A n q L GL := ⟨h4, fun _ _ => Nat.zero_le _⟩
  clear h4
  have nls := SO.noT hl0 r9_s (by decide)
  go_wp2_with fail
  go_loopw [8, 9] (fun sv iv wr => ∃ (k : Nat) (B : Option Addr) (c : Nat) (G : Option Nat), k ≤ n ∧ iv = .int .i64 k ∧ sv = .slice B k c ∧ CB wr g1 40 (siA s) ∧ SO 0 wr 42 dcl 2 A n q L GL ∧ SO w.heap.size wr 109 ncl 10 B k c ((L.take k).map (ntB mb s.l.ep)) G ∧ Below w.heap.size w wr) (fun _ iv _ => n - (intOf iv).toNat)
  case atStart => exact ⟨0, none, 0, none, by omega, rfl, rfl, r9_s, hl0, SO.nil _ _ _ _ _, l9⟩
  case round =>
    clear r9_s hl0 l9
    obtain ⟨k, B, c, G, hk, rfl, rfl, hs, hl, hm, hw⟩ := hrel
    by_cases hlt : k < n
    have n1 := SO.noT hl hs (by decide)
    have n2 := SO.noT hm hs (by decide)
    · skip
      obtain ⟨g, off, x, hxk, hA, _⟩ := (SO.rr hl).elem hlt
      subst hA
      have HN := Lib.hid (map_next (ntB mb s.l.ep) hxk)
      have HX := Lib.hid hxk
      have l1 : (k : Int) < (n : Int) := by omega
      have hrl := SO.rr hl
      clear hxk
      go_wp2_with fail
      have y101 := Lib.hid (show (fun V : World => CB V g1 40 (siA s) ∧ RR V dcl 2 (some ⟨g, off, none⟩) n q L) wr.drew from ⟨CB.drew hs, (hrl).drew⟩)
      refine wp_region_held_drew (S := (fun V : World => CB V g1 40 (siA s) ∧ RR V dcl 2 (some ⟨g, off, none⟩) n q L)) (by kernel_rfl) y101.out (fun hHeld => ?_)
      obtain ⟨D101, hD101⟩ : ∃ V, wr.drew = V := ⟨_, rfl⟩
      have b101 : Below wr.heap.size wr D101 := by rw [← hD101]; exact le_dr (Below.refl _ _)
      rw [hD101] at hHeld ⊢
      clear hD101
      have r102_l := SO.on hl b101
      have r102_m := SO.on hm b101
      have r103_s := le_on hs b101
      have r103_r := (hrl).on b101
      have l103 := le_tr hw b101
      clear hs hrl hw
      clear hl hm
      clear b101
      refine wpAnyH_takeL (i := 0) (d := some 31) (v := .slice B k c) rfl rfl (by kernel_rfl) (by kernel_rfl) (by kernel_rfl) (fun _ _ _ h => h) (Or.inl ⟨by rfl, ?_⟩) hHeld ?_
      · intro w hSw; (try dsimp only at hSw); go_simp
      try simp only [Act.put, List.setIfInBounds_toArray, List.set_cons_zero, List.set_cons_succ]
      refine wpAnyH_takeL (i := 1) (d := some 32) (v := .int .u8 mb) rfl rfl (by kernel_rfl) (by kernel_rfl) (by kernel_rfl) (fun _ _ _ h => h) (Or.inl ⟨by rfl, ?_⟩) hHeld ?_
      · intro w hSw; (try dsimp only at hSw); go_simp
      try simp only [Act.put, List.setIfInBounds_toArray, List.set_cons_zero, List.set_cons_succ]
      refine wpAnyH_takeL (i := 2) (d := some 33) (v := .slice (some ⟨g, off, none⟩) n q) rfl rfl (by kernel_rfl) (by kernel_rfl) (by kernel_rfl) (fun _ _ _ h => h) (Or.inl ⟨by rfl, ?_⟩) hHeld ?_
      · intro w hSw; (try dsimp only at hSw); go_simp
      try simp only [Act.put, List.setIfInBounds_toArray, List.set_cons_zero, List.set_cons_succ]
      refine wpAnyH_takeL (i := 3) (d := some 34) (v := .int .i64 (k : Int)) rfl rfl (by kernel_rfl) (by kernel_rfl) (by kernel_rfl) (fun _ _ _ h => h) (Or.inl ⟨by rfl, ?_⟩) hHeld ?_
      · intro w hSw; (try dsimp only at hSw); go_simp
      try simp only [Act.put, List.setIfInBounds_toArray, List.set_cons_zero, List.set_cons_succ]
      refine wpAnyH_takeL (i := 4) (d := some 35) (v := .pointer (some ⟨g, off + k * 2, none⟩)) rfl rfl (by kernel_rfl) (by kernel_rfl) (by kernel_rfl) (fun _ _ _ h => h) (Or.inl ⟨by rfl, ?_⟩) hHeld ?_
      · intro w hSw; (try dsimp only at hSw); go_simp
      try simp only [Act.put, List.setIfInBounds_toArray, List.set_cons_zero, List.set_cons_succ]
      refine wpAnyH_takeL (i := 5) (d := some 36) (v := .pointer (some ⟨g, off + k * 2, none⟩)) rfl rfl (by kernel_rfl) (by kernel_rfl) (by kernel_rfl) (fun _ _ _ h => h) (Or.inl ⟨by rfl, ?_⟩) hHeld ?_
      · intro w hSw; (try dsimp only at hSw); go_simp
      try simp only [Act.put, List.setIfInBounds_toArray, List.set_cons_zero, List.set_cons_succ]
      refine wpAnyH_takeL (i := 6) (d := some 37) (v := .int .i64 x.tx) rfl rfl (by kernel_rfl) (by kernel_rfl) (by kernel_rfl) (fun _ _ _ h => h) (Or.inl ⟨by rfl, ?_⟩) hHeld ?_
      · intro w hSw; have hcc : w.cell? ⟨g, off + k * 2, none⟩ = some (.int .i64 x.tx) := RR.elemAt hSw.2 HX.out rfl 0 _ rfl; go_simp
      try simp only [Act.put, List.setIfInBounds_toArray, List.set_cons_zero, List.set_cons_succ]
      refine wpAnyH_takeL (i := 7) (d := some 38) (v := .pointer (some ⟨g1, 1, none⟩)) rfl rfl (by kernel_rfl) (by kernel_rfl) (by kernel_rfl) (fun _ _ _ h => h) (Or.inl ⟨by rfl, ?_⟩) hHeld ?_
      · intro w hSw; (try dsimp only at hSw); go_simp
      try simp only [Act.put, List.setIfInBounds_toArray, List.set_cons_zero, List.set_cons_succ]
      refine wpAnyH_takeL (i := 8) (d := some 39) (v := .pointer (some ⟨g1, 1, none⟩)) rfl rfl (by kernel_rfl) (by kernel_rfl) (by kernel_rfl) (fun _ _ _ h => h) (Or.inl ⟨by rfl, ?_⟩) hHeld ?_
      · intro w hSw; (try dsimp only at hSw); go_simp
      try simp only [Act.put, List.setIfInBounds_toArray, List.set_cons_zero, List.set_cons_succ]
      refine wpAnyH_takeL (i := 9) (d := some 40) (v := .int .i64 (s.l).ep) rfl rfl (by kernel_rfl) (by kernel_rfl) (by kernel_rfl) (fun _ _ _ h => h) (Or.inl ⟨by rfl, ?_⟩) hHeld ?_
      · intro w hSw; (try dsimp only at hSw); have hcc : w.cell? ⟨g1, 1, none⟩ = some (.int .i64 (s.l).ep) := CB.cell hSw.1 1; go_simp
      try simp only [Act.put, List.setIfInBounds_toArray, List.set_cons_zero, List.set_cons_succ]
      refine wpAnyH_takeL (i := 10) (d := some 41) (v := .slice (some ⟨g, off, none⟩) n q) rfl rfl (by kernel_rfl) (by kernel_rfl) (by kernel_rfl) (fun _ _ _ h => h) (Or.inl ⟨by rfl, ?_⟩) hHeld ?_
      · intro w hSw; (try dsimp only at hSw); go_simp
      try simp only [Act.put, List.setIfInBounds_toArray, List.set_cons_zero, List.set_cons_succ]
      refine wpAnyH_takeL (i := 11) (d := some 42) (v := .int .i64 (k : Int)) rfl rfl (by kernel_rfl) (by kernel_rfl) (by kernel_rfl) (fun _ _ _ h => h) (Or.inl ⟨by rfl, ?_⟩) hHeld ?_
      · intro w hSw; (try dsimp only at hSw); go_simp
      try simp only [Act.put, List.setIfInBounds_toArray, List.set_cons_zero, List.set_cons_succ]
      refine wpAnyH_takeL (i := 12) (d := some 43) (v := .pointer (some ⟨g, off + k * 2, none⟩)) rfl rfl (by kernel_rfl) (by kernel_rfl) (by kernel_rfl) (fun _ _ _ h => h) (Or.inl ⟨by rfl, ?_⟩) hHeld ?_
      · intro w hSw; (try dsimp only at hSw); go_simp
      try simp only [Act.put, List.setIfInBounds_toArray, List.set_cons_zero, List.set_cons_succ]
      refine wpAnyH_takeL (i := 13) (d := some 44) (v := .pointer (some ⟨g, off + k * 2 + 1, none⟩)) rfl rfl (by kernel_rfl) (by kernel_rfl) (by kernel_rfl) (fun _ _ _ h => h) (Or.inl ⟨by rfl, ?_⟩) hHeld ?_
      · intro w hSw; (try dsimp only at hSw); go_simp
      try simp only [Act.put, List.setIfInBounds_toArray, List.set_cons_zero, List.set_cons_succ]
      refine wpAnyH_takeL (i := 14) (d := some 45) (v := .int .i64 x.vt) rfl rfl (by kernel_rfl) (by kernel_rfl) (by kernel_rfl) (fun _ _ _ h => h) (Or.inl ⟨by rfl, ?_⟩) hHeld ?_
      · intro w hSw; have hcc : w.cell? ⟨g, off + k * 2 + 1, none⟩ = some (.int .i64 x.vt) := RR.elemAt hSw.2 HX.out rfl 1 _ rfl; go_simp
      try simp only [Act.put, List.setIfInBounds_toArray, List.set_cons_zero, List.set_cons_succ]
      refine wpAnyH_takeL (i := 15) (d := some 46) (v := .agg (ntA (ntB mb s.l.ep x))) rfl rfl (by kernel_rfl) (by kernel_rfl) (by kernel_rfl) (fun _ _ _ h => h) (Or.inl ⟨by rfl, ?_⟩) hHeld ?_
      · intro w hSw; exact yl_built5 109 _ _ _ _ _ _ _ _ _ _ _ rfl rfl rfl rfl rfl (built_r5 _ _ _ _ _)
      try simp only [Act.put, List.setIfInBounds_toArray, List.set_cons_zero, List.set_cons_succ]
      refine wpAnyH_ready (rs := [16]) (by kernel_rfl) (by simp) ?_
      refine AllReadyH.cons rfl (fun K hK => ?_) AllReadyH.nil
      refine rd_lit1 rfl 55 109 _ rfl (some 47) rfl (ntA (ntB mb s.l.ep x)) rfl Try.underlying55 Try.lit_nr rfl (by decide) (by decide) ?_
      refine ⟨fun V104 g104 n104 f104 => ?_⟩
      have ne104_s := f104.ne r103_s
      have no104_l := SO.fresh r102_l (Nat.le_of_eq f104.at_)
      have no104_m := SO.fresh r102_m (Nat.le_of_eq f104.at_)
      have up104 : w.heap.size ≤ g104 := f104.up l103
      have bl104 := f104.bel
      clear f104
      have r105_l := SO.on r102_l bl104
      have r105_m := SO.on r102_m bl104
      have r106_s := le_on r103_s bl104
      have r106_r := (r103_r).on bl104
      have l106 := le_tr l103 bl104
      clear r103_s r103_r l103
      clear r102_l r102_m
      clear bl104
      have y107 := Lib.hid (show (fun V : World => CB V g1 40 (siA s) ∧ RR V dcl 2 (some ⟨g, off, none⟩) n q L) V104 from ⟨r106_s, r106_r⟩)
      refine hK.out _ _ y107.out (fun hHeld => ?_)
      clear hK K y107
      try simp only [Act.put, List.setIfInBounds_toArray, List.set_cons_zero, List.set_cons_succ]
      refine wpAnyH_ready (rs := [17]) (by kernel_rfl) (by simp) ?_
      refine AllReadyH.cons rfl (fun K hK => ?_) AllReadyH.nil
      refine rd_app rfl (.tmp 31) (.tmp 47) 55 rfl (some 48) rfl 109 Try.underlying55 Try.infoNr rfl (by decide) (A := B) (n := k) (c := c) (G := G) rfl r105_m.seg (As := (some ⟨g104, 0, none⟩)) (m := 1) (k := 1) rfl (Src.box n104 rfl) (all_list (ntA_one _)) (by simp only [maxLen]; omega) (by omega) (k + 1) (by omega) ?_
      refine ⟨fun B108 m108 q108 w108 s108 h108 k108 => ?_⟩
      have s108 : Seg w108 109 10 B108 (k + 1) m108 (rc ncl ((L.take k).map (ntB mb s.l.ep) ++ [(ntB mb s.l.ep x)])) q108 := by rw [← rc_snoc]; exact s108
      have hg108 : ∀ g, G = some g → w.heap.size ≤ g := fun g e => r105_m.hi g e
      have so108 : SO w.heap.size w108 109 ncl 10 B108 (k + 1) m108 ((L.take k).map (ntB mb s.l.ep) ++ [(ntB mb s.l.ep x)]) q108 := ⟨s108, k108.ge (l106).size hg108⟩
      have e108_s := CB.same r106_s (h108.block _ (CB.lt r106_s) (fun e => n2 _ e.symm rfl))
      have na108_s := moved_ne k108 (CB.lt r106_s) n2
      have e108_q := CB.same n104 (h108.block _ (CB.lt n104) (fun e => no104_m _ e.symm rfl))
      have na108_q := moved_ne k108 (CB.lt n104) no104_m
      have e108_r := (RR.keepT r105_l h108 r105_m.seg (by decide))
      have e108_l := SO.grow r105_l h108 (SO.apT r105_l r105_m (by decide))
      have lw108 := (l106).grown h108 (l106).size hg108
      clear h108 k108 s108 hg108 r105_m r106_s n2 n104 no104_m r106_r r105_l l106
      have y109 := Lib.hid (show (fun V : World => CB V g1 40 (siA s) ∧ RR V dcl 2 (some ⟨g, off, none⟩) n q L) w108 from ⟨e108_s, e108_r⟩)
      refine hK.out _ _ y109.out (fun hHeld => ?_)
      clear hK K y109
      try simp only [Act.put, List.setIfInBounds_toArray, List.set_cons_zero, List.set_cons_succ]
      refine wpAnyH_takeL (i := 18) (d := some 8) (v := .slice B108 (k + 1) m108) rfl rfl (by kernel_rfl) (by kernel_rfl) (by kernel_rfl) (fun _ _ _ h => h) (Or.inl ⟨by rfl, ?_⟩) hHeld ?_
      · intro w hSw; (try dsimp only at hSw); go_simp
      try simp only [Act.put, List.setIfInBounds_toArray, List.set_cons_zero, List.set_cons_succ]
      refine wpAnyH_done (by kernel_rfl) ?_ _
      go_wp2_with fail
      go_roundw
      case rel => exact ⟨k + 1, B108, m108, q108, by omega, by go_num, rfl, e108_s, e108_l, by rw [HN.out]; exact so108, lw108⟩
      case measure => simp [intOf]; omega
    · skip
      obtain rfl : k = n := by omega
      have gz0 : ¬ ((k : Int) < (k : Int)) := by omega
      have hm2 : SO w.heap.size wr 109 ncl 10 B k c (L.map (ntB mb s.l.ep)) G := by rw [List.take_of_length_le (by rw [hlen.out]; exact Nat.le_refl _)] at hm; exact hm
      clear hm hlt
      go_wp2_with fail
      exact bodyPost_ret (v := .tuple #[.slice B k c, .int .i64 0]) (by simp [results, Try.results20, go_sem]) rfl (LPostN.mk_ H.out (SO.rs hm2) hw)
end Go.Proofs.Ytfdboahcaiolgaa
