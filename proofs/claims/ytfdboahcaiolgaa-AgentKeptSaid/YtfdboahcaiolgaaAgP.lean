/-
  kept, Ship, Speak of package agent. No condition.
-/
import Derived.Test.YtfdboahcaiolgaaAgJ
import Derived.Test.YtfdboahcaiolgaaAgH
import Derived.Test.YtfdboahcaiolgaaAqHf
set_option linter.unusedVariables false
set_option linter.unusedSimpArgs false
namespace Go.Proofs.Ytfdboahcaiolgaa
open Go.RowKit
open Dk (Nt InN RightN BoundN MsgN NoMsg KindN EpN bound_n)


theorem hr_c (s : Sd) (w : World) : Calls Try.prog 25 #[.agg (siA s)] w fun r w' => r = .returned (.bool (decide (RightS s))) ∧ Below w.heap.size w w' := hright_c s.me s.l.ep s.l.st s.l.to s.cg s.kp w
theorem hr_r (s : Sd) (w : World) : Calls Try.prog 41 #[.agg (siA s)] w fun r w' => r = .returned (.bool (decide (RightS s))) ∧ Below w.heap.size w w' := hright_r s.me s.l.ep s.l.st s.l.to s.cg s.kp w
/-- What a side that is asked for its ballots answers. -/
def kE (s : Sd) : Nat := if ¬ RightS s then 2 else if ¬ s.l.st = 1 then 7 else gE (Dk.bl s.cg)
def kL (s : Sd) : List Bl := if kE s = 0 then gL (Dk.bl s.cg) else []
def hE (s : Sd) : Nat := if ¬ s.l.st = 1 then 7 else gE (Dk.bl s.cg)
def hL (s : Sd) : List Bl := if hE s = 0 then gL (Dk.bl s.cg) else []
theorem gE_le (bs : List UInt8) : gE bs = 0 ∨ gE bs = 4 := by unfold gE; split <;> simp
theorem gL_err {bs : List UInt8} (h : ¬ gE bs = 0) : gL bs = [] := by unfold gE at h; unfold gL; split at h <;> simp_all
theorem gE_some {bs : List UInt8} (h : gE bs = 0) : dG bs = some (gL bs) ∧ RightB (gL bs) := by
  unfold gE at h
  unfold gL
  split at h
  · cases h
  · rename_i L e; rw [e]; exact ⟨rfl, (dG_some.1 e).1⟩
theorem gE_none {bs : List UInt8} (h : ¬ gE bs = 0) : dG bs = none := by
  unfold gE at h
  split at h
  · assumption
  · exact absurd rfl h
def KPost (w : World) (T : TypeId) (L : List Bl) (k : Nat) (e : Ending) (w' : World) : Prop :=
  ∃ A, e = .returned (.tuple #[.slice A L.length L.length, .int .i64 (k : Int)]) ∧ RS w' T dcl 2 A L.length L.length L ∧ Below w.heap.size w w'
theorem KPost.no {w w' : World} {T : TypeId} {s : Sd} {k : Nat} (h : kE s = k) (hk : ¬ k = 0) (hb : Below w.heap.size w w') : KPost w T (kL s) (kE s) (.returned (.tuple #[.slice none 0 0, .int .i64 (k : Int)])) w' := by
  have : kL s = [] := by unfold kL; rw [if_neg (by omega)]
  rw [this, h]
  exact ⟨none, rfl, RS.nil _ _ _ _, hb⟩
theorem KPost.yes {w w' : World} {T : TypeId} {s : Sd} {A : Option Addr} (h : kE s = gE (Dk.bl s.cg)) (hr : RS w' T dcl 2 A (gL (Dk.bl s.cg)).length (gL (Dk.bl s.cg)).length (gL (Dk.bl s.cg))) (hb : Below w.heap.size w w') : KPost w T (kL s) (kE s) (.returned (.tuple #[.slice A (gL (Dk.bl s.cg)).length (gL (Dk.bl s.cg)).length, .int .i64 ((gE (Dk.bl s.cg) : Nat) : Int)])) w' := by
  have : kL s = gL (Dk.bl s.cg) := by
    unfold kL
    split
    · rfl
    · rename_i e; rw [h] at e; exact (gL_err e).symm
  rw [this, h]
  exact ⟨A, rfl, hr, hb⟩
theorem sh_2 {s : Sd} {b : Bl} (h : ¬ MayB b ∨ ¬ RightS s) : eSh s b = 2 ∧ sSh s b = s := by
  have e : eSh s b = 2 := if_pos h.symm
  exact ⟨e, by unfold sSh; rw [if_neg (by omega)]⟩
theorem sh_k {s : Sd} {b : Bl} (hb : MayB b) (h : ¬ kE s = 0) : eSh s b = kE s ∧ sSh s b = s := by
  have e : eSh s b = kE s := by
    unfold eSh kE at *
    by_cases hr : RightS s
    · rw [if_neg (by rintro (e | e); exact e hr; exact e hb), if_neg (not_not_intro hr)]
      by_cases hst : s.l.st = 1
      · rw [if_neg (not_not_intro hst), if_neg (not_not_intro hst)]
        rw [if_neg (not_not_intro hr), if_neg (not_not_intro hst)] at h
        rw [gE_none h]; unfold gE; rw [gE_none h]
      · rw [if_pos hst, if_pos hst]
    · rw [if_pos (.inl hr), if_pos hr]
  exact ⟨e, by unfold sSh; rw [if_neg (by omega)]⟩
theorem k_ok {s : Sd} (h : kE s = 0) : RightS s ∧ s.l.st = 1 ∧ dG (Dk.bl s.cg) = some (kL s) ∧ RightB (kL s) := by
  have hk : kL s = gL (Dk.bl s.cg) := by unfold kL; rw [if_pos h]
  unfold kE at h
  by_cases hr : RightS s
  · rw [if_neg (not_not_intro hr)] at h
    by_cases hst : s.l.st = 1
    · rw [if_neg (not_not_intro hst)] at h
      obtain ⟨h1, h2⟩ := gE_some h
      rw [hk]
      exact ⟨hr, hst, h1, h2⟩
    · rw [if_pos hst] at h; cases h
  · rw [if_pos hr] at h; cases h
theorem k_has {s : Sd} (h : kE s = 0) : HasB s (kL s) := by
  obtain ⟨h1, h2, h3, _⟩ := k_ok h
  exact ⟨h1, h2, h3⟩
theorem sh_p {s : Sd} {b : Bl} (hb : MayB b) (h : kE s = 0) (hp : ¬ ePu (kL s) b = 0) : eSh s b = ePu (kL s) b ∧ sSh s b = s := by
  have e := sh_has (k_has h) b hb
  exact ⟨e, by unfold sSh; rw [if_neg (by omega)]⟩
theorem sh_0 {s : Sd} {b : Bl} (hb : MayB b) (h : kE s = 0) (hp : ePu (kL s) b = 0) : eSh s b = 0 ∧ sSh s b = { s with cg := Dk.mkS (encG (insB (kL s) b)) } ∧ RightB (insB (kL s) b) := by
  have e := sh_has (k_has h) b hb
  rw [hp] at e
  refine ⟨e, ?_, right_ins (k_ok h).2.2.2 hb hp⟩
  unfold sSh
  rw [if_pos e, (k_ok h).2.2.1]
/-- What is spoken, by what is kept. -/
theorem sp_2 {s : Sd} {mb : Int} (h : 8 ≤ mb) : eSp s mb = 2 ∧ lSp s mb = [] := by
  have e : eSp s mb = 2 := if_pos (.inr h)
  exact ⟨e, by unfold lSp; rw [if_neg (by omega)]⟩
theorem sp_k {s : Sd} {mb : Int} (hb : ¬ 8 ≤ mb) (h : ¬ kE s = 0) : eSp s mb = kE s ∧ lSp s mb = [] := by
  have e : eSp s mb = kE s := by
    unfold eSp kE at *
    by_cases hr : RightS s
    · rw [if_neg (by rintro (e | e); exact e hr; exact hb e), if_neg (not_not_intro hr)]
      by_cases hst : s.l.st = 1
      · rw [if_neg (not_not_intro hst), if_neg (not_not_intro hst)]
        rw [if_neg (not_not_intro hr), if_neg (not_not_intro hst)] at h
        rw [gE_none h]; unfold gE; rw [gE_none h]
      · rw [if_pos hst, if_pos hst]
    · rw [if_pos (.inl hr), if_pos hr]
  exact ⟨e, by unfold lSp; rw [if_neg (by omega)]⟩
theorem sp_0 {s : Sd} {mb : Int} (hb : ¬ 8 ≤ mb) (h : kE s = 0) : eSp s mb = 0 ∧ lSp s mb = (kL s).map (ntB mb s.l.ep) := sp_has (k_has h) (by omega)
theorem LPostN.mk_ {w w' : World} {T : TypeId} {s : Sd} {mb : Int} {M : List Nt} {k : Nat} {A : Option Addr} {n q : Nat} (h : eSp s mb = k ∧ lSp s mb = M) (hr : RS w' T ncl 10 A n q M) (hb : Below w.heap.size w w') : LPostN w T (lSp s mb) (eSp s mb) (.returned (.tuple #[.slice A n q, .int .i64 (k : Int)])) w' := by
  rw [h.1, h.2]
  exact ⟨A, n, q, rfl, hr, hb⟩
theorem map_next {L : List Bl} {k : Nat} {x : Bl} (f : Bl → Nt) (hx : L[k]? = some x) : (L.take (k + 1)).map f = (L.take k).map f ++ [f x] := by rw [take_snoc hx]; simp
set_option maxRecDepth 100000 in
set_option maxHeartbeats 4000000 in
theorem kept_c (s : Sd) (w : World) : Calls Try.prog 39 #[.agg (siA s)] w (KPost w 49 (kL s) (kE s)) := by
  have CR := fun V => hr_c s V
  by_cases hr : RightS s
  rotate_left
  · skip
    have H := Lib.hid (show kE s = 2 from if_pos hr)
    simp only [decide_eq_false hr] at CR
    clear hr
    go_enter Try.func39, Try.ntmps39
    go_wp2_with (first | ((with_reducible refine st_box 45 _ (siA s) ?_ ?_); exact rfl))
    refine ⟨fun V1 g1 n1 f1 => ?_⟩
    have up1 : w.heap.size ≤ g1 := Nat.le_of_eq f1.at_
    have bl1 := f1.bel
    clear f1
    have l3 := le_tr (Below.refl _ _) bl1
    clear bl1
    go_wp2_with (first | ((with_reducible refine st_load 45 _ g1 ?_ n1 Try.underlying45 ?_ ?_ ?_); exact rfl; exact rfl; exact Try.zSc))
    (with_reducible refine (CR _).mono ?_)
    rintro e w4 ⟨rfl, b4⟩
    have r6_s := le_on n1 b4
    have l6 := le_tr l3 b4
    clear n1 l3
    clear b4
    go_wp2_with fail
    exact bodyPost_ret (v := .tuple #[.slice none 0 0, .int .i64 2]) (by simp [results, Try.results39, go_sem]) rfl (KPost.no H.out (by decide) l6)
  simp only [decide_eq_true hr] at CR
  have hcg : s.cg.size ≤ 1000000 := by have := hr.2.2.2.1; omega
  by_cases hst : s.l.st = 1
  rotate_left
  · skip
    have H := Lib.hid (show kE s = 7 by unfold kE; rw [if_neg (not_not_intro hr), if_pos hst])
    have q1 : (s.l.st != 1) = true := by simp [hst]
    clear hr hst
    go_enter Try.func39, Try.ntmps39
    go_wp2_with (first | ((with_reducible refine st_box 45 _ (siA s) ?_ ?_); exact rfl))
    refine ⟨fun V1 g1 n1 f1 => ?_⟩
    have up1 : w.heap.size ≤ g1 := Nat.le_of_eq f1.at_
    have bl1 := f1.bel
    clear f1
    have l3 := le_tr (Below.refl _ _) bl1
    clear bl1
    go_wp2_with (first | ((with_reducible refine st_load 45 _ g1 ?_ n1 Try.underlying45 ?_ ?_ ?_); exact rfl; exact rfl; exact Try.zSc))
    (with_reducible refine (CR _).mono ?_)
    rintro e w4 ⟨rfl, b4⟩
    have r6_s := le_on n1 b4
    have l6 := le_tr l3 b4
    clear n1 l3
    clear b4
    have c7 : w4.cell? ⟨g1, 2, none⟩ = some (.int .i64 (s.l).st) := CB.cell r6_s 2
    go_wp2_with fail
    exact bodyPost_ret (v := .tuple #[.slice none 0 0, .int .i64 7]) (by simp [results, Try.results39, go_sem]) rfl (KPost.no H.out (by decide) l6)
  have H := Lib.hid (show kE s = gE (Dk.bl s.cg) by unfold kE; rw [if_neg (not_not_intro hr), if_neg (not_not_intro hst)])
  have q1 : (s.l.st != 1) = false := by simp [hst]
  clear hr hst
  go_enter Try.func39, Try.ntmps39
  go_wp2_with (first | ((with_reducible refine st_box 45 _ (siA s) ?_ ?_); exact rfl))
  refine ⟨fun V1 g1 n1 f1 => ?_⟩
  have up1 : w.heap.size ≤ g1 := Nat.le_of_eq f1.at_
  have bl1 := f1.bel
  clear f1
  have l3 := le_tr (Below.refl _ _) bl1
  clear bl1
  go_wp2_with (first | ((with_reducible refine st_load 45 _ g1 ?_ n1 Try.underlying45 ?_ ?_ ?_); exact rfl; exact rfl; exact Try.zSc))
  (with_reducible refine (CR _).mono ?_)
  rintro e w4 ⟨rfl, b4⟩
  have r6_s := le_on n1 b4
  have l6 := le_tr l3 b4
  clear n1 l3
  clear b4
  have c7 : w4.cell? ⟨g1, 2, none⟩ = some (.int .i64 (s.l).st) := CB.cell r6_s 2
  have c8 : w4.cell? ⟨g1, 4, none⟩ = some (.string (s.cg)) := CB.cell r6_s 4
  go_wp2_with fail
  (with_reducible refine (gunp_c s.cg _ hcg).mono ?_)
  rintro e w9 ⟨A2, rfl, h2, b9⟩
  clear c7 c8
  have r11_s := le_on r6_s b9
  have l11 := le_tr l6 b9
  clear r6_s l6
  clear b9
  have hl2 := l11
  go_wp2_with fail
  exact bodyPost_ret (v := .tuple #[.slice A2 (gL (Dk.bl s.cg)).length (gL (Dk.bl s.cg)).length, .int .i64 ((gE (Dk.bl s.cg) : Nat) : Int)]) (by simp [results, Try.results39, go_sem]) rfl (KPost.yes H.out h2 hl2)
set_option maxRecDepth 100000 in
set_option maxHeartbeats 4000000 in
theorem ship_c (s : Sd) (b : Bl) (w : World) : Calls Try.prog 16 #[.agg (siA s), .agg (btA b)] w fun e w' => e = .returned (.tuple #[.agg (siA (sSh s b)), .int .i64 ((eSh s b : Nat) : Int)]) ∧ Below w.heap.size w w' := by
  have CM := fun V => mayb_c b V
  have CK := fun V => kept_c s V
  by_cases hm : MayB b
  rotate_left
  · skip
    obtain ⟨h1, h2⟩ := sh_2 (s := s) (.inl hm)
    have H1 := Lib.hid h1
    have H2 := Lib.hid h2
    simp only [decide_eq_false hm] at CM
    clear h1 h2 hm
    go_enter Try.func16, Try.ntmps16
    go_wp2_with (first | ((with_reducible refine st_box 45 _ (siA s) ?_ ?_); exact rfl))
    refine ⟨fun V1 g1 n1 f1 => ?_⟩
    have up1 : w.heap.size ≤ g1 := Nat.le_of_eq f1.at_
    have bl1 := f1.bel
    clear f1
    have l3 := le_tr (Below.refl _ _) bl1
    clear bl1
    go_wp2_with (first | ((with_reducible refine st_box 49 _ (btA b) ?_ ?_); exact rfl))
    refine ⟨fun V4 g4 n4 f4 => ?_⟩
    have ne4_s := f4.ne n1
    have up4 : w.heap.size ≤ g4 := f4.up l3
    have bl4 := f4.bel
    clear f4
    have r6_s := le_on n1 bl4
    have l6 := le_tr l3 bl4
    clear n1 l3
    clear bl4
    go_wp2_with (first | ((with_reducible refine st_alloc 45 (siA zS) ?_ ?_); exact zero_sc))
    refine ⟨fun V7 g7 n7 f7 => ?_⟩
    have ne7_s := f7.ne r6_s
    have ne7_b := f7.ne n4
    have up7 : w.heap.size ≤ g7 := f7.up l6
    have bl7 := f7.bel
    clear f7
    have r9_s := le_on r6_s bl7
    have r9_b := le_on n4 bl7
    have l9 := le_tr l6 bl7
    clear r6_s n4 l6
    clear bl7
    go_wp2_with (first | ((with_reducible refine st_load 49 _ g4 ?_ r9_b Try.underlying49 ?_ ?_ ?_); exact rfl; exact rfl; exact Try.zBc))
    (with_reducible refine (CM _).mono ?_)
    rintro e w10 ⟨rfl, b10⟩
    have r12_s := le_on r9_s b10
    have r12_b := le_on r9_b b10
    have r12_r := le_on n7 b10
    have l12 := le_tr l9 b10
    clear r9_s r9_b n7 l9
    clear b10
    go_wp2_with (first | ((with_reducible refine st_load 45 _ g1 ?_ r12_s Try.underlying45 ?_ ?_ ?_); exact rfl; exact rfl; exact Try.zSc) | ((with_reducible refine st_store 45 _ _ g7 (siA s) ?_ ?_ r12_r ?_ ?_ ?_ ?_); exact rfl; exact rfl; exact Try.zSc; exact rfl; exact siA_one _))
    refine ⟨fun V13 n13 k13 => ?_⟩
    have m13_s := k13.on r12_s ne7_s
    have m13_b := k13.on r12_b ne7_b
    have o13 := k13.bel _ _ l12 up7
    clear k13
    clear r12_r r12_s r12_b l12
    go_wp2_with fail
    exact bodyPost_ret (v := .tuple #[.agg (siA s), .int .i64 2]) (res_two Try.results16 rfl rfl n13 Try.underlying45 rfl Try.zSc) rfl ⟨by rw [H1.out, H2.out] <;> rfl, o13⟩
  simp only [decide_eq_true hm] at CM
  by_cases hk : kE s = 0
  rotate_left
  · skip
    obtain ⟨h1, h2⟩ := sh_k hm hk
    have H1 := Lib.hid h1
    have H2 := Lib.hid h2
    obtain ⟨k, hkk⟩ : ∃ k, kE s = k := ⟨_, rfl⟩
    simp only [hkk] at CK H1
    have q1 : ((k : Int) != 0) = true := by rw [bne_iff_ne]; omega
    clear h1 h2 hk hkk hm
    go_enter Try.func16, Try.ntmps16
    go_wp2_with (first | ((with_reducible refine st_box 45 _ (siA s) ?_ ?_); exact rfl))
    refine ⟨fun V1 g1 n1 f1 => ?_⟩
    have up1 : w.heap.size ≤ g1 := Nat.le_of_eq f1.at_
    have bl1 := f1.bel
    clear f1
    have l3 := le_tr (Below.refl _ _) bl1
    clear bl1
    go_wp2_with (first | ((with_reducible refine st_box 49 _ (btA b) ?_ ?_); exact rfl))
    refine ⟨fun V4 g4 n4 f4 => ?_⟩
    have ne4_s := f4.ne n1
    have up4 : w.heap.size ≤ g4 := f4.up l3
    have bl4 := f4.bel
    clear f4
    have r6_s := le_on n1 bl4
    have l6 := le_tr l3 bl4
    clear n1 l3
    clear bl4
    go_wp2_with (first | ((with_reducible refine st_alloc 45 (siA zS) ?_ ?_); exact zero_sc))
    refine ⟨fun V7 g7 n7 f7 => ?_⟩
    have ne7_s := f7.ne r6_s
    have ne7_b := f7.ne n4
    have up7 : w.heap.size ≤ g7 := f7.up l6
    have bl7 := f7.bel
    clear f7
    have r9_s := le_on r6_s bl7
    have r9_b := le_on n4 bl7
    have l9 := le_tr l6 bl7
    clear r6_s n4 l6
    clear bl7
    go_wp2_with (first | ((with_reducible refine st_load 49 _ g4 ?_ r9_b Try.underlying49 ?_ ?_ ?_); exact rfl; exact rfl; exact Try.zBc))
    (with_reducible refine (CM _).mono ?_)
    rintro e w10 ⟨rfl, b10⟩
    have r12_s := le_on r9_s b10
    have r12_b := le_on r9_b b10
    have r12_r := le_on n7 b10
    have l12 := le_tr l9 b10
    clear r9_s r9_b n7 l9
    clear b10
    go_wp2_with (first | ((with_reducible refine st_load 45 _ g1 ?_ r12_s Try.underlying45 ?_ ?_ ?_); exact rfl; exact rfl; exact Try.zSc))
    (with_reducible refine (CK _).mono ?_)
    rintro e w13 ⟨A3, rfl, h3, b13⟩
    have r15_s := le_on r12_s b13
    have r15_b := le_on r12_b b13
    have r15_r := le_on r12_r b13
    have l15 := le_tr l12 b13
    clear r12_s r12_b r12_r l12
    clear b13
    go_wp2_with (first | ((with_reducible refine st_load 45 _ g1 ?_ r15_s Try.underlying45 ?_ ?_ ?_); exact rfl; exact rfl; exact Try.zSc) | ((with_reducible refine st_store 45 _ _ g7 (siA s) ?_ ?_ r15_r ?_ ?_ ?_ ?_); exact rfl; exact rfl; exact Try.zSc; exact rfl; exact siA_one _))
    refine ⟨fun V16 n16 k16 => ?_⟩
    have m16_s := k16.on r15_s ne7_s
    have m16_b := k16.on r15_b ne7_b
    have o16 := k16.bel _ _ l15 up7
    clear k16
    clear r15_r r15_s r15_b l15
    go_wp2_with fail
    exact bodyPost_ret (v := .tuple #[.agg (siA s), .int .i64 (k : Int)]) (res_two Try.results16 rfl rfl n16 Try.underlying45 rfl Try.zSc) rfl ⟨by rw [H1.out, H2.out] <;> rfl, o16⟩
  obtain ⟨_, _, _, hrb⟩ := k_ok hk
  by_cases hp : ePu (kL s) b = 0
  rotate_left
  · skip
    obtain ⟨h1, h2⟩ := sh_p hm hk hp
    have H1 := Lib.hid h1
    have H2 := Lib.hid h2
    have CP := fun V A (hV : RS V 49 dcl 2 A (kL s).length (kL s).length (kL s)) => put_c A (kL s).length (kL s) b V hV hrb
    simp only [hk] at CK
    obtain ⟨k, hkk⟩ : ∃ k, ePu (kL s) b = k := ⟨_, rfl⟩
    simp only [hkk] at CP H1
    obtain ⟨Lk, hLk⟩ : ∃ L, kL s = L := ⟨_, rfl⟩
    simp only [hLk] at CP CK
    have q1 : ((k : Int) != 0) = true := by rw [bne_iff_ne]; omega
    clear h1 h2 hk hkk hm hp hLk hrb
    go_enter Try.func16, Try.ntmps16
    go_wp2_with (first | ((with_reducible refine st_box 45 _ (siA s) ?_ ?_); exact rfl))
    refine ⟨fun V1 g1 n1 f1 => ?_⟩
    have up1 : w.heap.size ≤ g1 := Nat.le_of_eq f1.at_
    have bl1 := f1.bel
    clear f1
    have l3 := le_tr (Below.refl _ _) bl1
    clear bl1
    go_wp2_with (first | ((with_reducible refine st_box 49 _ (btA b) ?_ ?_); exact rfl))
    refine ⟨fun V4 g4 n4 f4 => ?_⟩
    have ne4_s := f4.ne n1
    have up4 : w.heap.size ≤ g4 := f4.up l3
    have bl4 := f4.bel
    clear f4
    have r6_s := le_on n1 bl4
    have l6 := le_tr l3 bl4
    clear n1 l3
    clear bl4
    go_wp2_with (first | ((with_reducible refine st_alloc 45 (siA zS) ?_ ?_); exact zero_sc))
    refine ⟨fun V7 g7 n7 f7 => ?_⟩
    have ne7_s := f7.ne r6_s
    have ne7_b := f7.ne n4
    have up7 : w.heap.size ≤ g7 := f7.up l6
    have bl7 := f7.bel
    clear f7
    have r9_s := le_on r6_s bl7
    have r9_b := le_on n4 bl7
    have l9 := le_tr l6 bl7
    clear r6_s n4 l6
    clear bl7
    go_wp2_with (first | ((with_reducible refine st_load 49 _ g4 ?_ r9_b Try.underlying49 ?_ ?_ ?_); exact rfl; exact rfl; exact Try.zBc))
    (with_reducible refine (CM _).mono ?_)
    rintro e w10 ⟨rfl, b10⟩
    have r12_s := le_on r9_s b10
    have r12_b := le_on r9_b b10
    have r12_r := le_on n7 b10
    have l12 := le_tr l9 b10
    clear r9_s r9_b n7 l9
    clear b10
    go_wp2_with (first | ((with_reducible refine st_load 45 _ g1 ?_ r12_s Try.underlying45 ?_ ?_ ?_); exact rfl; exact rfl; exact Try.zSc))
    (with_reducible refine (CK _).mono ?_)
    rintro e w13 ⟨A3, rfl, h3, b13⟩
    have r15_s := le_on r12_s b13
    have r15_b := le_on r12_b b13
    have r15_r := le_on r12_r b13
    have l15 := le_tr l12 b13
    clear r12_s r12_b r12_r l12
    clear b13
    go_wp2_with (first | ((with_reducible refine st_load 49 _ g4 ?_ r15_b Try.underlying49 ?_ ?_ ?_); exact rfl; exact rfl; exact Try.zBc))
    (with_reducible refine (CP _ _ h3).mono ?_)
    rintro e w16 ⟨A4, n4, q4, rfl, h4, b16⟩
    have r18_s := le_on r15_s b16
    have r18_b := le_on r15_b b16
    have r18_r := le_on r15_r b16
    have l18 := le_tr l15 b16
    clear r15_s r15_b r15_r l15
    clear b16
    clear h3
    go_wp2_with (first | ((with_reducible refine st_load 45 _ g1 ?_ r18_s Try.underlying45 ?_ ?_ ?_); exact rfl; exact rfl; exact Try.zSc) | ((with_reducible refine st_store 45 _ _ g7 (siA s) ?_ ?_ r18_r ?_ ?_ ?_ ?_); exact rfl; exact rfl; exact Try.zSc; exact rfl; exact siA_one _))
    refine ⟨fun V19 n19 k19 => ?_⟩
    have m19_s := k19.on r18_s ne7_s
    have m19_b := k19.on r18_b ne7_b
    have o19 := k19.bel _ _ l18 up7
    clear k19
    clear r18_r r18_s r18_b l18
    go_wp2_with fail
    exact bodyPost_ret (v := .tuple #[.agg (siA s), .int .i64 (k : Int)]) (res_two Try.results16 rfl rfl n19 Try.underlying45 rfl Try.zSc) rfl ⟨by rw [H1.out, H2.out] <;> rfl, o19⟩
  obtain ⟨h1, h2, hri⟩ := sh_0 hm hk hp
  have H1 := Lib.hid h1
  have H2 := Lib.hid h2
  have CP := fun V A (hV : RS V 49 dcl 2 A (kL s).length (kL s).length (kL s)) => put_c A (kL s).length (kL s) b V hV hrb
  simp only [hk] at CK
  have e1 : putL (kL s) b = insB (kL s) b := putL_ok hp rfl
  simp only [hp, e1] at CP
  obtain ⟨p1, p2⟩ := bPk_yes hri
  obtain ⟨I, hI⟩ : ∃ I, insB (kL s) b = I := ⟨_, rfl⟩
  simp only [hI] at CP p1 p2 H2
  have CE := fun V A n q (hV : RS V 49 dcl 2 A n q I) => gpack_c A n q I V hV.rr
  simp only [p1, p2] at CE
  obtain ⟨Lk, hLk⟩ : ∃ L, kL s = L := ⟨_, rfl⟩
  simp only [hLk] at CP CK
  clear h1 h2 hk hm hp hLk hrb hri e1 p1 p2 hI
  go_enter Try.func16, Try.ntmps16
  go_wp2_with (first | ((with_reducible refine st_box 45 _ (siA s) ?_ ?_); exact rfl))
  refine ⟨fun V1 g1 n1 f1 => ?_⟩
  have up1 : w.heap.size ≤ g1 := Nat.le_of_eq f1.at_
  have bl1 := f1.bel
  clear f1
  have l3 := le_tr (Below.refl _ _) bl1
  clear bl1
  go_wp2_with (first | ((with_reducible refine st_box 49 _ (btA b) ?_ ?_); exact rfl))
  refine ⟨fun V4 g4 n4 f4 => ?_⟩
  have ne4_s := f4.ne n1
  have up4 : w.heap.size ≤ g4 := f4.up l3
  have bl4 := f4.bel
  clear f4
  have r6_s := le_on n1 bl4
  have l6 := le_tr l3 bl4
  clear n1 l3
  clear bl4
  go_wp2_with (first | ((with_reducible refine st_alloc 45 (siA zS) ?_ ?_); exact zero_sc))
  refine ⟨fun V7 g7 n7 f7 => ?_⟩
  have ne7_s := f7.ne r6_s
  have ne7_b := f7.ne n4
  have up7 : w.heap.size ≤ g7 := f7.up l6
  have bl7 := f7.bel
  clear f7
  have r9_s := le_on r6_s bl7
  have r9_b := le_on n4 bl7
  have l9 := le_tr l6 bl7
  clear r6_s n4 l6
  clear bl7
  go_wp2_with (first | ((with_reducible refine st_load 49 _ g4 ?_ r9_b Try.underlying49 ?_ ?_ ?_); exact rfl; exact rfl; exact Try.zBc))
  (with_reducible refine (CM _).mono ?_)
  rintro e w10 ⟨rfl, b10⟩
  have r12_s := le_on r9_s b10
  have r12_b := le_on r9_b b10
  have r12_r := le_on n7 b10
  have l12 := le_tr l9 b10
  clear r9_s r9_b n7 l9
  clear b10
  go_wp2_with (first | ((with_reducible refine st_load 45 _ g1 ?_ r12_s Try.underlying45 ?_ ?_ ?_); exact rfl; exact rfl; exact Try.zSc))
  (with_reducible refine (CK _).mono ?_)
  rintro e w13 ⟨A3, rfl, h3, b13⟩
  have r15_s := le_on r12_s b13
  have r15_b := le_on r12_b b13
  have r15_r := le_on r12_r b13
  have l15 := le_tr l12 b13
  clear r12_s r12_b r12_r l12
  clear b13
  go_wp2_with (first | ((with_reducible refine st_load 49 _ g4 ?_ r15_b Try.underlying49 ?_ ?_ ?_); exact rfl; exact rfl; exact Try.zBc))
  (with_reducible refine (CP _ _ h3).mono ?_)
  rintro e w16 ⟨A4, n4, q4, rfl, h4, b16⟩
  have r18_s := le_on r15_s b16
  have r18_b := le_on r15_b b16
  have r18_r := le_on r15_r b16
  have l18 := le_tr l15 b16
  clear r15_s r15_b r15_r l15
  clear b16
  clear h3
  go_wp2_with fail
  (with_reducible refine (CE _ _ _ _ h4).mono ?_)
  rintro e w19 ⟨rfl, b19⟩
  have r21_s := le_on r18_s b19
  have r21_b := le_on r18_b b19
  have r21_r := le_on r18_r b19
  have l21 := le_tr l18 b19
  clear r18_s r18_b r18_r l18
  clear b19
  clear h4
  go_wp2_with (first | ((with_reducible refine st_cell 9 _ _ g1 4 (.string (Dk.mkS (encG I))) ?_ ?_ r21_s (new := siA ({ s with cg := Dk.mkS (encG I) })) ?_ ?_ ?_ ?_ ?_ ?_); exact rfl; exact rfl; exact (by rw [siA_size]; decide); exact siA_cg _ _; exact one_s; exact rfl; exact rfl))
  refine ⟨fun V22 n22 k22 => ?_⟩
  have m22_b := k22.on r21_b (Ne.symm ne4_s)
  have m22_r := k22.on r21_r (Ne.symm ne7_s)
  have o22 := k22.bel _ _ l21 up1
  clear k22
  clear r21_s r21_b r21_r l21
  go_wp2_with (first | ((with_reducible refine st_load 45 _ g1 ?_ n22 Try.underlying45 ?_ ?_ ?_); exact rfl; exact rfl; exact Try.zSc) | ((with_reducible refine st_store 45 _ _ g7 (siA ({ s with cg := Dk.mkS (encG I) })) ?_ ?_ m22_r ?_ ?_ ?_ ?_); exact rfl; exact rfl; exact Try.zSc; exact rfl; exact siA_one _))
  refine ⟨fun V23 n23 k23 => ?_⟩
  have m23_s := k23.on n22 ne7_s
  have m23_b := k23.on m22_b ne7_b
  have o23 := k23.bel _ _ o22 up7
  clear k23
  clear m22_r n22 m22_b o22
  go_wp2_with fail
  exact bodyPost_ret (v := .tuple #[.agg (siA ({ s with cg := Dk.mkS (encG I) })), .int .i64 0]) (res_two Try.results16 rfl rfl n23 Try.underlying45 rfl Try.zSc) rfl ⟨by rw [H1.out, H2.out] <;> rfl, o23⟩
set_option maxRecDepth 100000 in
set_option maxHeartbeats 4000000 in
theorem speak_c (s : Sd) (mb : Int) (w : World) : Calls Try.prog 19 #[.agg (siA s), .int .u8 mb] w (LPostN w 75 (lSp s mb) (eSp s mb)) := by
  have CK := fun V => kept_c s V
  by_cases h8 : 8 ≤ mb
  · skip
    have H := Lib.hid (sp_2 (s := s) h8)
    have k1 : decide (mb ≥ 8) = true := by simp [h8]
    have k2 : decide (8 ≤ mb) = true := by simp [h8]
    clear h8
    go_enter Try.func19, Try.ntmps19
    go_wp2_with (first | ((with_reducible refine st_box 45 _ (siA s) ?_ ?_); exact rfl))
    refine ⟨fun V1 g1 n1 f1 => ?_⟩
    have up1 : w.heap.size ≤ g1 := Nat.le_of_eq f1.at_
    have bl1 := f1.bel
    clear f1
    have l3 := le_tr (Below.refl _ _) bl1
    clear bl1
    go_wp2_with fail
    exact bodyPost_ret (v := .tuple #[.slice none 0 0, .int .i64 2]) (by simp [results, Try.results19, go_sem]) rfl (LPostN.mk_ H.out (RS.nil _ _ _ _) l3)
  have k1 : decide (mb ≥ 8) = false := by simp; omega
  have k2 : decide (8 ≤ mb) = false := by simp; omega
  by_cases hk : kE s = 0
  rotate_left
  · skip
    obtain ⟨h1, h2⟩ := sp_k h8 hk
    obtain ⟨k, hkk⟩ : ∃ k, kE s = k := ⟨_, rfl⟩
    simp only [hkk] at CK h1
    have H := Lib.hid (And.intro h1 h2)
    have q1 : ((k : Int) != 0) = true := by rw [bne_iff_ne]; omega
    clear h1 h2 hk hkk h8
    go_enter Try.func19, Try.ntmps19
    go_wp2_with (first | ((with_reducible refine st_box 45 _ (siA s) ?_ ?_); exact rfl))
    refine ⟨fun V1 g1 n1 f1 => ?_⟩
    have up1 : w.heap.size ≤ g1 := Nat.le_of_eq f1.at_
    have bl1 := f1.bel
    clear f1
    have l3 := le_tr (Below.refl _ _) bl1
    clear bl1
    go_wp2_with (first | ((with_reducible refine st_load 45 _ g1 ?_ n1 Try.underlying45 ?_ ?_ ?_); exact rfl; exact rfl; exact Try.zSc))
    (with_reducible refine (CK _).mono ?_)
    rintro e w4 ⟨A3, rfl, h3, b4⟩
    have r6_s := le_on n1 b4
    have l6 := le_tr l3 b4
    clear n1 l3
    clear b4
    go_wp2_with fail
    exact bodyPost_ret (v := .tuple #[.slice none 0 0, .int .i64 (k : Int)]) (by simp [results, Try.results19, go_sem]) rfl (LPostN.mk_ H.out (RS.nil _ _ _ _) l6)
  have H := Lib.hid (sp_0 h8 hk)
  obtain ⟨_, _, _, hrb⟩ := k_ok hk
  simp only [hk] at CK
  obtain ⟨L, hL⟩ : ∃ L, kL s = L := ⟨_, rfl⟩
  rw [hL] at hrb
  simp only [hL] at CK H
  obtain ⟨n, hn⟩ : ∃ n, L.length = n := ⟨_, rfl⟩
  have hn50 : n ≤ 50 := by have := hrb.1; omega
  have hlen := Lib.hid hn
  have CK' : ∀ V, Calls Try.prog 39 #[.agg (siA s)] V (fun e w' => ∃ A, e = .returned (.tuple #[.slice A n n, .int .i64 0]) ∧ RS w' 49 dcl 2 A n n L ∧ Below V.heap.size V w') := fun V => by have := CK V; unfold KPost at this; rw [hn] at this; exact this
  clear hk hL hrb hn CK h8
  go_enter Try.func19, Try.ntmps19
  go_wp2_with (first | ((with_reducible refine st_box 45 _ (siA s) ?_ ?_); exact rfl))
  refine ⟨fun V1 g1 n1 f1 => ?_⟩
  have up1 : w.heap.size ≤ g1 := Nat.le_of_eq f1.at_
  have bl1 := f1.bel
  clear f1
  have l3 := le_tr (Below.refl _ _) bl1
  clear bl1
  go_wp2_with (first | ((with_reducible refine st_load 45 _ g1 ?_ n1 Try.underlying45 ?_ ?_ ?_); exact rfl; exact rfl; exact Try.zSc))
  (with_reducible refine (CK' _).mono ?_)
  rintro e w4 ⟨A, rfl, h3, b4⟩
  have r6_s := le_on n1 b4
  have l6 := le_tr l3 b4
  clear n1 l3
  clear b4
  clear CK'
  obtain ⟨GL, h4⟩ := h3
  have hl0 : SO 0 w4 49 dcl 2 A n n L GL := ⟨h4, fun _ _ => Nat.zero_le _⟩
  clear h4
  have nls := SO.noT hl0 r6_s (by decide)
  go_wp2_with (first | ((with_reducible refine st_make (c := ncl) (s := 10) 52 75 _ _ n ?_ ?_ Try.underlying52 Try.infoNc (by omega) (by simp only [maxLen]; omega) ?_); exact rfl; exact rfl))
  refine ⟨fun V7 g7 n7 f7 => ?_⟩
  have no7_s : ∀ b, (some g7) = some b → b ≠ g1 := fun b e => by cases e; exact Ne.symm (f7.ne r6_s)
  have up7 : w.heap.size ≤ g7 := f7.up l6
  have so7 : SO w.heap.size V7 75 ncl 10 (some ⟨g7, 0, none⟩) 0 n [] (some g7) := ⟨n7.seg, fun g e => by cases e; exact up7⟩
  have bl7 := f7.bel
  clear f7 n7
  have r8_l := SO.on hl0 bl7
  have r9_s := le_on r6_s bl7
  have l9 := le_tr l6 bl7
  clear r6_s l6
  clear hl0
  clear bl7
  go_wp2_with fail
  go_loopw [8, 26] (fun sv iv wr => ∃ (k : Nat) (B : Option Addr) (c : Nat) (G : Option Nat), k ≤ n ∧ iv = .int .i64 k ∧ sv = .slice B k c ∧ CB wr g1 45 (siA s) ∧ SO 0 wr 49 dcl 2 A n n L GL ∧ SO w.heap.size wr 75 ncl 10 B k c ((L.take k).map (ntB mb s.l.ep)) G ∧ Below w.heap.size w wr) (fun _ iv _ => n - (intOf iv).toNat)
  case atStart => exact ⟨0, some ⟨g7, 0, none⟩, n, some g7, by omega, rfl, rfl, r9_s, r8_l, so7, l9⟩
  case round =>
    clear r9_s r8_l so7 l9
    obtain ⟨k, B, c, G, hk, rfl, rfl, hs, hl, hm, hw⟩ := hrel
    by_cases hlt : k < n
    have n1 := SO.noT hl hs (by decide)
    have n2 := SO.noT hm hs (by decide)
    · skip
      obtain ⟨g, off, x, hxk, hA, _⟩ := (SO.rr hl).elem hlt
      subst hA
      have HN := Lib.hid (map_next (ntB mb s.l.ep) hxk)
      have l1 : (k : Int) < (n : Int) := by omega
      have hr2 : wr.rangeAt g (off + k * 2) (btA x).toList := RR.elemAt (SO.rr hl) hxk rfl
      clear hxk
      go_wp2_with (first | ((with_reducible refine st_elem 49 _ g (off + k * 2) (btA x) ?_ hr2 Try.underlying49 ?_ ?_ ?_); exact rfl; exact rfl; exact Try.zBc) | ((with_reducible refine st_alloc 49 (btA zB) ?_ ?_); exact zero_bc))
      refine ⟨fun V101 g101 n101 f101 => ?_⟩
      have ne101_s := f101.ne hs
      have no101_l := SO.fresh hl (Nat.le_of_eq f101.at_)
      have no101_m := SO.fresh hm (Nat.le_of_eq f101.at_)
      have up101 : w.heap.size ≤ g101 := f101.up hw
      have bl101 := f101.bel
      clear f101
      have r102_l := SO.on hl bl101
      have r102_m := SO.on hm bl101
      have r103_s := le_on hs bl101
      have l103 := le_tr hw bl101
      clear hs hw
      clear hl hm
      clear bl101
      go_wp2_with (first | ((with_reducible refine st_store 49 _ _ g101 (btA x) ?_ ?_ n101 ?_ ?_ ?_ ?_); exact rfl; exact rfl; exact Try.zBc; exact rfl; exact btA_one _))
      refine ⟨fun V104 n104 k104 => ?_⟩
      have m104_s := k104.on r103_s ne101_s
      have m104_l := SO.wr r102_l k104 no101_l
      have m104_m := SO.wr r102_m k104 no101_m
      have o104 := k104.bel _ _ l103 up101
      clear k104
      clear n101 r103_s r102_l r102_m l103
      clear hr2
      have c105 : V104.cell? ⟨g101, 0, none⟩ = some (.int .i64 (x.tx)) := CB.cell n104 0
      have c106 : V104.cell? ⟨g101, 1, none⟩ = some (.int .i64 (x.vt)) := CB.cell n104 1
      have c107 : V104.cell? ⟨g1, 1, none⟩ = some (.int .i64 (s.l).ep) := CB.cell m104_s 1
      go_wp2_with (first | ((with_reducible refine st_builtk5 75 ?_ ?_ ?_ ?_ ?_  ?_ ?_); exact rfl; exact rfl; exact rfl; exact rfl; exact rfl; exact built_n5 2 mb x.tx s.l.ep x.vt) | ((with_reducible refine st_lit1 52 75 _ (ntA (ntB mb s.l.ep x)) ?_ Try.underlying52 Try.lit_nc rfl (by decide) (by decide) ?_); exact rfl))
      refine ⟨fun V108 g108 n108 f108 => ?_⟩
      clear c105 c106 c107
      have ne108_s := f108.ne m104_s
      have ne108_b := f108.ne n104
      have no108_l := SO.fresh m104_l (Nat.le_of_eq f108.at_)
      have no108_m := SO.fresh m104_m (Nat.le_of_eq f108.at_)
      have up108 : w.heap.size ≤ g108 := f108.up o104
      have bl108 := f108.bel
      clear f108
      have r109_l := SO.on m104_l bl108
      have r109_m := SO.on m104_m bl108
      have r110_s := le_on m104_s bl108
      have r110_b := le_on n104 bl108
      have l110 := le_tr o104 bl108
      clear m104_s n104 o104
      clear m104_l m104_m
      clear bl108
      go_wp2_with (first | ((with_reducible refine st_app (.tmp 30) (.tmp 40) 52 75 Try.underlying52 Try.infoNc rfl (by decide) (A := B) (n := k) (c := c) (G := G) rfl r109_m.seg (As := (some ⟨g108, 0, none⟩)) (m := 1) (k := 1) rfl (Src.box n108 rfl) (all_list (ntA_one _)) (by simp only [maxLen]; omega) (by omega) (k + 1) (by omega) ?_)))
      refine ⟨fun B111 m111 q111 w111 s111 h111 k111 => ?_⟩
      have s111 : Seg w111 75 10 B111 (k + 1) m111 (rc ncl ((L.take k).map (ntB mb s.l.ep) ++ [(ntB mb s.l.ep x)])) q111 := by rw [← rc_snoc]; exact s111
      have hg111 : ∀ g, G = some g → w.heap.size ≤ g := fun g e => r109_m.hi g e
      have so111 : SO w.heap.size w111 75 ncl 10 B111 (k + 1) m111 ((L.take k).map (ntB mb s.l.ep) ++ [(ntB mb s.l.ep x)]) q111 := ⟨s111, k111.ge (l110).size hg111⟩
      have e111_s := CB.same r110_s (h111.block _ (CB.lt r110_s) (fun e => n2 _ e.symm rfl))
      have na111_s := moved_ne k111 (CB.lt r110_s) n2
      have e111_b := CB.same r110_b (h111.block _ (CB.lt r110_b) (fun e => no101_m _ e.symm rfl))
      have na111_b := moved_ne k111 (CB.lt r110_b) no101_m
      have e111_q := CB.same n108 (h111.block _ (CB.lt n108) (fun e => no108_m _ e.symm rfl))
      have na111_q := moved_ne k111 (CB.lt n108) no108_m
      have e111_l := SO.grow r109_l h111 (SO.apT r109_l r109_m (by decide))
      have lw111 := (l110).grown h111 (l110).size hg111
      clear h111 k111 s111 hg111 r109_m r110_s n2 r110_b no101_m n108 no108_m r109_l l110
      go_wp2_with fail
      go_roundw
      case rel => exact ⟨k + 1, B111, m111, q111, by omega, by go_num, rfl, e111_s, e111_l, by rw [HN.out]; exact so111, lw111⟩
      case measure => simp [intOf]; omega
    · skip
      obtain rfl : k = n := by omega
      have gz0 : ¬ ((k : Int) < (k : Int)) := by omega
      have hm2 : SO w.heap.size wr 75 ncl 10 B k c (L.map (ntB mb s.l.ep)) G := by rw [List.take_of_length_le (by rw [hlen.out]; exact Nat.le_refl _)] at hm; exact hm
      clear hm hlt
      go_wp2_with fail
      exact bodyPost_ret (v := .tuple #[.slice B k c, .int .i64 0]) (by simp [results, Try.results19, go_sem]) rfl (LPostN.mk_ H.out (SO.rs hm2) hw)
end Go.Proofs.Ytfdboahcaiolgaa
