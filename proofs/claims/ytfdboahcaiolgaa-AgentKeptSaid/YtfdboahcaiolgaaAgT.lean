/-
  alive of the laws. No condition.
-/
import Derived.Test.YtfdboahcaiolgaaAgP
import Derived.Test.YtfdboahcaiolgaaAgR
set_option linter.unusedVariables false
set_option linter.unusedSimpArgs false
namespace Go.Proofs.Ytfdboahcaiolgaa
open Go.RowKit
open Dk (Nt InN RightN BoundN MsgN NoMsg KindN EpN bound_n)


theorem sh_ok {s : Sd} {L : List Bl} (h : HasB s L) {b : Bl} (hb : MayB b) (hp : ePu L b = 0) : eSh s b = 0 ∧ sSh s b = { s with cg := Dk.mkS (encG (insB L b)) } ∧ HasB (sSh s b) (insB L b) := by
  have e : eSh s b = 0 := by rw [sh_has h b hb, hp]
  refine ⟨e, ?_, ?_⟩
  · unfold sSh
    rw [if_pos e, h.d]
  · have := (sh_state h hb).1
    rwa [if_pos hp] at this
theorem sh_err {s : Sd} {b : Bl} (h : ¬ eSh s b = 0) : sSh s b = s := by unfold sSh; rw [if_neg h]
def sA0 : Sd := ⟨0, ⟨4, 1, 0⟩, ByteArray.empty, false⟩
def sA1 : Sd := ⟨0, ⟨4, 1, 0⟩, Dk.mkS (encG [⟨9, 2⟩]), false⟩
def sA2 : Sd := ⟨0, ⟨4, 1, 0⟩, ⟨#[0, 7, 1, 0, 9, 2]⟩, false⟩
def lA2 : List Bl := [⟨7, 1⟩, ⟨9, 2⟩]
def nA2 : Nt := ntB 3 4 ⟨7, 1⟩
theorem hasA0 : HasB sA0 [] := ⟨by decide, rfl, dG_nil⟩
theorem a1_ : (eSh sA0 ⟨9, 2⟩ = 0 ∧ sSh sA0 ⟨9, 2⟩ = sA1) ∧ HasB sA1 [⟨9, 2⟩] := by
  obtain ⟨h1, h2, h3⟩ := sh_ok (b := ⟨9, 2⟩) hasA0 (by decide) rfl
  have e : sSh sA0 ⟨9, 2⟩ = sA1 := h2
  rw [e] at h3
  exact ⟨⟨h1, e⟩, h3⟩
theorem a2_ : (eSh sA1 ⟨7, 1⟩ = 0 ∧ sSh sA1 ⟨7, 1⟩ = sA2) ∧ HasB sA2 lA2 := by
  obtain ⟨h1, h2, h3⟩ := sh_ok (b := ⟨7, 1⟩) a1_.2 (by decide) (by decide)
  have e0 : Dk.mkS (encG (insB [⟨9, 2⟩] ⟨7, 1⟩)) = ⟨#[0, 7, 1, 0, 9, 2]⟩ := by decide
  have e1 : insB [⟨9, 2⟩] ⟨7, 1⟩ = lA2 := rfl
  have e : sSh sA1 ⟨7, 1⟩ = sA2 := by rw [h2, e0]; rfl
  rw [e, e1] at h3
  exact ⟨⟨h1, e⟩, h3⟩
theorem a3_ : eSh sA2 ⟨7, 2⟩ = 8 ∧ sSh sA2 ⟨7, 2⟩ = sA2 := by
  have e : eSh sA2 ⟨7, 2⟩ = 8 := by rw [sh_has a2_.2 _ (by decide)]; decide
  exact ⟨e, sh_err (by omega)⟩
theorem a4_ : eSp sA2 3 = 0 ∧ lSp sA2 3 = lA2.map (ntB 3 4) := sp_has a2_.2 (by decide)
set_option maxRecDepth 100000 in
set_option maxHeartbeats 4000000 in
theorem alive_c (w : World) : Calls Try.prog 9 #[] w fun r w' => r = .returned (.bool true) ∧ Below w.heap.size w w' := by
  have C1 : ∀ V : World, Calls Try.prog 16 #[.agg (siA sA0), .agg (btA ⟨9, 2⟩)] V (fun e w' => e = .returned (.tuple #[.agg (siA sA1), .int .i64 0]) ∧ Below V.heap.size V w') := fun V => by have h := ship_c sA0 ⟨9, 2⟩ V; rw [a1_.1.1, a1_.1.2] at h; exact h
  have C2 : ∀ V : World, Calls Try.prog 16 #[.agg (siA sA1), .agg (btA ⟨7, 1⟩)] V (fun e w' => e = .returned (.tuple #[.agg (siA sA2), .int .i64 0]) ∧ Below V.heap.size V w') := fun V => by have h := ship_c sA1 ⟨7, 1⟩ V; rw [a2_.1.1, a2_.1.2] at h; exact h
  have C3 : ∀ V : World, Calls Try.prog 16 #[.agg (siA sA2), .agg (btA ⟨7, 2⟩)] V (fun e w' => e = .returned (.tuple #[.agg (siA sA2), .int .i64 8]) ∧ Below V.heap.size V w') := fun V => by have h := ship_c sA2 ⟨7, 2⟩ V; rw [a3_.1, a3_.2] at h; exact h
  have C4 : ∀ V : World, Calls Try.prog 19 #[.agg (siA sA2), .int .u8 3] V (LPostN V 75 (lA2.map (ntB 3 4)) 0) := fun V => by have h := speak_c sA2 3 V; rw [a4_.1, a4_.2] at h; exact h
  have E : ∀ V : World, (Op.equalIn 10000 75 (.agg (ntA nA2)) (.agg (ntA ⟨2, 3, 7, 4, 1, 0, 0, 0, 0, ByteArray.empty⟩))).run Try.prog V = .ok true V := fun V => by have := eq_nc nA2 nA2 V; rw [eqN_refl] at this; exact this
  go_enter Try.func9, Try.ntmps9
  go_wp2_with (first | ((with_reducible refine st_builtk2 43 (v0 := .int .i64 4) (v1 := .int .i64 1) ?_ ?_ (built_l2 4 1) ?_); exact rfl; exact rfl) | ((with_reducible refine st_builtk1 45 (v0 := .agg (lsA ⟨4, 1, 0⟩)) ?_ (built_s1 ⟨4, 1, 0⟩) ?_); exact rfl) | ((with_reducible refine st_alloc 45 (siA zS) ?_ ?_); exact zero_sc))
  refine ⟨fun V1 g1 n1 f1 => ?_⟩
  have up1 : w.heap.size ≤ g1 := Nat.le_of_eq f1.at_
  have bl1 := f1.bel
  clear f1
  have l3 := le_tr (Below.refl _ _) bl1
  clear bl1
  go_wp2_with (first | ((with_reducible refine st_store 45 _ _ g1 (siA sA0) ?_ ?_ n1 ?_ ?_ ?_ ?_); exact rfl; exact rfl; exact Try.zSc; exact rfl; exact siA_one _))
  refine ⟨fun V4 n4 k4 => ?_⟩
  have o4 := k4.bel _ _ l3 up1
  clear k4
  clear n1 l3
  go_wp2_with (first | (first | ((with_reducible refine st_load 45 _ g1 ?_ n4 Try.underlying45 ?_ ?_ ?_); exact rfl; exact rfl; exact Try.zSc) | ((with_reducible refine st_loadG 45 _ g1 ?_ n4 Try.underlying45 ?_ ?_ ?_ ?_); exact rfl; exact rfl; exact Try.zSc; exact rfl)) | ((with_reducible refine st_builtk2 49 (v0 := .int .i64 9) (v1 := .int .i64 2) ?_ ?_ (built_b2 9 2) ?_); exact rfl; exact rfl))
  (with_reducible refine (C1 _).mono ?_)
  rintro e w5 ⟨rfl, b5⟩
  have r7_s := le_on n4 b5
  have l7 := le_tr o4 b5
  clear n4 o4
  clear b5
  go_wp2_with (first | ((with_reducible refine st_store 45 _ _ g1 (siA sA1) ?_ ?_ r7_s ?_ ?_ ?_ ?_); exact rfl; exact rfl; exact Try.zSc; exact rfl; exact siA_one _))
  refine ⟨fun V8 n8 k8 => ?_⟩
  have o8 := k8.bel _ _ l7 up1
  clear k8
  clear r7_s l7
  go_wp2_with (first | (first | ((with_reducible refine st_load 45 _ g1 ?_ n8 Try.underlying45 ?_ ?_ ?_); exact rfl; exact rfl; exact Try.zSc) | ((with_reducible refine st_loadG 45 _ g1 ?_ n8 Try.underlying45 ?_ ?_ ?_ ?_); exact rfl; exact rfl; exact Try.zSc; exact rfl)) | ((with_reducible refine st_builtk2 49 (v0 := .int .i64 7) (v1 := .int .i64 1) ?_ ?_ (built_b2 7 1) ?_); exact rfl; exact rfl))
  (with_reducible refine (C2 _).mono ?_)
  rintro e w9 ⟨rfl, b9⟩
  have r11_s := le_on n8 b9
  have l11 := le_tr o8 b9
  clear n8 o8
  clear b9
  go_wp2_with (first | ((with_reducible refine st_store 45 _ _ g1 (siA sA2) ?_ ?_ r11_s ?_ ?_ ?_ ?_); exact rfl; exact rfl; exact Try.zSc; exact rfl; exact siA_one _))
  refine ⟨fun V12 n12 k12 => ?_⟩
  have o12 := k12.bel _ _ l11 up1
  clear k12
  clear r11_s l11
  go_wp2_with (first | (first | ((with_reducible refine st_load 45 _ g1 ?_ n12 Try.underlying45 ?_ ?_ ?_); exact rfl; exact rfl; exact Try.zSc) | ((with_reducible refine st_loadG 45 _ g1 ?_ n12 Try.underlying45 ?_ ?_ ?_ ?_); exact rfl; exact rfl; exact Try.zSc; exact rfl)) | ((with_reducible refine st_builtk2 49 (v0 := .int .i64 7) (v1 := .int .i64 2) ?_ ?_ (built_b2 7 2) ?_); exact rfl; exact rfl))
  (with_reducible refine (C3 _).mono ?_)
  rintro e w13 ⟨rfl, b13⟩
  have r15_s := le_on n12 b13
  have l15 := le_tr o12 b13
  clear n12 o12
  clear b13
  go_wp2_with (first | ((with_reducible refine st_alloc 45 (siA zS) ?_ ?_); exact zero_sc))
  refine ⟨fun V16 g16 n16 f16 => ?_⟩
  have ne16_s := f16.ne r15_s
  have up16 : w.heap.size ≤ g16 := f16.up l15
  have bl16 := f16.bel
  clear f16
  have r18_s := le_on r15_s bl16
  have l18 := le_tr l15 bl16
  clear r15_s l15
  clear bl16
  go_wp2_with (first | ((with_reducible refine st_store 45 _ _ g16 (siA sA2) ?_ ?_ n16 ?_ ?_ ?_ ?_); exact rfl; exact rfl; exact Try.zSc; exact rfl; exact siA_one _))
  refine ⟨fun V19 n19 k19 => ?_⟩
  have m19_s := k19.on r18_s ne16_s
  have o19 := k19.bel _ _ l18 up16
  clear k19
  clear n16 r18_s l18
  go_wp2_with (first | (first | ((with_reducible refine st_load 45 _ g1 ?_ m19_s Try.underlying45 ?_ ?_ ?_); exact rfl; exact rfl; exact Try.zSc) | ((with_reducible refine st_loadG 45 _ g1 ?_ m19_s Try.underlying45 ?_ ?_ ?_ ?_); exact rfl; exact rfl; exact Try.zSc; exact rfl)))
  (with_reducible refine (C4 _).mono ?_)
  rintro e w20 ⟨A, n, q, rfl, h4, b20⟩
  have r22_s := le_on m19_s b20
  have r22_x := le_on n19 b20
  have l22 := le_tr o19 b20
  clear m19_s n19 o19
  clear b20
  obtain rfl : n = 2 := by rw [← h4.len]; rfl
  obtain ⟨g, off, x, hx, hA, hr⟩ := h4.rr.elem (k := 0) (by omega)
  subst hA
  obtain rfl : nA2 = x := by cases hx; rfl
  have hr2 : w20.rangeAt g off (ntA nA2).toList := by rw [Nat.zero_mul, Nat.add_zero] at hr; exact hr
  clear h4 hx hr
  have c23 : w20.cell? ⟨g1, 4, none⟩ = some (.string ⟨#[0, 7, 1, 0, 9, 2]⟩) := CB.cell r22_s 4
  go_wp2_with (first | ((with_reducible refine st_elemG 75 _ g off (ntA nA2) ?_ hr2 Try.underlying75 ?_ ?_ ?_ ?_); exact rfl; exact rfl; exact Try.zNc; exact rfl) | ((with_reducible refine st_builtk5G 75 (v0 := .int .i64 2) (v1 := .int .u8 3) (v2 := .int .i64 7) (v3 := .int .i64 4) (v4 := .int .i64 1) ?_ ?_ ?_ ?_ ?_ (built_n5 2 3 7 4 1) ?_ ?_); exact rfl; exact rfl; exact rfl; exact rfl; exact rfl; exact rfl))
  go_ret
  exact ⟨rfl, l22⟩
end Go.Proofs.Ytfdboahcaiolgaa
