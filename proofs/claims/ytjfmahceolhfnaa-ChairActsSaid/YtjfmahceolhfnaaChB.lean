/-
  The deal's functions of package chair: isOpen, tick's function, voted, extended. Condition of tick's function: its captured number lies in its box.
-/
import Derived.Test.YtjfmahceolhfnaaChA
set_option linter.unusedVariables false
set_option linter.unusedSimpArgs false
namespace Go.Proofs.Ytjfmahceolhfnaa
open Go.RowKit

theorem over_m (t : Te.Tm) (x : Int) (w : World) : Calls Try.prog 21 #[.agg (mA t), .int .i64 x] w fun r w' => r = .returned (.bool (Te.overT t x)) ∧ Below w.heap.size w w' := Te.over_c t.dl t.sp t.us t.cp x w
theorem extend_m (t : Te.Tm) (x : Int) (w : World) : Calls Try.prog 59 #[.agg (mA t), .int .i64 x] w fun r w' => r = .returned (.tuple #[.agg (mA (Te.sExt t x)), .int .i64 ((Te.eExt t x : Nat) : Int)]) ∧ Below w.heap.size w w' := Te.extend_c t.dl t.sp t.us t.cp x w
theorem new_m (x s m : Int) (w : World) : Calls Try.prog 55 #[.int .i64 x, .int .i64 s, .int .i64 m] w fun r w' => r = .returned (.tuple #[.agg (mA (Te.sNew x s m)), .int .i64 ((Te.eNew x s m : Nat) : Int)]) ∧ Below w.heap.size w w' := Te.new_c x s m w
theorem last_m (t : Te.Tm) (w : World) : Calls Try.prog 22 #[.agg (mA t)] w fun r w' => r = .returned (.int .i64 (Te.lastR t)) ∧ Below w.heap.size w w' := Te.last_c t.dl t.sp t.us t.cp w
/-- What voted and extended hand back. -/
def eVo (d : Dl) (r : Rd) : Nat := if Te.overT d.tm r.now = true then 11 else ePut d.ty r.who r.ep r.vote
def xVo (d : Dl) (r : Rd) : Dl := if Te.overT d.tm r.now = true then d else dVot d r
def eEx (d : Dl) (r : Rd) : Nat := if ¬ eHear d.ty r.who r.ep = 0 then eHear d.ty r.who r.ep else Te.eExt d.tm r.now
def xEx (d : Dl) (r : Rd) : Dl := if ¬ eHear d.ty r.who r.ep = 0 then d else dExD d r
set_option maxRecDepth 100000 in
set_option maxHeartbeats 4000000 in
theorem isopen_c (d : Dl) (w : World) : Calls Try.prog 28 #[.agg (dA d)] w fun zz w' => zz = .returned (.bool (d.out == 0)) ∧ Below w.heap.size w w' := by
  go_enter Try.func28, Try.ntmps28
  go_wp2_with (first | ((with_reducible refine st_box 44 _ (dA d) ?_ ?_); exact rfl))
  refine ⟨fun V1 g1 n1 f1 => ?_⟩
  have up1 : w.heap.size ≤ g1 := Nat.le_of_eq f1.at_
  have bl1 := f1.bel
  clear f1
  have l2 := le_tr (Below.refl _ _) bl1
  clear bl1
  have c3 : V1.cell? ⟨g1, 28, none⟩ = some (.int .i64 d.out) := CB.cell n1 28
  go_wp2_with fail
  go_ret
  exact ⟨rfl, l2⟩
set_option maxRecDepth 100000 in
set_option maxHeartbeats 4000000 in
theorem over_f (d : Dl) (p : Nat) (x : Int) (w : World) (h : CB w p 2 (nA x)) : Calls Try.prog 39 #[.agg (dA d), .pointer (some ⟨p, 0, none⟩)] w fun zz w' => zz = .returned (.bool (isOO d x)) ∧ Below w.heap.size w w' := by
  have I1 := fun W => isopen_c d W
  cases h0 : (d.out == 0) with
  | false =>
    have H := Lib.hid (show isOO d x = false by unfold isOO; rw [h0]; rfl)
    rw [h0] at I1
    clear h0
    go_enter Try.func39, Try.ntmps39
    go_wp2_with (first | ((with_reducible refine st_box 44 _ (dA d) ?_ ?_); exact rfl))
    refine ⟨fun V1 g1 n1 f1 => ?_⟩
    have ne1_n := f1.ne h
    have up1 : w.heap.size ≤ g1 := Nat.le_of_eq f1.at_
    have bl1 := f1.bel
    clear f1
    have r2_n := le_on h bl1
    have l2 := le_tr (Below.refl _ _) bl1
    clear h
    clear bl1
    have c3 : V1.cell? ⟨p, 0, none⟩ = some (.int .i64 x) := CB.cell r2_n 0
    go_wp2_with (first | (first | ((with_reducible refine st_load 44 _ g1 ?_ n1 Try.underlying44 ?_ ?_ ?_); exact rfl; exact rfl; exact Try.zDl) | ((with_reducible refine st_loadG 44 _ g1 ?_ n1 Try.underlying44 ?_ ?_ ?_ ?_); exact rfl; exact rfl; exact Try.zDl; exact rfl)))
    refine (I1 _).mono ?_
    rintro e w4 ⟨rfl, b4⟩
    clear c3
    have r5_n := le_on r2_n b4
    have r5_d := le_on n1 b4
    have l5 := le_tr l2 b4
    clear r2_n n1 l2
    clear b4
    go_wp2_with fail
    go_ret
    exact ⟨by rw [H.out]; rfl, l5⟩
  | true =>
    have H := Lib.hid (show isOO d x = Te.overT d.tm x by unfold isOO; rw [h0]; rfl)
    rw [h0] at I1
    clear h0
    have O1 := fun W => over_m d.tm x W
    go_enter Try.func39, Try.ntmps39
    go_wp2_with (first | ((with_reducible refine st_box 44 _ (dA d) ?_ ?_); exact rfl))
    refine ⟨fun V1 g1 n1 f1 => ?_⟩
    have ne1_n := f1.ne h
    have up1 : w.heap.size ≤ g1 := Nat.le_of_eq f1.at_
    have bl1 := f1.bel
    clear f1
    have r2_n := le_on h bl1
    have l2 := le_tr (Below.refl _ _) bl1
    clear h
    clear bl1
    have c3 : V1.cell? ⟨p, 0, none⟩ = some (.int .i64 x) := CB.cell r2_n 0
    go_wp2_with (first | (first | ((with_reducible refine st_load 44 _ g1 ?_ n1 Try.underlying44 ?_ ?_ ?_); exact rfl; exact rfl; exact Try.zDl) | ((with_reducible refine st_loadG 44 _ g1 ?_ n1 Try.underlying44 ?_ ?_ ?_ ?_); exact rfl; exact rfl; exact Try.zDl; exact rfl)))
    refine (I1 _).mono ?_
    rintro e w4 ⟨rfl, b4⟩
    clear c3
    have r5_n := le_on r2_n b4
    have r5_d := le_on n1 b4
    have l5 := le_tr l2 b4
    clear r2_n n1 l2
    clear b4
    have c6 : w4.cell? ⟨p, 0, none⟩ = some (.int .i64 x) := CB.cell r5_n 0
    go_wp2_with (first | (first | ((with_reducible refine st_part 42 _ g1 24 ?_ (pt := mA d.tm) r5_d ?_ Try.underlying42 ?_ ?_ ?_); exact rfl; exact dA_ptm _; exact rfl; exact Try.zTm) | ((with_reducible refine st_partG 42 _ g1 24 ?_ (pt := mA d.tm) r5_d ?_ Try.underlying42 ?_ ?_ ?_ ?_); exact rfl; exact dA_ptm _; exact rfl; exact Try.zTm; exact rfl)))
    refine (O1 _).mono ?_
    rintro e w7 ⟨rfl, b7⟩
    clear c6
    have r8_n := le_on r5_n b7
    have r8_d := le_on r5_d b7
    have l8 := le_tr l5 b7
    clear r5_n r5_d l5
    clear b7
    go_wp2_with fail
    go_ret
    exact ⟨by rw [H.out]; rfl, l8⟩
set_option maxRecDepth 100000 in
set_option maxHeartbeats 4000000 in
theorem voted_c (d : Dl) (r : Rd) (w : World) : Calls Try.prog 41 #[.agg (dA d), .agg (rA r)] w fun zz w' => zz = .returned (.tuple #[.agg (dA (xVo d r)), .int .i64 ((eVo d r : Nat) : Int)]) ∧ Below w.heap.size w w' := by
  have O1 := fun W => over_m d.tm r.now W
  cases ho : Te.overT d.tm r.now with
  | true =>
    have HE := Lib.hid (show eVo d r = 11 by unfold eVo; rw [if_pos ho])
    have HS := Lib.hid (show xVo d r = d by unfold xVo; rw [if_pos ho])
    rw [ho] at O1
    clear ho
    go_enter Try.func41, Try.ntmps41
    go_wp2_with (first | ((with_reducible refine st_box 44 _ (dA d) ?_ ?_); exact rfl))
    refine ⟨fun V1 g1 n1 f1 => ?_⟩
    have up1 : w.heap.size ≤ g1 := Nat.le_of_eq f1.at_
    have bl1 := f1.bel
    clear f1
    have l2 := le_tr (Below.refl _ _) bl1
    clear bl1
    go_wp2_with (first | ((with_reducible refine st_box 33 _ (rA r) ?_ ?_); exact rfl))
    refine ⟨fun V3 g3 n3 f3 => ?_⟩
    have ne3_d := f3.ne n1
    have up3 : w.heap.size ≤ g3 := f3.up l2
    have bl3 := f3.bel
    clear f3
    have r4_d := le_on n1 bl3
    have l4 := le_tr l2 bl3
    clear n1 l2
    clear bl3
    go_wp2_with (first | ((with_reducible refine st_alloc 44 (dA zeroD) ?_ ?_); exact zero_dl))
    refine ⟨fun V5 g5 n5 f5 => ?_⟩
    have ne5_d := f5.ne r4_d
    have ne5_r := f5.ne n3
    have up5 : w.heap.size ≤ g5 := f5.up l4
    have bl5 := f5.bel
    clear f5
    have r6_d := le_on r4_d bl5
    have r6_r := le_on n3 bl5
    have l6 := le_tr l4 bl5
    clear r4_d n3 l4
    clear bl5
    have c7 : V5.cell? ⟨g3, 5, none⟩ = some (.int .i64 r.now) := CB.cell r6_r 5
    go_wp2_with (first | ((with_reducible refine st_part 42 _ g1 24 ?_ (pt := mA d.tm) r6_d ?_ Try.underlying42 ?_ ?_ ?_); exact rfl; exact dA_ptm _; exact rfl; exact Try.zTm))
    refine (O1 _).mono ?_
    rintro e w8 ⟨rfl, b8⟩
    clear c7
    have r9_d := le_on r6_d b8
    have r9_r := le_on r6_r b8
    have r9_z := le_on n5 b8
    have l9 := le_tr l6 b8
    clear r6_d r6_r n5 l6
    clear b8
    go_wp2_with (first | ((with_reducible refine st_load 44 _ g1 ?_ r9_d Try.underlying44 ?_ ?_ ?_); exact rfl; exact rfl; exact Try.zDl) | ((with_reducible refine st_store 44 _ _ g5 (dA d) ?_ ?_ r9_z ?_ ?_ ?_ ?_); exact rfl; exact rfl; exact Try.zDl; exact rfl; exact dA_one _))
    refine ⟨fun V10 n10 k10 => ?_⟩
    have m10_d := k10.on r9_d ne5_d
    have m10_r := k10.on r9_r ne5_r
    have o10 := k10.bel _ _ l9 up5
    clear k10
    clear r9_z r9_d r9_r l9
    go_wp2_with fail
    exact bodyPost_ret (v := .tuple #[.agg (dA d), .int .i64 11]) (res_two Try.results41 rfl rfl n10 Try.underlying44 rfl Try.zDl) rfl ⟨(by rw [HE.out, HS.out] <;> rfl), o10⟩
  | false =>
    have HE := Lib.hid (show eVo d r = ePut d.ty r.who r.ep r.vote by unfold eVo; rw [if_neg (by simp [ho])])
    have HS := Lib.hid (show xVo d r = ⟨sPut d.ty r.who r.ep r.vote, d.tm, outY (sPut d.ty r.who r.ep r.vote)⟩ by unfold xVo dVot; rw [if_neg (by simp [ho])])
    rw [ho] at O1
    clear ho
    have P1 := fun W => put_c d.ty r.who r.ep r.vote W
    obtain ⟨U, hU⟩ : ∃ U, sPut d.ty r.who r.ep r.vote = U := ⟨_, rfl⟩
    obtain ⟨E, hE⟩ : ∃ E, ePut d.ty r.who r.ep r.vote = E := ⟨_, rfl⟩
    rw [hU, hE] at P1
    rw [hE] at HE
    rw [hU] at HS
    clear hU hE
    have U1 := fun W => out_c U W
    go_enter Try.func41, Try.ntmps41
    go_wp2_with (first | ((with_reducible refine st_box 44 _ (dA d) ?_ ?_); exact rfl))
    refine ⟨fun V1 g1 n1 f1 => ?_⟩
    have up1 : w.heap.size ≤ g1 := Nat.le_of_eq f1.at_
    have bl1 := f1.bel
    clear f1
    have l2 := le_tr (Below.refl _ _) bl1
    clear bl1
    go_wp2_with (first | ((with_reducible refine st_box 33 _ (rA r) ?_ ?_); exact rfl))
    refine ⟨fun V3 g3 n3 f3 => ?_⟩
    have ne3_d := f3.ne n1
    have up3 : w.heap.size ≤ g3 := f3.up l2
    have bl3 := f3.bel
    clear f3
    have r4_d := le_on n1 bl3
    have l4 := le_tr l2 bl3
    clear n1 l2
    clear bl3
    go_wp2_with (first | ((with_reducible refine st_alloc 44 (dA zeroD) ?_ ?_); exact zero_dl))
    refine ⟨fun V5 g5 n5 f5 => ?_⟩
    have ne5_d := f5.ne r4_d
    have ne5_r := f5.ne n3
    have up5 : w.heap.size ≤ g5 := f5.up l4
    have bl5 := f5.bel
    clear f5
    have r6_d := le_on r4_d bl5
    have r6_r := le_on n3 bl5
    have l6 := le_tr l4 bl5
    clear r4_d n3 l4
    clear bl5
    have c7 : V5.cell? ⟨g3, 5, none⟩ = some (.int .i64 r.now) := CB.cell r6_r 5
    go_wp2_with (first | ((with_reducible refine st_part 42 _ g1 24 ?_ (pt := mA d.tm) r6_d ?_ Try.underlying42 ?_ ?_ ?_); exact rfl; exact dA_ptm _; exact rfl; exact Try.zTm))
    refine (O1 _).mono ?_
    rintro e w8 ⟨rfl, b8⟩
    clear c7
    have r9_d := le_on r6_d b8
    have r9_r := le_on r6_r b8
    have r9_z := le_on n5 b8
    have l9 := le_tr l6 b8
    clear r6_d r6_r n5 l6
    clear b8
    have c10 : w8.cell? ⟨g3, 2, none⟩ = some (.int .u8 (r.who : Int)) := CB.cell r9_r 2
    have c11 : w8.cell? ⟨g3, 3, none⟩ = some (.int .i64 r.ep) := CB.cell r9_r 3
    have c12 : w8.cell? ⟨g3, 4, none⟩ = some (.int .i64 r.vote) := CB.cell r9_r 4
    go_wp2_with (first | ((with_reducible refine st_part 40 _ g1 0 ?_ (pt := tA d.ty) r9_d ?_ Try.underlying40 ?_ ?_ ?_); exact rfl; exact dA_pty _; exact rfl; exact Try.zTc))
    refine (P1 _).mono ?_
    rintro e w13 ⟨rfl, b13⟩
    clear c10 c11 c12
    have r14_d := le_on r9_d b13
    have r14_r := le_on r9_r b13
    have r14_z := le_on r9_z b13
    have l14 := le_tr l9 b13
    clear r9_d r9_r r9_z l9
    clear b13
    go_wp2_with (first | ((with_reducible refine st_alloc 40 (tA zeroY) ?_ ?_); exact zero_c))
    refine ⟨fun V15 g15 n15 f15 => ?_⟩
    have ne15_d := f15.ne r14_d
    have ne15_r := f15.ne r14_r
    have ne15_z := f15.ne r14_z
    have up15 : w.heap.size ≤ g15 := f15.up l14
    have bl15 := f15.bel
    clear f15
    have r16_d := le_on r14_d bl15
    have r16_r := le_on r14_r bl15
    have r16_z := le_on r14_z bl15
    have l16 := le_tr l14 bl15
    clear r14_d r14_r r14_z l14
    clear bl15
    go_wp2_with (first | ((with_reducible refine st_store 40 _ _ g15 (tA U) ?_ ?_ n15 ?_ ?_ ?_ ?_); exact rfl; exact rfl; exact Try.zTc; exact rfl; exact tA_one _))
    refine ⟨fun V17 n17 k17 => ?_⟩
    have m17_d := k17.on r16_d ne15_d
    have m17_r := k17.on r16_r ne15_r
    have m17_z := k17.on r16_z ne15_z
    have o17 := k17.bel _ _ l16 up15
    clear k17
    clear n15 r16_d r16_r r16_z l16
    go_wp2_with fail
    have y18 := Lib.hid (show (fun V : World => CB V g15 40 (tA U)) V17 from n17)
    refine wp_region_held_drew (S := (fun V : World => CB V g15 40 (tA U))) (by kernel_rfl) y18.out (fun hHeld => ?_)
    obtain ⟨D18, hD18⟩ : ∃ V, V17.drew = V := ⟨_, rfl⟩
    have b18 : Below V17.heap.size V17 D18 := by rw [← hD18]; exact le_dr (Below.refl _ _)
    rw [hD18] at hHeld ⊢
    clear hD18
    have r19_d := le_on m17_d b18
    have r19_r := le_on m17_r b18
    have r19_z := le_on m17_z b18
    have r19_v := le_on n17 b18
    have l19 := le_tr o17 b18
    clear m17_d m17_r m17_z n17 o17
    clear b18
    refine wpAnyH_takeL (i := 0) (d := some 26) (v := .agg (tA U)) rfl rfl (by kernel_rfl) (by kernel_rfl) (by kernel_rfl) (fun _ _ _ h => h) (Or.inl ⟨by rfl, ?_⟩) hHeld ?_
    · intro w hSw; exact yl_whole 40 _ g15 rfl hSw Try.underlying40 rfl Try.zTc
    try simp only [Act.put, List.setIfInBounds_toArray, List.set_cons_zero, List.set_cons_succ]
    refine wpAnyH_takeL (i := 1) (d := some 27) (v := .agg (tA U)) rfl rfl (by kernel_rfl) (by kernel_rfl) (by kernel_rfl) (fun _ _ _ h => h) (Or.inl ⟨by rfl, ?_⟩) hHeld ?_
    · intro w hSw; exact yl_whole 40 _ g15 rfl hSw Try.underlying40 rfl Try.zTc
    try simp only [Act.put, List.setIfInBounds_toArray, List.set_cons_zero, List.set_cons_succ]
    refine wpAnyH_takeL (i := 3) (d := some 29) (v := .pointer (some ⟨g1, 0, none⟩)) rfl rfl (by kernel_rfl) (by kernel_rfl) (by kernel_rfl) (fun _ _ _ h => h) (Or.inl ⟨by rfl, ?_⟩) hHeld ?_
    · intro w hSw; (try dsimp only at hSw); go_simp
    try simp only [Act.put, List.setIfInBounds_toArray, List.set_cons_zero, List.set_cons_succ]
    refine wpAnyH_ready (rs := [2]) (by kernel_rfl) (by simp) ?_
    refine AllReadyH.cons rfl (fun K hK => ?_) AllReadyH.nil
    go_simp
    (with_reducible refine (U1 _).mono ?_)
    rintro e u20 ⟨rfl, b20⟩
    have r21_d := le_on r19_d b20
    have r21_r := le_on r19_r b20
    have r21_z := le_on r19_z b20
    have r21_v := le_on r19_v b20
    have l21 := le_tr l19 b20
    clear r19_d r19_r r19_z r19_v l19
    clear b20
    go_wp2_with fail
    have y22 := Lib.hid (show (fun V : World => CB V g15 40 (tA U)) u20 from r21_v)
    refine hK.out _ _ y22.out (fun hHeld => ?_)
    clear hK K y22
    try simp only [Act.put, List.setIfInBounds_toArray, List.set_cons_zero, List.set_cons_succ]
    refine wpAnyH_ready (rs := [4]) (by kernel_rfl) (by simp) ?_
    refine AllReadyH.cons rfl (fun K hK => ?_) AllReadyH.nil
    refine rd_mid rfl 40 _ _ rfl none rfl g1 0 (tA U) rfl rfl r21_d (by decide : 0 + 24 ≤ 29) (new := dA (Dl.mk U d.tm d.out)) (dA_ty _ _) Try.zTc (tA_one _) ?_
    refine ⟨fun V23 n23 k23 => ?_⟩
    have m23_r := k23.on r21_r (Ne.symm ne3_d)
    have m23_z := k23.on r21_z (Ne.symm ne5_d)
    have m23_v := k23.on r21_v (Ne.symm ne15_d)
    have o23 := k23.bel _ _ l21 up1
    clear k23
    clear r21_d r21_r r21_z r21_v l21
    have y24 := Lib.hid (show (fun V : World => CB V g15 40 (tA U)) V23 from m23_v)
    refine hK.out _ _ y24.out (fun hHeld => ?_)
    clear hK K y24
    try simp only [Act.put, List.setIfInBounds_toArray, List.set_cons_zero, List.set_cons_succ]
    refine wpAnyH_takeL (i := 5) (d := some 30) (v := .pointer (some ⟨g1, 28, none⟩)) rfl rfl (by kernel_rfl) (by kernel_rfl) (by kernel_rfl) (fun _ _ _ h => h) (Or.inl ⟨by rfl, ?_⟩) hHeld ?_
    · intro w hSw; (try dsimp only at hSw); go_simp
    try simp only [Act.put, List.setIfInBounds_toArray, List.set_cons_zero, List.set_cons_succ]
    refine wpAnyH_ready (rs := [6]) (by kernel_rfl) (by simp) ?_
    refine AllReadyH.cons rfl (fun K hK => ?_) AllReadyH.nil
    refine rd_cell rfl 3 _ _ rfl none rfl g1 28 (.int .i64 (outY U)) rfl rfl n23 (by rw [dA_size]; decide) (new := dA (Dl.mk U d.tm (outY U))) (dA_out _ _) one_i rfl rfl ?_
    refine ⟨fun V25 n25 k25 => ?_⟩
    have m25_r := k25.on m23_r (Ne.symm ne3_d)
    have m25_z := k25.on m23_z (Ne.symm ne5_d)
    have m25_v := k25.on m23_v (Ne.symm ne15_d)
    have o25 := k25.bel _ _ o23 up1
    clear k25
    clear n23 m23_r m23_z m23_v o23
    have y26 := Lib.hid (show (fun V : World => CB V g15 40 (tA U)) V25 from m25_v)
    refine hK.out _ _ y26.out (fun hHeld => ?_)
    clear hK K y26
    try simp only [Act.put, List.setIfInBounds_toArray, List.set_cons_zero, List.set_cons_succ]
    refine wpAnyH_done (by kernel_rfl) ?_ _
    go_wp2_with (first | ((with_reducible refine st_load 44 _ g1 ?_ n25 Try.underlying44 ?_ ?_ ?_); exact rfl; exact rfl; exact Try.zDl) | ((with_reducible refine st_store 44 _ _ g5 (dA (Dl.mk U d.tm (outY U))) ?_ ?_ m25_z ?_ ?_ ?_ ?_); exact rfl; exact rfl; exact Try.zDl; exact rfl; exact dA_one _))
    refine ⟨fun V27 n27 k27 => ?_⟩
    have m27_d := k27.on n25 ne5_d
    have m27_r := k27.on m25_r ne5_r
    have m27_v := k27.on m25_v (Ne.symm ne15_z)
    have o27 := k27.bel _ _ o25 up5
    clear k27
    clear m25_z n25 m25_r m25_v o25
    go_wp2_with fail
    exact bodyPost_ret (v := .tuple #[.agg (dA (Dl.mk U d.tm (outY U))), .int .i64 (E : Int)]) (res_two Try.results41 rfl rfl n27 Try.underlying44 rfl Try.zDl) rfl ⟨(by rw [HE.out, HS.out] <;> rfl), o27⟩
set_option maxRecDepth 100000 in
set_option maxHeartbeats 4000000 in
theorem extended_c (d : Dl) (r : Rd) (w : World) : Calls Try.prog 42 #[.agg (dA d), .agg (rA r)] w fun zz w' => zz = .returned (.tuple #[.agg (dA (xEx d r)), .int .i64 ((eEx d r : Nat) : Int)]) ∧ Below w.heap.size w w' := by
  have H1 := fun W => hear_c d.ty r.who r.ep W
  by_cases he : eHear d.ty r.who r.ep = 0
  · have HE := Lib.hid (show eEx d r = Te.eExt d.tm r.now by unfold eEx; rw [if_neg (not_not_intro he)])
    have HS := Lib.hid (show xEx d r = ⟨sHear d.ty r.who r.ep, Te.sExt d.tm r.now, d.out⟩ by unfold xEx dExD; rw [if_neg (not_not_intro he)])
    rw [he] at H1
    clear he
    have X1 := fun W => extend_m d.tm r.now W
    obtain ⟨U, hU⟩ : ∃ U, sHear d.ty r.who r.ep = U := ⟨_, rfl⟩
    obtain ⟨E, hE⟩ : ∃ E, Te.eExt d.tm r.now = E := ⟨_, rfl⟩
    obtain ⟨t, ht⟩ : ∃ t, Te.sExt d.tm r.now = t := ⟨_, rfl⟩
    rw [hU] at H1
    rw [hE, ht] at X1
    rw [hE] at HE
    rw [hU, ht] at HS
    clear hU hE ht
    go_enter Try.func42, Try.ntmps42
    go_wp2_with (first | ((with_reducible refine st_box 44 _ (dA d) ?_ ?_); exact rfl))
    refine ⟨fun V1 g1 n1 f1 => ?_⟩
    have up1 : w.heap.size ≤ g1 := Nat.le_of_eq f1.at_
    have bl1 := f1.bel
    clear f1
    have l2 := le_tr (Below.refl _ _) bl1
    clear bl1
    go_wp2_with (first | ((with_reducible refine st_box 33 _ (rA r) ?_ ?_); exact rfl))
    refine ⟨fun V3 g3 n3 f3 => ?_⟩
    have ne3_d := f3.ne n1
    have up3 : w.heap.size ≤ g3 := f3.up l2
    have bl3 := f3.bel
    clear f3
    have r4_d := le_on n1 bl3
    have l4 := le_tr l2 bl3
    clear n1 l2
    clear bl3
    go_wp2_with (first | ((with_reducible refine st_alloc 44 (dA zeroD) ?_ ?_); exact zero_dl))
    refine ⟨fun V5 g5 n5 f5 => ?_⟩
    have ne5_d := f5.ne r4_d
    have ne5_r := f5.ne n3
    have up5 : w.heap.size ≤ g5 := f5.up l4
    have bl5 := f5.bel
    clear f5
    have r6_d := le_on r4_d bl5
    have r6_r := le_on n3 bl5
    have l6 := le_tr l4 bl5
    clear r4_d n3 l4
    clear bl5
    have c7 : V5.cell? ⟨g3, 2, none⟩ = some (.int .u8 (r.who : Int)) := CB.cell r6_r 2
    have c8 : V5.cell? ⟨g3, 3, none⟩ = some (.int .i64 r.ep) := CB.cell r6_r 3
    go_wp2_with (first | ((with_reducible refine st_part 40 _ g1 0 ?_ (pt := tA d.ty) r6_d ?_ Try.underlying40 ?_ ?_ ?_); exact rfl; exact dA_pty _; exact rfl; exact Try.zTc))
    refine (H1 _).mono ?_
    rintro e w9 ⟨rfl, b9⟩
    clear c7 c8
    have r10_d := le_on r6_d b9
    have r10_r := le_on r6_r b9
    have r10_z := le_on n5 b9
    have l10 := le_tr l6 b9
    clear r6_d r6_r n5 l6
    clear b9
    go_wp2_with (first | ((with_reducible refine st_alloc 40 (tA zeroY) ?_ ?_); exact zero_c))
    refine ⟨fun V11 g11 n11 f11 => ?_⟩
    have ne11_d := f11.ne r10_d
    have ne11_r := f11.ne r10_r
    have ne11_z := f11.ne r10_z
    have up11 : w.heap.size ≤ g11 := f11.up l10
    have bl11 := f11.bel
    clear f11
    have r12_d := le_on r10_d bl11
    have r12_r := le_on r10_r bl11
    have r12_z := le_on r10_z bl11
    have l12 := le_tr l10 bl11
    clear r10_d r10_r r10_z l10
    clear bl11
    go_wp2_with (first | ((with_reducible refine st_store 40 _ _ g11 (tA U) ?_ ?_ n11 ?_ ?_ ?_ ?_); exact rfl; exact rfl; exact Try.zTc; exact rfl; exact tA_one _))
    refine ⟨fun V13 n13 k13 => ?_⟩
    have m13_d := k13.on r12_d ne11_d
    have m13_r := k13.on r12_r ne11_r
    have m13_z := k13.on r12_z ne11_z
    have o13 := k13.bel _ _ l12 up11
    clear k13
    clear n11 r12_d r12_r r12_z l12
    have c14 : V13.cell? ⟨g3, 5, none⟩ = some (.int .i64 r.now) := CB.cell m13_r 5
    go_wp2_with (first | ((with_reducible refine st_part 42 _ g1 24 ?_ (pt := mA d.tm) m13_d ?_ Try.underlying42 ?_ ?_ ?_); exact rfl; exact dA_ptm _; exact rfl; exact Try.zTm))
    refine (X1 _).mono ?_
    rintro e w15 ⟨rfl, b15⟩
    clear c14
    have r16_d := le_on m13_d b15
    have r16_r := le_on m13_r b15
    have r16_z := le_on m13_z b15
    have r16_h := le_on n13 b15
    have l16 := le_tr o13 b15
    clear m13_d m13_r m13_z n13 o13
    clear b15
    go_wp2_with (first | ((with_reducible refine st_alloc 42 (mA zeroM) ?_ ?_); exact zero_tm))
    refine ⟨fun V17 g17 n17 f17 => ?_⟩
    have ne17_d := f17.ne r16_d
    have ne17_r := f17.ne r16_r
    have ne17_z := f17.ne r16_z
    have ne17_h := f17.ne r16_h
    have up17 : w.heap.size ≤ g17 := f17.up l16
    have bl17 := f17.bel
    clear f17
    have r18_d := le_on r16_d bl17
    have r18_r := le_on r16_r bl17
    have r18_z := le_on r16_z bl17
    have r18_h := le_on r16_h bl17
    have l18 := le_tr l16 bl17
    clear r16_d r16_r r16_z r16_h l16
    clear bl17
    go_wp2_with (first | ((with_reducible refine st_store 42 _ _ g17 (mA t) ?_ ?_ n17 ?_ ?_ ?_ ?_); exact rfl; exact rfl; exact Try.zTm; exact rfl; exact mA_one _))
    refine ⟨fun V19 n19 k19 => ?_⟩
    have m19_d := k19.on r18_d ne17_d
    have m19_r := k19.on r18_r ne17_r
    have m19_z := k19.on r18_z ne17_z
    have m19_h := k19.on r18_h ne17_h
    have o19 := k19.bel _ _ l18 up17
    clear k19
    clear n17 r18_d r18_r r18_z r18_h l18
    go_wp2_with fail
    have y20 := Lib.hid (show (fun V : World => CB V g11 40 (tA U) ∧ CB V g17 42 (mA t)) V19 from ⟨m19_h, n19⟩)
    refine wp_region_held_drew (S := (fun V : World => CB V g11 40 (tA U) ∧ CB V g17 42 (mA t))) (by kernel_rfl) y20.out (fun hHeld => ?_)
    obtain ⟨D20, hD20⟩ : ∃ V, V19.drew = V := ⟨_, rfl⟩
    have b20 : Below V19.heap.size V19 D20 := by rw [← hD20]; exact le_dr (Below.refl _ _)
    rw [hD20] at hHeld ⊢
    clear hD20
    have r21_d := le_on m19_d b20
    have r21_r := le_on m19_r b20
    have r21_z := le_on m19_z b20
    have r21_h := le_on m19_h b20
    have r21_t := le_on n19 b20
    have l21 := le_tr o19 b20
    clear m19_d m19_r m19_z m19_h n19 o19
    clear b20
    refine wpAnyH_takeL (i := 0) (d := some 31) (v := .agg (tA U)) rfl rfl (by kernel_rfl) (by kernel_rfl) (by kernel_rfl) (fun _ _ _ h => h) (Or.inl ⟨by rfl, ?_⟩) hHeld ?_
    · intro w hSw; exact yl_whole 40 _ g11 rfl hSw.1 Try.underlying40 rfl Try.zTc
    try simp only [Act.put, List.setIfInBounds_toArray, List.set_cons_zero, List.set_cons_succ]
    refine wpAnyH_takeL (i := 1) (d := some 32) (v := .agg (mA t)) rfl rfl (by kernel_rfl) (by kernel_rfl) (by kernel_rfl) (fun _ _ _ h => h) (Or.inl ⟨by rfl, ?_⟩) hHeld ?_
    · intro w hSw; exact yl_whole 42 _ g17 rfl hSw.2 Try.underlying42 rfl Try.zTm
    try simp only [Act.put, List.setIfInBounds_toArray, List.set_cons_zero, List.set_cons_succ]
    refine wpAnyH_takeL (i := 2) (d := some 33) (v := .pointer (some ⟨g1, 0, none⟩)) rfl rfl (by kernel_rfl) (by kernel_rfl) (by kernel_rfl) (fun _ _ _ h => h) (Or.inl ⟨by rfl, ?_⟩) hHeld ?_
    · intro w hSw; (try dsimp only at hSw); go_simp
    try simp only [Act.put, List.setIfInBounds_toArray, List.set_cons_zero, List.set_cons_succ]
    refine wpAnyH_ready (rs := [3]) (by kernel_rfl) (by simp) ?_
    refine AllReadyH.cons rfl (fun K hK => ?_) AllReadyH.nil
    refine rd_mid rfl 40 _ _ rfl none rfl g1 0 (tA U) rfl rfl r21_d (by decide : 0 + 24 ≤ 29) (new := dA (Dl.mk U d.tm d.out)) (dA_ty _ _) Try.zTc (tA_one _) ?_
    refine ⟨fun V22 n22 k22 => ?_⟩
    have m22_r := k22.on r21_r (Ne.symm ne3_d)
    have m22_z := k22.on r21_z (Ne.symm ne5_d)
    have m22_h := k22.on r21_h (Ne.symm ne11_d)
    have m22_t := k22.on r21_t (Ne.symm ne17_d)
    have o22 := k22.bel _ _ l21 up1
    clear k22
    clear r21_d r21_r r21_z r21_h r21_t l21
    have y23 := Lib.hid (show (fun V : World => CB V g11 40 (tA U) ∧ CB V g17 42 (mA t)) V22 from ⟨m22_h, m22_t⟩)
    refine hK.out _ _ y23.out (fun hHeld => ?_)
    clear hK K y23
    try simp only [Act.put, List.setIfInBounds_toArray, List.set_cons_zero, List.set_cons_succ]
    refine wpAnyH_takeL (i := 4) (d := some 34) (v := .pointer (some ⟨g1, 24, none⟩)) rfl rfl (by kernel_rfl) (by kernel_rfl) (by kernel_rfl) (fun _ _ _ h => h) (Or.inl ⟨by rfl, ?_⟩) hHeld ?_
    · intro w hSw; (try dsimp only at hSw); go_simp
    try simp only [Act.put, List.setIfInBounds_toArray, List.set_cons_zero, List.set_cons_succ]
    refine wpAnyH_ready (rs := [5]) (by kernel_rfl) (by simp) ?_
    refine AllReadyH.cons rfl (fun K hK => ?_) AllReadyH.nil
    refine rd_mid rfl 42 _ _ rfl none rfl g1 24 (mA t) rfl rfl n22 (by decide : 24 + 4 ≤ 29) (new := dA (Dl.mk U t d.out)) (dA_tm _ _) Try.zTm (mA_one _) ?_
    refine ⟨fun V24 n24 k24 => ?_⟩
    have m24_r := k24.on m22_r (Ne.symm ne3_d)
    have m24_z := k24.on m22_z (Ne.symm ne5_d)
    have m24_h := k24.on m22_h (Ne.symm ne11_d)
    have m24_t := k24.on m22_t (Ne.symm ne17_d)
    have o24 := k24.bel _ _ o22 up1
    clear k24
    clear n22 m22_r m22_z m22_h m22_t o22
    have y25 := Lib.hid (show (fun V : World => CB V g11 40 (tA U) ∧ CB V g17 42 (mA t)) V24 from ⟨m24_h, m24_t⟩)
    refine hK.out _ _ y25.out (fun hHeld => ?_)
    clear hK K y25
    try simp only [Act.put, List.setIfInBounds_toArray, List.set_cons_zero, List.set_cons_succ]
    refine wpAnyH_done (by kernel_rfl) ?_ _
    go_wp2_with (first | ((with_reducible refine st_load 44 _ g1 ?_ n24 Try.underlying44 ?_ ?_ ?_); exact rfl; exact rfl; exact Try.zDl) | ((with_reducible refine st_store 44 _ _ g5 (dA (Dl.mk U t d.out)) ?_ ?_ m24_z ?_ ?_ ?_ ?_); exact rfl; exact rfl; exact Try.zDl; exact rfl; exact dA_one _))
    refine ⟨fun V26 n26 k26 => ?_⟩
    have m26_d := k26.on n24 ne5_d
    have m26_r := k26.on m24_r ne5_r
    have m26_h := k26.on m24_h (Ne.symm ne11_z)
    have m26_t := k26.on m24_t (Ne.symm ne17_z)
    have o26 := k26.bel _ _ o24 up5
    clear k26
    clear m24_z n24 m24_r m24_h m24_t o24
    go_wp2_with fail
    exact bodyPost_ret (v := .tuple #[.agg (dA (Dl.mk U t d.out)), .int .i64 (E : Int)]) (res_two Try.results42 rfl rfl n26 Try.underlying44 rfl Try.zDl) rfl ⟨(by rw [HE.out, HS.out] <;> rfl), o26⟩
  · have HE := Lib.hid (show eEx d r = eHear d.ty r.who r.ep by unfold eEx; rw [if_pos he])
    have HS := Lib.hid (show xEx d r = d by unfold xEx; rw [if_pos he])
    rw [sHear_n he] at H1
    obtain ⟨m, hm⟩ : ∃ m : Nat, eHear d.ty r.who r.ep = m := ⟨_, rfl⟩
    rw [hm] at H1 he
    have HE := Lib.hid (HE.out.trans hm)
    have q5 : ((m : Int) != 0) = true := by simp [he]
    have q6 : (m != 0) = true := by simp [he]
    clear hm he
    go_enter Try.func42, Try.ntmps42
    go_wp2_with (first | ((with_reducible refine st_box 44 _ (dA d) ?_ ?_); exact rfl))
    refine ⟨fun V1 g1 n1 f1 => ?_⟩
    have up1 : w.heap.size ≤ g1 := Nat.le_of_eq f1.at_
    have bl1 := f1.bel
    clear f1
    have l2 := le_tr (Below.refl _ _) bl1
    clear bl1
    go_wp2_with (first | ((with_reducible refine st_box 33 _ (rA r) ?_ ?_); exact rfl))
    refine ⟨fun V3 g3 n3 f3 => ?_⟩
    have ne3_d := f3.ne n1
    have up3 : w.heap.size ≤ g3 := f3.up l2
    have bl3 := f3.bel
    clear f3
    have r4_d := le_on n1 bl3
    have l4 := le_tr l2 bl3
    clear n1 l2
    clear bl3
    go_wp2_with (first | ((with_reducible refine st_alloc 44 (dA zeroD) ?_ ?_); exact zero_dl))
    refine ⟨fun V5 g5 n5 f5 => ?_⟩
    have ne5_d := f5.ne r4_d
    have ne5_r := f5.ne n3
    have up5 : w.heap.size ≤ g5 := f5.up l4
    have bl5 := f5.bel
    clear f5
    have r6_d := le_on r4_d bl5
    have r6_r := le_on n3 bl5
    have l6 := le_tr l4 bl5
    clear r4_d n3 l4
    clear bl5
    have c7 : V5.cell? ⟨g3, 2, none⟩ = some (.int .u8 (r.who : Int)) := CB.cell r6_r 2
    have c8 : V5.cell? ⟨g3, 3, none⟩ = some (.int .i64 r.ep) := CB.cell r6_r 3
    go_wp2_with (first | ((with_reducible refine st_part 40 _ g1 0 ?_ (pt := tA d.ty) r6_d ?_ Try.underlying40 ?_ ?_ ?_); exact rfl; exact dA_pty _; exact rfl; exact Try.zTc))
    refine (H1 _).mono ?_
    rintro e w9 ⟨rfl, b9⟩
    clear c7 c8
    have r10_d := le_on r6_d b9
    have r10_r := le_on r6_r b9
    have r10_z := le_on n5 b9
    have l10 := le_tr l6 b9
    clear r6_d r6_r n5 l6
    clear b9
    go_wp2_with (first | ((with_reducible refine st_alloc 40 (tA zeroY) ?_ ?_); exact zero_c))
    refine ⟨fun V11 g11 n11 f11 => ?_⟩
    have ne11_d := f11.ne r10_d
    have ne11_r := f11.ne r10_r
    have ne11_z := f11.ne r10_z
    have up11 : w.heap.size ≤ g11 := f11.up l10
    have bl11 := f11.bel
    clear f11
    have r12_d := le_on r10_d bl11
    have r12_r := le_on r10_r bl11
    have r12_z := le_on r10_z bl11
    have l12 := le_tr l10 bl11
    clear r10_d r10_r r10_z l10
    clear bl11
    go_wp2_with (first | ((with_reducible refine st_store 40 _ _ g11 (tA (d.ty)) ?_ ?_ n11 ?_ ?_ ?_ ?_); exact rfl; exact rfl; exact Try.zTc; exact rfl; exact tA_one _))
    refine ⟨fun V13 n13 k13 => ?_⟩
    have m13_d := k13.on r12_d ne11_d
    have m13_r := k13.on r12_r ne11_r
    have m13_z := k13.on r12_z ne11_z
    have o13 := k13.bel _ _ l12 up11
    clear k13
    clear n11 r12_d r12_r r12_z l12
    go_wp2_with (first | ((with_reducible refine st_load 44 _ g1 ?_ m13_d Try.underlying44 ?_ ?_ ?_); exact rfl; exact rfl; exact Try.zDl) | ((with_reducible refine st_store 44 _ _ g5 (dA d) ?_ ?_ m13_z ?_ ?_ ?_ ?_); exact rfl; exact rfl; exact Try.zDl; exact rfl; exact dA_one _))
    refine ⟨fun V14 n14 k14 => ?_⟩
    have m14_d := k14.on m13_d ne5_d
    have m14_r := k14.on m13_r ne5_r
    have m14_h := k14.on n13 (Ne.symm ne11_z)
    have o14 := k14.bel _ _ o13 up5
    clear k14
    clear m13_z m13_d m13_r n13 o13
    go_wp2_with fail
    exact bodyPost_ret (v := .tuple #[.agg (dA d), .int .i64 (m : Int)]) (res_two Try.results42 rfl rfl n14 Try.underlying44 rfl Try.zDl) rfl ⟨(by rw [HE.out, HS.out] <;> rfl), o14⟩
end Go.Proofs.Ytjfmahceolhfnaa
