/-
  run of package chair. Conditions: the chair's blocks are as it left them, its deals may be, the call is in range.
-/
import Derived.Test.YtjfmahceolhfnaaChK
set_option linter.unusedVariables false
set_option linter.unusedSimpArgs false
namespace Go.Proofs.Ytjfmahceolhfnaa
open Go.RowKit

/-- Behind run. -/
def RnPost (w : World) (b m : Nat) (G : Option Nat) (D : DM) (log : List Rd) (r : Rd) (e : Ending) (w' : World) : Prop :=
  e = .returned (.tuple #[.int .i64 ((nDoC D r : Nat) : Int), .int .i64 ((eDoC D r : Nat) : Int)]) ∧ CM w' b m G (sDoC D r) log ∧ Out w w' (fun i => i = m)
set_option maxRecDepth 100000 in
set_option maxHeartbeats 4000000 in
theorem run_c (b m : Nat) (G : Option Nat) (D : DM) (log : List Rd) (r : Rd) (w : World) (h : CM w b m G D log) (hg : GoodC D) (hok : okR r) (hw : r.who < 256) : Calls Try.prog 25 #[.pointer (some ⟨b, 0, none⟩), .agg (rA r)] w (RnPost w b m G D log r) := by
  have cu := CU.start h
  clear h
  have hf := hg.few
  by_cases h4 : r.kind = 4
  · have q4 : (r.kind == 4) = true := by simp [h4]
    have HE := Lib.hid (eDoC_t (D := D) hok h4)
    have HN := Lib.hid (show nDoC D r = cntB (ooF D r.now) 1000 by rw [nDoC_z HE.out, numC_t h4])
    have HS := Lib.hid (show sDoC D r = tickD D r.now by rw [sDoC_z HE.out, stC_t h4])
    have hT := fun (W : World) (h : CM W b m G D log) => tick_c b m G D log r.now W h hf
    clear h4 hf
    go_enter Try.func25, Try.ntmps25
    go_wp2_with (first | ((with_reducible refine st_box 33 _ (rA r) ?_ ?_); exact rfl))
    refine ⟨fun V1 g1 n1 f1 => ?_⟩
    have up1 : w.heap.size ≤ g1 := Nat.le_of_eq f1.at_
    have bl1 := f1.bel
    clear f1
    have r2_cu := (cu).on bl1
    have l2 := Out.tr (Out.refl _ (fun i => i = m)) bl1
    clear cu
    clear bl1
    have c3 : V1.cell? ⟨g1, 0, none⟩ = some (.int .i64 r.kind) := CB.cell n1 0
    have c4 : V1.cell? ⟨g1, 5, none⟩ = some (.int .i64 r.now) := CB.cell n1 5
    go_wp2_with fail
    (with_reducible refine (hT _ r2_cu.cm).mono ?_)
    rintro e w5 ⟨rfl, p1, p2⟩
    have p3 := Out.trans l2 p2 (fun _ _ h => h)
    clear p2 hT
    clear c3 c4
    go_wp2_with fail
    go_ret2
    exact ⟨by rw [HN.out, HE.out] <;> rfl, by rw [HS.out]; exact p1, p3⟩
  have q4 : (r.kind == 4) = false := by simp [h4]
  have hA := fun (W : World) (h : CM W b m G D log) => after_c b m G D log r W h hok hw
  have HE0 := Lib.hid (eAf_is (D := D) hok h4)
  have hX := fun he => xAf_is (D := D) hok h4 he
  obtain ⟨E, hE⟩ : ∃ E, eAf D r = E := ⟨_, rfl⟩
  obtain ⟨d, hd⟩ : ∃ d, xAf D r = d := ⟨_, rfl⟩
  rw [hE, hd] at hA hX
  have HE := Lib.hid (HE0.out.trans hE)
  clear HE0 hE hd h4
  by_cases he : E = 0
  · subst he
    obtain ⟨hX1, hX2⟩ := hX rfl
    have HS := Lib.hid hX1
    have HN := Lib.hid hX2
    have hst := fun (W : World) (h : CM W b m G D log) => h.md.store hf (t := r.tx.toNat) (by have := hok.2; omega) d
    have htx : ((r.tx.toNat : Nat) : Int) = r.tx := Int.toNat_of_nonneg hok.2.1
    rw [htx] at hst
    have I1 := fun W => isopen_c d W
    clear hX hX1 hX2 htx hok hw hf
    go_enter Try.func25, Try.ntmps25
    go_wp2_with (first | ((with_reducible refine st_box 33 _ (rA r) ?_ ?_); exact rfl))
    refine ⟨fun V1 g1 n1 f1 => ?_⟩
    have up1 : w.heap.size ≤ g1 := Nat.le_of_eq f1.at_
    have bl1 := f1.bel
    clear f1
    have r2_cu := (cu).on bl1
    have l2 := Out.tr (Out.refl _ (fun i => i = m)) bl1
    clear cu
    clear bl1
    have c3 : V1.cell? ⟨g1, 0, none⟩ = some (.int .i64 r.kind) := CB.cell n1 0
    go_wp2_with (first | ((with_reducible refine st_load 33 _ g1 ?_ n1 Try.underlying33 ?_ ?_ ?_); exact rfl; exact rfl; exact Try.zRk))
    refine (hA _ (r2_cu).cm).mono ?_
    rintro e w4 ⟨rfl, b4⟩
    clear c3
    have r5_r := le_on n1 b4
    have r5_cu := (r2_cu).on b4
    have l5 := Out.tr l2 b4
    clear n1 r2_cu l2
    clear b4
    go_wp2_with (first | ((with_reducible refine st_alloc 44 (dA zeroD) ?_ ?_); exact zero_dl))
    refine ⟨fun V6 g6 n6 f6 => ?_⟩
    have ne6_r := f6.ne r5_r
    have up6 : w.heap.size ≤ g6 := f6.upO l5
    have bl6 := f6.bel
    clear f6
    have r7_r := le_on r5_r bl6
    have r7_cu := (r5_cu).on bl6
    have l7 := Out.tr l5 bl6
    clear r5_r r5_cu l5
    clear bl6
    go_wp2_with (first | ((with_reducible refine st_store 44 _ _ g6 (dA d) ?_ ?_ n6 ?_ ?_ ?_ ?_); exact rfl; exact rfl; exact Try.zDl; exact rfl; exact dA_one _))
    refine ⟨fun V8 n8 k8 => ?_⟩
    have m8_r := k8.on r7_r ne6_r
    have m8_cu := (r7_cu).wr k8 up6
    have o8 := Out.wr l7 k8 up6
    clear k8
    clear n6 r7_r r7_cu l7
    clear hA
    have cf := m8_cu.cf
    go_wp2_with fail
    have y9 := Lib.hid (show (fun V : World => CB V g1 33 (rA r) ∧ CB V g6 44 (dA d) ∧ CF w V b m) V8.drew from ⟨CB.drew m8_r, CB.drew n8, (cf).drew⟩)
    refine wp_region_held_drew (S := (fun V : World => CB V g1 33 (rA r) ∧ CB V g6 44 (dA d) ∧ CF w V b m)) (by kernel_rfl) y9.out (fun hHeld => ?_)
    obtain ⟨D9, hD9⟩ : ∃ V, V8.drew = V := ⟨_, rfl⟩
    have b9 : Below V8.heap.size V8 D9 := by rw [← hD9]; exact le_dr (Below.refl _ _)
    rw [hD9] at hHeld ⊢
    clear hD9
    have r10_r := le_on m8_r b9
    have r10_d := le_on n8 b9
    have r10_cu := (m8_cu).on b9
    have r10_cf := (cf).on b9
    have l10 := Out.tr o8 b9
    clear m8_r n8 m8_cu cf o8
    clear b9
    refine wpAnyH_takeL (i := 0) (d := some 24) (v := .pointer (some ⟨b, 0, none⟩)) rfl rfl (by kernel_rfl) (by kernel_rfl) (by kernel_rfl) (fun _ _ _ h => h) (Or.inl ⟨by rfl, ?_⟩) hHeld ?_
    · intro w hSw; (try dsimp only at hSw); go_simp
    try simp only [Act.put, List.setIfInBounds_toArray, List.set_cons_zero, List.set_cons_succ]
    refine wpAnyH_takeL (i := 1) (d := some 25) (v := .pointer (some ⟨b, 0, none⟩)) rfl rfl (by kernel_rfl) (by kernel_rfl) (by kernel_rfl) (fun _ _ _ h => h) (Or.inl ⟨by rfl, ?_⟩) hHeld ?_
    · intro w hSw; (try dsimp only at hSw); go_simp
    try simp only [Act.put, List.setIfInBounds_toArray, List.set_cons_zero, List.set_cons_succ]
    refine wpAnyH_takeL (i := 2) (d := some 26) (v := .pointer (some ⟨b, 0, none⟩)) rfl rfl (by kernel_rfl) (by kernel_rfl) (by kernel_rfl) (fun _ _ _ h => h) (Or.inl ⟨by rfl, ?_⟩) hHeld ?_
    · intro w hSw; (try dsimp only at hSw); go_simp
    try simp only [Act.put, List.setIfInBounds_toArray, List.set_cons_zero, List.set_cons_succ]
    refine wpAnyH_takeL (i := 3) (d := some 27) (v := .map (some m)) rfl rfl (by kernel_rfl) (by kernel_rfl) (by kernel_rfl) (fun _ _ _ h => h) (Or.inl ⟨by rfl, ?_⟩) hHeld ?_
    · intro w hSw; (have hcc := hSw.2.2.c; go_simp)
    try simp only [Act.put, List.setIfInBounds_toArray, List.set_cons_zero, List.set_cons_succ]
    refine wpAnyH_takeL (i := 4) (d := some 28) (v := .pointer (some ⟨g1, 1, none⟩)) rfl rfl (by kernel_rfl) (by kernel_rfl) (by kernel_rfl) (fun _ _ _ h => h) (Or.inl ⟨by rfl, ?_⟩) hHeld ?_
    · intro w hSw; (try dsimp only at hSw); go_simp
    try simp only [Act.put, List.setIfInBounds_toArray, List.set_cons_zero, List.set_cons_succ]
    refine wpAnyH_takeL (i := 5) (d := some 29) (v := .int .i64 r.tx) rfl rfl (by kernel_rfl) (by kernel_rfl) (by kernel_rfl) (fun _ _ _ h => h) (Or.inl ⟨by rfl, ?_⟩) hHeld ?_
    · intro w hSw; (try dsimp only at hSw); have hcc : w.cell? ⟨g1, 1, none⟩ = some (.int .i64 r.tx) := CB.cell hSw.1 1; go_simp
    try simp only [Act.put, List.setIfInBounds_toArray, List.set_cons_zero, List.set_cons_succ]
    refine wpAnyH_takeL (i := 6) (d := some 30) (v := .agg (dA d)) rfl rfl (by kernel_rfl) (by kernel_rfl) (by kernel_rfl) (fun _ _ _ h => h) (Or.inl ⟨by rfl, ?_⟩) hHeld ?_
    · intro w hSw; exact yl_whole 44 _ g6 rfl hSw.2.1 Try.underlying44 rfl Try.zDl
    try simp only [Act.put, List.setIfInBounds_toArray, List.set_cons_zero, List.set_cons_succ]
    refine wpAnyH_ready (rs := [7]) (by kernel_rfl) (by simp) ?_
    refine AllReadyH.cons rfl (fun K hK => ?_) AllReadyH.nil
    obtain ⟨V7, q1, q2, q3⟩ := hst _ r10_cu.cm
    have Q3 := Mt.of q3
    clear q3
    refine rd_mapu rfl 63 _ _ _ rfl none rfl q1 ?_
    refine ⟨?_⟩
    clear q1
    have cu7 := r10_cu.mt Q3 q2
    have md7 := r10_cu.cm.md
    rw [← HS.out] at cu7
    have r11_r := Q3.on r10_r md7
    have r11_d := Q3.on r10_d md7
    have r11_cf := (r10_cf).mt Q3 md7
    have l11 := Out.mt l10 Q3 rfl
    clear r10_r r10_d r10_cf l10
    clear Q3 q2 md7 r10_cu
    have y12 := Lib.hid (show (fun V : World => CB V g1 33 (rA r) ∧ CB V g6 44 (dA d) ∧ CF w V b m) V7 from ⟨r11_r, r11_d, r11_cf⟩)
    refine hK.out _ _ y12.out (fun hHeld => ?_)
    clear hK K y12
    try simp only [Act.put, List.setIfInBounds_toArray, List.set_cons_zero, List.set_cons_succ]
    refine wpAnyH_done (by kernel_rfl) ?_ _
    clear hst
    cases ho : (d.out == 0) with
    | true =>
      rw [ho] at I1
      have HN := Lib.hid (show nDoC D r = 0 by rw [HN.out]; rw [if_pos (by simpa using ho)])
      clear ho
      go_wp2_with (first | ((with_reducible refine st_load 44 _ g6 ?_ r11_d Try.underlying44 ?_ ?_ ?_); exact rfl; exact rfl; exact Try.zDl))
      refine (I1 _).mono ?_
      rintro e w13 ⟨rfl, b13⟩
      have r14_r := le_on r11_r b13
      have r14_d := le_on r11_d b13
      have r14_cf := (r11_cf).on b13
      have r14_cu7 := (cu7).on b13
      have l14 := Out.tr l11 b13
      clear r11_r r11_d r11_cf cu7 l11
      clear b13
      go_wp2_with fail
      go_ret2
      exact ⟨by rw [HN.out, HE.out] <;> rfl, r14_cu7.cm, l14⟩
    | false =>
      rw [ho] at I1
      have HN := Lib.hid (show nDoC D r = 1 by rw [HN.out]; rw [if_neg (by simpa using ho)])
      clear ho
      go_wp2_with (first | ((with_reducible refine st_load 44 _ g6 ?_ r11_d Try.underlying44 ?_ ?_ ?_); exact rfl; exact rfl; exact Try.zDl))
      refine (I1 _).mono ?_
      rintro e w13 ⟨rfl, b13⟩
      have r14_r := le_on r11_r b13
      have r14_d := le_on r11_d b13
      have r14_cf := (r11_cf).on b13
      have r14_cu7 := (cu7).on b13
      have l14 := Out.tr l11 b13
      clear r11_r r11_d r11_cf cu7 l11
      clear b13
      go_wp2_with fail
      go_ret2
      exact ⟨by rw [HN.out, HE.out] <;> rfl, r14_cu7.cm, l14⟩
  have hz : ¬ eDoC D r = 0 := by rw [HE.out]; exact he
  have HS := Lib.hid (sDoC_n hz)
  have HN := Lib.hid (nDoC_n hz)
  have q5 : ((E : Int) != 0) = true := by simp [he]
  have q6 : (E != 0) = true := by simp [he]
  clear hz he hX
  go_enter Try.func25, Try.ntmps25
  go_wp2_with (first | ((with_reducible refine st_box 33 _ (rA r) ?_ ?_); exact rfl))
  refine ⟨fun V1 g1 n1 f1 => ?_⟩
  have up1 : w.heap.size ≤ g1 := Nat.le_of_eq f1.at_
  have bl1 := f1.bel
  clear f1
  have r2_cu := (cu).on bl1
  have l2 := Out.tr (Out.refl _ (fun i => i = m)) bl1
  clear cu
  clear bl1
  have c3 : V1.cell? ⟨g1, 0, none⟩ = some (.int .i64 r.kind) := CB.cell n1 0
  go_wp2_with (first | ((with_reducible refine st_load 33 _ g1 ?_ n1 Try.underlying33 ?_ ?_ ?_); exact rfl; exact rfl; exact Try.zRk))
  refine (hA _ (r2_cu).cm).mono ?_
  rintro e w4 ⟨rfl, b4⟩
  clear c3
  have r5_r := le_on n1 b4
  have r5_cu := (r2_cu).on b4
  have l5 := Out.tr l2 b4
  clear n1 r2_cu l2
  clear b4
  go_wp2_with (first | ((with_reducible refine st_alloc 44 (dA zeroD) ?_ ?_); exact zero_dl))
  refine ⟨fun V6 g6 n6 f6 => ?_⟩
  have ne6_r := f6.ne r5_r
  have up6 : w.heap.size ≤ g6 := f6.upO l5
  have bl6 := f6.bel
  clear f6
  have r7_r := le_on r5_r bl6
  have r7_cu := (r5_cu).on bl6
  have l7 := Out.tr l5 bl6
  clear r5_r r5_cu l5
  clear bl6
  go_wp2_with (first | ((with_reducible refine st_store 44 _ _ g6 (dA d) ?_ ?_ n6 ?_ ?_ ?_ ?_); exact rfl; exact rfl; exact Try.zDl; exact rfl; exact dA_one _))
  refine ⟨fun V8 n8 k8 => ?_⟩
  have m8_r := k8.on r7_r ne6_r
  have m8_cu := (r7_cu).wr k8 up6
  have o8 := Out.wr l7 k8 up6
  clear k8
  clear n6 r7_r r7_cu l7
  go_wp2_with fail
  go_ret2
  exact ⟨by rw [HN.out, HE.out] <;> rfl, by rw [HS.out]; exact m8_cu.cm, o8⟩
end Go.Proofs.Ytjfmahceolhfnaa
