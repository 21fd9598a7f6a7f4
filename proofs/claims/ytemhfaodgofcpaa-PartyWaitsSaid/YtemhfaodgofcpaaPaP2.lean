/-
  Layer 16: step of two that talk, a text is said, and not taken. Condition: the talk is as it may be.
-/
import Derived.Test.YtemhfaodgofcpaaPaP0
set_option linter.unusedVariables false
set_option linter.unusedSimpArgs false
namespace Go.Proofs.Ytemhfaodgofcpaa
open Go.RowKit

set_option maxRecDepth 100000 in
set_option maxHeartbeats 8000000 in
theorem step_no (w W : World) (b : Nat) (t : Tk) (h : TX w W b t) (ok : OkT 9 t) (hl : t.S.length < 1000) (s : Sp) (hkd : s.kd < 256) (hat : s.at_ < 65536) (hm : s.kd % 4 = 0) (he : ¬ eSay (ouT 9 t) s.tx = 0) : Calls Try.prog 11 #[.pointer (some ⟨b, 0, none⟩), .agg (sA s)] W (fun e w' => e = .returned (.bool true) ∧ ∃ t', TX w w' b t' ∧ OkT 9 t' ∧ t'.S.length ≤ t.S.length + 1 ∧ (s.kd % 4 = 3 → t' = ⟨t.S, t.h, t.h⟩)) := by
  obtain ⟨⟨⟨nx, A0, n0, c0, rm⟩, h', A1, n1, c1, A2, n2, c2, A3, n3, c3⟩, G0, G1, G2, G3, ht⟩ := h
  obtain ⟨S, a, h⟩ := t
  obtain ⟨hcb, e1, e2, e3, s0, s1, s2, s3, a03, a12, hlow, hge⟩ := ht
  simp only at e1 e2 e3 s0 s1 s2 s3
  subst e1 e2 e3
  have ok0 := ok
  obtain ⟨ok1, ok2, ok3, ok4⟩ := ok
  simp only at ok1 ok2 ok3 ok4
  have l1 := s1.len
  subst l1
  have l2 := s2.len
  rw [List.length_take, Nat.min_eq_left ok2] at l2
  subst l2
  have l3 := s3.len
  rw [pkF_len, Nat.sub_zero] at l3
  subst l3
  have l0 := s0.len
  rw [pkF_len] at l0
  obtain ⟨kd, x, at_⟩ := s
  simp only at hl hkd hat ok0 hm
  have HR := Lib.hid (okT_right (r := 9) (by omega) (by simp only; omega) ok0)
  unfold ouT at HR
  simp only at HR
  have no0 := SO.noT s0 hcb (by decide)
  have no1 := SO.noT s1 hcb (by decide)
  have no2 := SO.noT s2 hcb (by decide)
  have no3 := SO.noT s3 hcb (by decide)
  have qm : (kd : Int).tmod 4 = 0 := (tmod_nat kd 4).trans (by rw [hm]; rfl)
  have Hm := Lib.hid hm
  clear hm
  obtain ⟨k, hk⟩ : ∃ k, eSay ⟨(S.length : Int), pkF S a, 9⟩ x = k := ⟨_, rfl⟩
  have he2 : ¬ k = 0 := by rw [← hk]; exact he
  have S1 := fun V (h : RR V pcl 2 A0 n0 c0 (pkF S a)) => say_n (S.length : Int) A0 n0 c0 (pkF S a) 9 x V h HR.out k hk he2
  have q5 : ((k : Int) == 0) = false := by simp [he2]
  have HK := Lib.hid ok0
  clear he hk he2
  go_enter Try.func11, Try.ntmps11
  go_wp2_with (first | ((with_reducible refine st_box 45 _ (sA ⟨kd, x, at_⟩) ?_ ?_); exact rfl))
  refine ⟨fun V1 g1 n1 f1 => ?_⟩
  have ne1_k := f1.ne hcb
  have no1_s0 := SO.fresh s0 (Nat.le_of_eq f1.at_)
  have no1_s1 := SO.fresh s1 (Nat.le_of_eq f1.at_)
  have no1_s2 := SO.fresh s2 (Nat.le_of_eq f1.at_)
  have no1_s3 := SO.fresh s3 (Nat.le_of_eq f1.at_)
  have up1 : w.heap.size ≤ g1 := f1.up hlow
  have bl1 := f1.bel
  clear f1
  have r2_s0 := SO.on s0 bl1
  have r2_s1 := SO.on s1 bl1
  have r2_s2 := SO.on s2 bl1
  have r2_s3 := SO.on s3 bl1
  have r3_k := le_on hcb bl1
  have l3 := le_tr hlow bl1
  clear hcb hlow
  clear s0 s1 s2 s3
  clear bl1
  have c4 : V1.cell? ⟨g1, 0, none⟩ = some (.int .u8 (kd : Int)) := CB.cell n1 0
  go_wp2_with fail
  clear c4
  have y5 := Lib.hid (show (fun V : World => CB V b 42 (kA ⟨⟨(S.length : Int), A0, n0, c0, 9⟩, (h : Int), A1, S.length, c1, A2, h, c2, A3, S.length, c3⟩) ∧ CB V g1 45 (sA ⟨kd, x, at_⟩)) V1.drew from ⟨CB.drew r3_k, CB.drew n1⟩)
  refine wp_region_held_drew (S := (fun V : World => CB V b 42 (kA ⟨⟨(S.length : Int), A0, n0, c0, 9⟩, (h : Int), A1, S.length, c1, A2, h, c2, A3, S.length, c3⟩) ∧ CB V g1 45 (sA ⟨kd, x, at_⟩))) (by kernel_rfl) y5.out (fun hHeld => ?_)
  obtain ⟨D5, hD5⟩ : ∃ V, V1.drew = V := ⟨_, rfl⟩
  have b5 : Below V1.heap.size V1 D5 := by rw [← hD5]; exact le_dr (Below.refl _ _)
  rw [hD5] at hHeld ⊢
  clear hD5
  have r6_s0 := SO.on r2_s0 b5
  have r6_s1 := SO.on r2_s1 b5
  have r6_s2 := SO.on r2_s2 b5
  have r6_s3 := SO.on r2_s3 b5
  have r7_k := le_on r3_k b5
  have r7_s := le_on n1 b5
  have l7 := le_tr l3 b5
  clear r3_k n1 l3
  clear r2_s0 r2_s1 r2_s2 r2_s3
  clear b5
  refine wpAnyH_takeL (i := 0) (d := some 39) (v := .pointer (some ⟨b, 0, none⟩)) rfl rfl (by kernel_rfl) (by kernel_rfl) (by kernel_rfl) (fun _ _ _ h => h) (Or.inl ⟨by rfl, ?_⟩) hHeld ?_
  · intro w hSw; (try dsimp only at hSw); go_simp
  try simp only [Act.put, List.setIfInBounds_toArray, List.set_cons_zero, List.set_cons_succ]
  refine wpAnyH_takeL (i := 1) (d := some 40) (v := .pointer (some ⟨b, 0, none⟩)) rfl rfl (by kernel_rfl) (by kernel_rfl) (by kernel_rfl) (fun _ _ _ h => h) (Or.inl ⟨by rfl, ?_⟩) hHeld ?_
  · intro w hSw; (try dsimp only at hSw); go_simp
  try simp only [Act.put, List.setIfInBounds_toArray, List.set_cons_zero, List.set_cons_succ]
  refine wpAnyH_takeL (i := 2) (d := some 41) (v := .pointer (some ⟨b, 0, none⟩)) rfl rfl (by kernel_rfl) (by kernel_rfl) (by kernel_rfl) (fun _ _ _ h => h) (Or.inl ⟨by rfl, ?_⟩) hHeld ?_
  · intro w hSw; (try dsimp only at hSw); go_simp
  try simp only [Act.put, List.setIfInBounds_toArray, List.set_cons_zero, List.set_cons_succ]
  refine wpAnyH_takeL (i := 3) (d := some 42) (v := .agg (oA ⟨(S.length : Int), A0, n0, c0, 9⟩)) rfl rfl (by kernel_rfl) (by kernel_rfl) (by kernel_rfl) (fun _ _ _ h => h) (Or.inl ⟨by rfl, ?_⟩) hHeld ?_
  · intro w hSw; exact yl_part 39 _ b 0 rfl (pt := oA ⟨(S.length : Int), A0, n0, c0, 9⟩) hSw.1 (kA_po _) Try.underlying39 rfl Try.zOu
  try simp only [Act.put, List.setIfInBounds_toArray, List.set_cons_zero, List.set_cons_succ]
  refine wpAnyH_takeL (i := 4) (d := some 43) (v := .pointer (some ⟨g1, 1, none⟩)) rfl rfl (by kernel_rfl) (by kernel_rfl) (by kernel_rfl) (fun _ _ _ h => h) (Or.inl ⟨by rfl, ?_⟩) hHeld ?_
  · intro w hSw; (try dsimp only at hSw); go_simp
  try simp only [Act.put, List.setIfInBounds_toArray, List.set_cons_zero, List.set_cons_succ]
  refine wpAnyH_takeL (i := 5) (d := some 44) (v := .string x) rfl rfl (by kernel_rfl) (by kernel_rfl) (by kernel_rfl) (fun _ _ _ h => h) (Or.inl ⟨by rfl, ?_⟩) hHeld ?_
  · intro w hSw; (try dsimp only at hSw); have hcc : w.cell? ⟨g1, 1, none⟩ = some (.string x) := CB.cell hSw.2 1; go_simp
  try simp only [Act.put, List.setIfInBounds_toArray, List.set_cons_zero, List.set_cons_succ]
  refine wpAnyH_ready (rs := [6, 11, 12]) (by kernel_rfl) (by simp) ?_
  refine AllReadyH.cons rfl (fun K hK => ?_) (AllReadyH.cons rfl (fun K hK => ?_) (AllReadyH.cons rfl (fun K hK => ?_) AllReadyH.nil))
  · skip
    go_simp
    have lt8_k := CB.lt r7_k
    have lt8_s := CB.lt r7_s
    have lb8 : w.heap.size ≤ D5.heap.size := Below.size (B := w.heap.size) l7
    have lu8_s0 : ∀ g, G0 = some g → g < D5.heap.size := fun g e => r6_s0.seg.lt g e
    have lu8_s3 : ∀ g, G3 = some g → g < D5.heap.size := fun g e => r6_s3.seg.lt g e
    (with_reducible refine (S1 _ (r6_s0).rr).mono ?_)
    rintro e u8 ⟨A9, c9, G9, rfl, so9, b8⟩
    have r9_s0 := SO.on r6_s0 b8
    have r9_s1 := SO.on r6_s1 b8
    have r9_s2 := SO.on r6_s2 b8
    have r9_s3 := SO.on r6_s3 b8
    have r10_k := le_on r7_k b8
    have r10_s := le_on r7_s b8
    have l10 := le_tr l7 b8
    clear r7_k r7_s l7
    clear r6_s0 r6_s1 r6_s2 r6_s3
    clear b8
    have na11 := SO.above so9 lt8_k
    have na12 := SO.above so9 lt8_s
    have ap8_s0 := ap_new so9 lu8_s0
    have ap8_s3 := ap_new so9 lu8_s3
    have sm8_s9 := SO.mono so9 lb8
    clear so9
    clear lb8 lt8_k lt8_s lu8_s0 lu8_s3
    go_wp2_with fail
    have y13 := Lib.hid (show (fun V : World => CB V b 42 (kA ⟨⟨(S.length : Int), A0, n0, c0, 9⟩, (h : Int), A1, S.length, c1, A2, h, c2, A3, S.length, c3⟩) ∧ CB V g1 45 (sA ⟨kd, x, at_⟩)) u8 from ⟨r10_k, r10_s⟩)
    refine hK.out _ _ y13.out (fun hHeld => ?_)
    clear hK K y13
    try simp only [Act.put, List.setIfInBounds_toArray, List.set_cons_zero, List.set_cons_succ]
    refine wpAnyH_takeL (i := 7) (d := some 38) (v := .tuple #[.agg (oA ⟨(S.length : Int), A9, n0, c9, 9⟩), .agg (pA zeroP), .int .i64 (k : Int)]) rfl rfl (by kernel_rfl) (by kernel_rfl) (by kernel_rfl) (fun _ _ _ h => h) (Or.inl ⟨by rfl, ?_⟩) hHeld ?_
    · intro w hSw; (try dsimp only at hSw); go_simp
    try simp only [Act.put, List.setIfInBounds_toArray, List.set_cons_zero, List.set_cons_succ]
    refine wpAnyH_takeL (i := 8) (d := some 46) (v := .agg (oA ⟨(S.length : Int), A9, n0, c9, 9⟩)) rfl rfl (by kernel_rfl) (by kernel_rfl) (by kernel_rfl) (fun _ _ _ h => h) (Or.inl ⟨by rfl, ?_⟩) hHeld ?_
    · intro w hSw; (try dsimp only at hSw); go_simp
    try simp only [Act.put, List.setIfInBounds_toArray, List.set_cons_zero, List.set_cons_succ]
    refine wpAnyH_takeL (i := 9) (d := some 47) (v := .agg (pA zeroP)) rfl rfl (by kernel_rfl) (by kernel_rfl) (by kernel_rfl) (fun _ _ _ h => h) (Or.inl ⟨by rfl, ?_⟩) hHeld ?_
    · intro w hSw; (try dsimp only at hSw); go_simp
    try simp only [Act.put, List.setIfInBounds_toArray, List.set_cons_zero, List.set_cons_succ]
    refine wpAnyH_takeL (i := 10) (d := some 48) (v := .int .i64 (k : Int)) rfl rfl (by kernel_rfl) (by kernel_rfl) (by kernel_rfl) (fun _ _ _ h => h) (Or.inl ⟨by rfl, ?_⟩) hHeld ?_
    · intro w hSw; (try dsimp only at hSw); go_simp
    try simp only [Act.put, List.setIfInBounds_toArray, List.set_cons_zero, List.set_cons_succ]
    refine wpAnyH_ready (rs := [11, 12]) (by kernel_rfl) (by simp) ?_
    refine AllReadyH.cons rfl (fun K hK => ?_) (AllReadyH.cons rfl (fun K hK => ?_) AllReadyH.nil)
    · skip
      refine rd_alloc rfl 39 rfl (some 5) rfl (oA zeroO) zero_ou ?_
      refine ⟨fun V14 g14 n14 f14 => ?_⟩
      have ne14_k := f14.ne r10_k
      have ne14_s := f14.ne r10_s
      have no14_s0 := SO.fresh r9_s0 (Nat.le_of_eq f14.at_)
      have no14_s1 := SO.fresh r9_s1 (Nat.le_of_eq f14.at_)
      have no14_s2 := SO.fresh r9_s2 (Nat.le_of_eq f14.at_)
      have no14_s3 := SO.fresh r9_s3 (Nat.le_of_eq f14.at_)
      have no14_s9 := SO.fresh sm8_s9 (Nat.le_of_eq f14.at_)
      have up14 : w.heap.size ≤ g14 := f14.up l10
      have bl14 := f14.bel
      clear f14
      have r15_s0 := SO.on r9_s0 bl14
      have r15_s1 := SO.on r9_s1 bl14
      have r15_s2 := SO.on r9_s2 bl14
      have r15_s3 := SO.on r9_s3 bl14
      have r15_s9 := SO.on sm8_s9 bl14
      have r16_k := le_on r10_k bl14
      have r16_s := le_on r10_s bl14
      have l16 := le_tr l10 bl14
      clear r10_k r10_s l10
      clear r9_s0 r9_s1 r9_s2 r9_s3 sm8_s9
      clear bl14
      have y17 := Lib.hid (show (fun V : World => CB V b 42 (kA ⟨⟨(S.length : Int), A0, n0, c0, 9⟩, (h : Int), A1, S.length, c1, A2, h, c2, A3, S.length, c3⟩) ∧ CB V g1 45 (sA ⟨kd, x, at_⟩)) V14 from ⟨r16_k, r16_s⟩)
      refine hK.out _ _ y17.out (fun hHeld => ?_)
      clear hK K y17
      try simp only [Act.put, List.setIfInBounds_toArray, List.set_cons_zero, List.set_cons_succ]
      refine wpAnyH_ready (rs := [12]) (by kernel_rfl) (by simp) ?_
      refine AllReadyH.cons rfl (fun K hK => ?_) AllReadyH.nil
      refine rd_alloc rfl 30 rfl (some 6) rfl (pA zeroP) zero_pk ?_
      refine ⟨fun V18 g18 n18 f18 => ?_⟩
      have ne18_k := f18.ne r16_k
      have ne18_s := f18.ne r16_s
      have ne18_o5 := f18.ne n14
      have no18_s0 := SO.fresh r15_s0 (Nat.le_of_eq f18.at_)
      have no18_s1 := SO.fresh r15_s1 (Nat.le_of_eq f18.at_)
      have no18_s2 := SO.fresh r15_s2 (Nat.le_of_eq f18.at_)
      have no18_s3 := SO.fresh r15_s3 (Nat.le_of_eq f18.at_)
      have no18_s9 := SO.fresh r15_s9 (Nat.le_of_eq f18.at_)
      have up18 : w.heap.size ≤ g18 := f18.up l16
      have bl18 := f18.bel
      clear f18
      have r19_s0 := SO.on r15_s0 bl18
      have r19_s1 := SO.on r15_s1 bl18
      have r19_s2 := SO.on r15_s2 bl18
      have r19_s3 := SO.on r15_s3 bl18
      have r19_s9 := SO.on r15_s9 bl18
      have r20_k := le_on r16_k bl18
      have r20_s := le_on r16_s bl18
      have r20_o5 := le_on n14 bl18
      have l20 := le_tr l16 bl18
      clear r16_k r16_s n14 l16
      clear r15_s0 r15_s1 r15_s2 r15_s3 r15_s9
      clear bl18
      have y21 := Lib.hid (show (fun V : World => CB V b 42 (kA ⟨⟨(S.length : Int), A0, n0, c0, 9⟩, (h : Int), A1, S.length, c1, A2, h, c2, A3, S.length, c3⟩) ∧ CB V g1 45 (sA ⟨kd, x, at_⟩)) V18 from ⟨r20_k, r20_s⟩)
      refine hK.out _ _ y21.out (fun hHeld => ?_)
      clear hK K y21
      try simp only [Act.put, List.setIfInBounds_toArray, List.set_cons_zero, List.set_cons_succ]
      refine wpAnyH_ready (rs := [13]) (by kernel_rfl) (by simp) ?_
      refine AllReadyH.cons rfl (fun K hK => ?_) AllReadyH.nil
      refine rd_store rfl 39 _ _ rfl none rfl g14 (oA ⟨(S.length : Int), A9, n0, c9, 9⟩) rfl rfl r20_o5 Try.zOu rfl (oA_one _) ?_
      refine ⟨fun V22 n22 k22 => ?_⟩
      have m22_k := k22.on r20_k ne14_k
      have m22_s := k22.on r20_s ne14_s
      have m22_p6 := k22.on n18 (Ne.symm ne18_o5)
      have m22_s0 := SO.wr r19_s0 k22 no14_s0
      have m22_s1 := SO.wr r19_s1 k22 no14_s1
      have m22_s2 := SO.wr r19_s2 k22 no14_s2
      have m22_s3 := SO.wr r19_s3 k22 no14_s3
      have m22_s9 := SO.wr r19_s9 k22 no14_s9
      have o22 := k22.bel _ _ l20 up14
      clear k22
      clear r20_o5 r20_k r20_s n18 r19_s0 r19_s1 r19_s2 r19_s3 r19_s9 l20
      have y23 := Lib.hid (show (fun V : World => CB V b 42 (kA ⟨⟨(S.length : Int), A0, n0, c0, 9⟩, (h : Int), A1, S.length, c1, A2, h, c2, A3, S.length, c3⟩) ∧ CB V g1 45 (sA ⟨kd, x, at_⟩)) V22 from ⟨m22_k, m22_s⟩)
      refine hK.out _ _ y23.out (fun hHeld => ?_)
      clear hK K y23
      try simp only [Act.put, List.setIfInBounds_toArray, List.set_cons_zero, List.set_cons_succ]
      refine wpAnyH_ready (rs := [14]) (by kernel_rfl) (by simp) ?_
      refine AllReadyH.cons rfl (fun K hK => ?_) AllReadyH.nil
      refine rd_store rfl 30 _ _ rfl none rfl g18 (pA zeroP) rfl rfl m22_p6 Try.zPk rfl (pA_one _) ?_
      refine ⟨fun V24 n24 k24 => ?_⟩
      have m24_k := k24.on m22_k ne18_k
      have m24_s := k24.on m22_s ne18_s
      have m24_o5 := k24.on n22 ne18_o5
      have m24_s0 := SO.wr m22_s0 k24 no18_s0
      have m24_s1 := SO.wr m22_s1 k24 no18_s1
      have m24_s2 := SO.wr m22_s2 k24 no18_s2
      have m24_s3 := SO.wr m22_s3 k24 no18_s3
      have m24_s9 := SO.wr m22_s9 k24 no18_s9
      have o24 := k24.bel _ _ o22 up18
      clear k24
      clear m22_p6 m22_k m22_s n22 m22_s0 m22_s1 m22_s2 m22_s3 m22_s9 o22
      have y25 := Lib.hid (show (fun V : World => CB V b 42 (kA ⟨⟨(S.length : Int), A0, n0, c0, 9⟩, (h : Int), A1, S.length, c1, A2, h, c2, A3, S.length, c3⟩) ∧ CB V g1 45 (sA ⟨kd, x, at_⟩)) V24 from ⟨m24_k, m24_s⟩)
      refine hK.out _ _ y25.out (fun hHeld => ?_)
      clear hK K y25
      try simp only [Act.put, List.setIfInBounds_toArray, List.set_cons_zero, List.set_cons_succ]
      refine wpAnyH_takeL (i := 15) (d := some 7) (v := .int .i64 (k : Int)) rfl rfl (by kernel_rfl) (by kernel_rfl) (by kernel_rfl) (fun _ _ _ h => h) (Or.inl ⟨by rfl, ?_⟩) hHeld ?_
      · intro w hSw; (try dsimp only at hSw); go_simp
      try simp only [Act.put, List.setIfInBounds_toArray, List.set_cons_zero, List.set_cons_succ]
      refine wpAnyH_done (by kernel_rfl) ?_ _
      go_wp2_with (first | ((with_reducible refine st_load 39 _ g14 ?_ m24_o5 Try.underlying39 ?_ ?_ ?_); exact rfl; exact rfl; exact Try.zOu) | ((with_reducible refine st_mid 39 _ _ b 0 (oA ⟨(S.length : Int), A9, n0, c9, 9⟩) ?_ ?_ m24_k ?_ (new := kA ⟨⟨(S.length : Int), A9, n0, c9, 9⟩, (h : Int), A1, S.length, c1, A2, h, c2, A3, S.length, c3⟩) ?_ ?_ ?_ ?_); exact rfl; exact rfl; exact (by decide : 0 + 3 ≤ 7); exact kA_o _ _; exact Try.zOu; exact oA_one _))
      refine ⟨fun V26 n26 k26 => ?_⟩
      have m26_s := k26.on m24_s (Ne.symm ne1_k)
      have m26_o5 := k26.on m24_o5 (Ne.symm ne14_k)
      have m26_p6 := k26.on n24 (Ne.symm ne18_k)
      have m26_s0 := SO.wr m24_s0 k26 no0
      have m26_s1 := SO.wr m24_s1 k26 no1
      have m26_s2 := SO.wr m24_s2 k26 no2
      have m26_s3 := SO.wr m24_s3 k26 no3
      have m26_s9 := SO.wr m24_s9 k26 na11
      have o26 := k26.bel _ _ o24 hge
      clear k26
      clear m24_k m24_s m24_o5 n24 m24_s0 m24_s1 m24_s2 m24_s3 m24_s9 o24
      go_wp2_with fail
      go_ret
      exact ⟨rfl, ⟨S, a, h⟩, ⟨⟨⟨(S.length : Int), A9, n0, c9, 9⟩, (h : Int), A1, S.length, c1, A2, h, c2, A3, S.length, c3⟩, G9, G1, G2, G3, n26, rfl, rfl, rfl, m26_s9, m26_s1, m26_s2, m26_s3, ap8_s3, a12, o26, hge⟩, HK.out, by simp, fun e => by rw [Hm.out] at e; cases e⟩
    · skip
      refine rd_alloc rfl 30 rfl (some 6) rfl (pA zeroP) zero_pk ?_
      refine ⟨fun V14 g14 n14 f14 => ?_⟩
      have ne14_k := f14.ne r10_k
      have ne14_s := f14.ne r10_s
      have no14_s0 := SO.fresh r9_s0 (Nat.le_of_eq f14.at_)
      have no14_s1 := SO.fresh r9_s1 (Nat.le_of_eq f14.at_)
      have no14_s2 := SO.fresh r9_s2 (Nat.le_of_eq f14.at_)
      have no14_s3 := SO.fresh r9_s3 (Nat.le_of_eq f14.at_)
      have no14_s9 := SO.fresh sm8_s9 (Nat.le_of_eq f14.at_)
      have up14 : w.heap.size ≤ g14 := f14.up l10
      have bl14 := f14.bel
      clear f14
      have r15_s0 := SO.on r9_s0 bl14
      have r15_s1 := SO.on r9_s1 bl14
      have r15_s2 := SO.on r9_s2 bl14
      have r15_s3 := SO.on r9_s3 bl14
      have r15_s9 := SO.on sm8_s9 bl14
      have r16_k := le_on r10_k bl14
      have r16_s := le_on r10_s bl14
      have l16 := le_tr l10 bl14
      clear r10_k r10_s l10
      clear r9_s0 r9_s1 r9_s2 r9_s3 sm8_s9
      clear bl14
      have y17 := Lib.hid (show (fun V : World => CB V b 42 (kA ⟨⟨(S.length : Int), A0, n0, c0, 9⟩, (h : Int), A1, S.length, c1, A2, h, c2, A3, S.length, c3⟩) ∧ CB V g1 45 (sA ⟨kd, x, at_⟩)) V14 from ⟨r16_k, r16_s⟩)
      refine hK.out _ _ y17.out (fun hHeld => ?_)
      clear hK K y17
      try simp only [Act.put, List.setIfInBounds_toArray, List.set_cons_zero, List.set_cons_succ]
      refine wpAnyH_ready (rs := [11]) (by kernel_rfl) (by simp) ?_
      refine AllReadyH.cons rfl (fun K hK => ?_) AllReadyH.nil
      refine rd_alloc rfl 39 rfl (some 5) rfl (oA zeroO) zero_ou ?_
      refine ⟨fun V18 g18 n18 f18 => ?_⟩
      have ne18_k := f18.ne r16_k
      have ne18_s := f18.ne r16_s
      have ne18_p6 := f18.ne n14
      have no18_s0 := SO.fresh r15_s0 (Nat.le_of_eq f18.at_)
      have no18_s1 := SO.fresh r15_s1 (Nat.le_of_eq f18.at_)
      have no18_s2 := SO.fresh r15_s2 (Nat.le_of_eq f18.at_)
      have no18_s3 := SO.fresh r15_s3 (Nat.le_of_eq f18.at_)
      have no18_s9 := SO.fresh r15_s9 (Nat.le_of_eq f18.at_)
      have up18 : w.heap.size ≤ g18 := f18.up l16
      have bl18 := f18.bel
      clear f18
      have r19_s0 := SO.on r15_s0 bl18
      have r19_s1 := SO.on r15_s1 bl18
      have r19_s2 := SO.on r15_s2 bl18
      have r19_s3 := SO.on r15_s3 bl18
      have r19_s9 := SO.on r15_s9 bl18
      have r20_k := le_on r16_k bl18
      have r20_s := le_on r16_s bl18
      have r20_p6 := le_on n14 bl18
      have l20 := le_tr l16 bl18
      clear r16_k r16_s n14 l16
      clear r15_s0 r15_s1 r15_s2 r15_s3 r15_s9
      clear bl18
      have y21 := Lib.hid (show (fun V : World => CB V b 42 (kA ⟨⟨(S.length : Int), A0, n0, c0, 9⟩, (h : Int), A1, S.length, c1, A2, h, c2, A3, S.length, c3⟩) ∧ CB V g1 45 (sA ⟨kd, x, at_⟩)) V18 from ⟨r20_k, r20_s⟩)
      refine hK.out _ _ y21.out (fun hHeld => ?_)
      clear hK K y21
      try simp only [Act.put, List.setIfInBounds_toArray, List.set_cons_zero, List.set_cons_succ]
      refine wpAnyH_ready (rs := [13]) (by kernel_rfl) (by simp) ?_
      refine AllReadyH.cons rfl (fun K hK => ?_) AllReadyH.nil
      refine rd_store rfl 39 _ _ rfl none rfl g18 (oA ⟨(S.length : Int), A9, n0, c9, 9⟩) rfl rfl n18 Try.zOu rfl (oA_one _) ?_
      refine ⟨fun V22 n22 k22 => ?_⟩
      have m22_k := k22.on r20_k ne18_k
      have m22_s := k22.on r20_s ne18_s
      have m22_p6 := k22.on r20_p6 ne18_p6
      have m22_s0 := SO.wr r19_s0 k22 no18_s0
      have m22_s1 := SO.wr r19_s1 k22 no18_s1
      have m22_s2 := SO.wr r19_s2 k22 no18_s2
      have m22_s3 := SO.wr r19_s3 k22 no18_s3
      have m22_s9 := SO.wr r19_s9 k22 no18_s9
      have o22 := k22.bel _ _ l20 up18
      clear k22
      clear n18 r20_k r20_s r20_p6 r19_s0 r19_s1 r19_s2 r19_s3 r19_s9 l20
      have y23 := Lib.hid (show (fun V : World => CB V b 42 (kA ⟨⟨(S.length : Int), A0, n0, c0, 9⟩, (h : Int), A1, S.length, c1, A2, h, c2, A3, S.length, c3⟩) ∧ CB V g1 45 (sA ⟨kd, x, at_⟩)) V22 from ⟨m22_k, m22_s⟩)
      refine hK.out _ _ y23.out (fun hHeld => ?_)
      clear hK K y23
      try simp only [Act.put, List.setIfInBounds_toArray, List.set_cons_zero, List.set_cons_succ]
      refine wpAnyH_ready (rs := [14]) (by kernel_rfl) (by simp) ?_
      refine AllReadyH.cons rfl (fun K hK => ?_) AllReadyH.nil
      refine rd_store rfl 30 _ _ rfl none rfl g14 (pA zeroP) rfl rfl m22_p6 Try.zPk rfl (pA_one _) ?_
      refine ⟨fun V24 n24 k24 => ?_⟩
      have m24_k := k24.on m22_k ne14_k
      have m24_s := k24.on m22_s ne14_s
      have m24_o5 := k24.on n22 (Ne.symm ne18_p6)
      have m24_s0 := SO.wr m22_s0 k24 no14_s0
      have m24_s1 := SO.wr m22_s1 k24 no14_s1
      have m24_s2 := SO.wr m22_s2 k24 no14_s2
      have m24_s3 := SO.wr m22_s3 k24 no14_s3
      have m24_s9 := SO.wr m22_s9 k24 no14_s9
      have o24 := k24.bel _ _ o22 up14
      clear k24
      clear m22_p6 m22_k m22_s n22 m22_s0 m22_s1 m22_s2 m22_s3 m22_s9 o22
      have y25 := Lib.hid (show (fun V : World => CB V b 42 (kA ⟨⟨(S.length : Int), A0, n0, c0, 9⟩, (h : Int), A1, S.length, c1, A2, h, c2, A3, S.length, c3⟩) ∧ CB V g1 45 (sA ⟨kd, x, at_⟩)) V24 from ⟨m24_k, m24_s⟩)
      refine hK.out _ _ y25.out (fun hHeld => ?_)
      clear hK K y25
      try simp only [Act.put, List.setIfInBounds_toArray, List.set_cons_zero, List.set_cons_succ]
      refine wpAnyH_takeL (i := 15) (d := some 7) (v := .int .i64 (k : Int)) rfl rfl (by kernel_rfl) (by kernel_rfl) (by kernel_rfl) (fun _ _ _ h => h) (Or.inl ⟨by rfl, ?_⟩) hHeld ?_
      · intro w hSw; (try dsimp only at hSw); go_simp
      try simp only [Act.put, List.setIfInBounds_toArray, List.set_cons_zero, List.set_cons_succ]
      refine wpAnyH_done (by kernel_rfl) ?_ _
      go_wp2_with (first | ((with_reducible refine st_load 39 _ g18 ?_ m24_o5 Try.underlying39 ?_ ?_ ?_); exact rfl; exact rfl; exact Try.zOu) | ((with_reducible refine st_mid 39 _ _ b 0 (oA ⟨(S.length : Int), A9, n0, c9, 9⟩) ?_ ?_ m24_k ?_ (new := kA ⟨⟨(S.length : Int), A9, n0, c9, 9⟩, (h : Int), A1, S.length, c1, A2, h, c2, A3, S.length, c3⟩) ?_ ?_ ?_ ?_); exact rfl; exact rfl; exact (by decide : 0 + 3 ≤ 7); exact kA_o _ _; exact Try.zOu; exact oA_one _))
      refine ⟨fun V26 n26 k26 => ?_⟩
      have m26_s := k26.on m24_s (Ne.symm ne1_k)
      have m26_p6 := k26.on n24 (Ne.symm ne14_k)
      have m26_o5 := k26.on m24_o5 (Ne.symm ne18_k)
      have m26_s0 := SO.wr m24_s0 k26 no0
      have m26_s1 := SO.wr m24_s1 k26 no1
      have m26_s2 := SO.wr m24_s2 k26 no2
      have m26_s3 := SO.wr m24_s3 k26 no3
      have m26_s9 := SO.wr m24_s9 k26 na11
      have o26 := k26.bel _ _ o24 hge
      clear k26
      clear m24_k m24_s n24 m24_o5 m24_s0 m24_s1 m24_s2 m24_s3 m24_s9 o24
      go_wp2_with fail
      go_ret
      exact ⟨rfl, ⟨S, a, h⟩, ⟨⟨⟨(S.length : Int), A9, n0, c9, 9⟩, (h : Int), A1, S.length, c1, A2, h, c2, A3, S.length, c3⟩, G9, G1, G2, G3, n26, rfl, rfl, rfl, m26_s9, m26_s1, m26_s2, m26_s3, ap8_s3, a12, o26, hge⟩, HK.out, by simp, fun e => by rw [Hm.out] at e; cases e⟩
  · skip
    refine rd_alloc rfl 39 rfl (some 5) rfl (oA zeroO) zero_ou ?_
    refine ⟨fun V8 g8 n8 f8 => ?_⟩
    have ne8_k := f8.ne r7_k
    have ne8_s := f8.ne r7_s
    have no8_s0 := SO.fresh r6_s0 (Nat.le_of_eq f8.at_)
    have no8_s1 := SO.fresh r6_s1 (Nat.le_of_eq f8.at_)
    have no8_s2 := SO.fresh r6_s2 (Nat.le_of_eq f8.at_)
    have no8_s3 := SO.fresh r6_s3 (Nat.le_of_eq f8.at_)
    have up8 : w.heap.size ≤ g8 := f8.up l7
    have bl8 := f8.bel
    clear f8
    have r9_s0 := SO.on r6_s0 bl8
    have r9_s1 := SO.on r6_s1 bl8
    have r9_s2 := SO.on r6_s2 bl8
    have r9_s3 := SO.on r6_s3 bl8
    have r10_k := le_on r7_k bl8
    have r10_s := le_on r7_s bl8
    have l10 := le_tr l7 bl8
    clear r7_k r7_s l7
    clear r6_s0 r6_s1 r6_s2 r6_s3
    clear bl8
    have y11 := Lib.hid (show (fun V : World => CB V b 42 (kA ⟨⟨(S.length : Int), A0, n0, c0, 9⟩, (h : Int), A1, S.length, c1, A2, h, c2, A3, S.length, c3⟩) ∧ CB V g1 45 (sA ⟨kd, x, at_⟩)) V8 from ⟨r10_k, r10_s⟩)
    refine hK.out _ _ y11.out (fun hHeld => ?_)
    clear hK K y11
    try simp only [Act.put, List.setIfInBounds_toArray, List.set_cons_zero, List.set_cons_succ]
    refine wpAnyH_ready (rs := [6, 12]) (by kernel_rfl) (by simp) ?_
    refine AllReadyH.cons rfl (fun K hK => ?_) (AllReadyH.cons rfl (fun K hK => ?_) AllReadyH.nil)
    · skip
      go_simp
      have lt12_k := CB.lt r10_k
      have lt12_s := CB.lt r10_s
      have lt12_o5 := CB.lt n8
      have lb12 : w.heap.size ≤ V8.heap.size := Below.size (B := w.heap.size) l10
      have lu12_s0 : ∀ g, G0 = some g → g < V8.heap.size := fun g e => r9_s0.seg.lt g e
      have lu12_s3 : ∀ g, G3 = some g → g < V8.heap.size := fun g e => r9_s3.seg.lt g e
      (with_reducible refine (S1 _ (r9_s0).rr).mono ?_)
      rintro e u12 ⟨A9, c9, G9, rfl, so9, b12⟩
      have r13_s0 := SO.on r9_s0 b12
      have r13_s1 := SO.on r9_s1 b12
      have r13_s2 := SO.on r9_s2 b12
      have r13_s3 := SO.on r9_s3 b12
      have r14_k := le_on r10_k b12
      have r14_s := le_on r10_s b12
      have r14_o5 := le_on n8 b12
      have l14 := le_tr l10 b12
      clear r10_k r10_s n8 l10
      clear r9_s0 r9_s1 r9_s2 r9_s3
      clear b12
      have na15 := SO.above so9 lt12_k
      have na16 := SO.above so9 lt12_s
      have na17 := SO.above so9 lt12_o5
      have ap12_s0 := ap_new so9 lu12_s0
      have ap12_s3 := ap_new so9 lu12_s3
      have sm12_s9 := SO.mono so9 lb12
      clear so9
      clear lb12 lt12_k lt12_s lt12_o5 lu12_s0 lu12_s3
      go_wp2_with fail
      have y18 := Lib.hid (show (fun V : World => CB V b 42 (kA ⟨⟨(S.length : Int), A0, n0, c0, 9⟩, (h : Int), A1, S.length, c1, A2, h, c2, A3, S.length, c3⟩) ∧ CB V g1 45 (sA ⟨kd, x, at_⟩)) u12 from ⟨r14_k, r14_s⟩)
      refine hK.out _ _ y18.out (fun hHeld => ?_)
      clear hK K y18
      try simp only [Act.put, List.setIfInBounds_toArray, List.set_cons_zero, List.set_cons_succ]
      refine wpAnyH_takeL (i := 7) (d := some 38) (v := .tuple #[.agg (oA ⟨(S.length : Int), A9, n0, c9, 9⟩), .agg (pA zeroP), .int .i64 (k : Int)]) rfl rfl (by kernel_rfl) (by kernel_rfl) (by kernel_rfl) (fun _ _ _ h => h) (Or.inl ⟨by rfl, ?_⟩) hHeld ?_
      · intro w hSw; (try dsimp only at hSw); go_simp
      try simp only [Act.put, List.setIfInBounds_toArray, List.set_cons_zero, List.set_cons_succ]
      refine wpAnyH_takeL (i := 8) (d := some 46) (v := .agg (oA ⟨(S.length : Int), A9, n0, c9, 9⟩)) rfl rfl (by kernel_rfl) (by kernel_rfl) (by kernel_rfl) (fun _ _ _ h => h) (Or.inl ⟨by rfl, ?_⟩) hHeld ?_
      · intro w hSw; (try dsimp only at hSw); go_simp
      try simp only [Act.put, List.setIfInBounds_toArray, List.set_cons_zero, List.set_cons_succ]
      refine wpAnyH_takeL (i := 9) (d := some 47) (v := .agg (pA zeroP)) rfl rfl (by kernel_rfl) (by kernel_rfl) (by kernel_rfl) (fun _ _ _ h => h) (Or.inl ⟨by rfl, ?_⟩) hHeld ?_
      · intro w hSw; (try dsimp only at hSw); go_simp
      try simp only [Act.put, List.setIfInBounds_toArray, List.set_cons_zero, List.set_cons_succ]
      refine wpAnyH_takeL (i := 10) (d := some 48) (v := .int .i64 (k : Int)) rfl rfl (by kernel_rfl) (by kernel_rfl) (by kernel_rfl) (fun _ _ _ h => h) (Or.inl ⟨by rfl, ?_⟩) hHeld ?_
      · intro w hSw; (try dsimp only at hSw); go_simp
      try simp only [Act.put, List.setIfInBounds_toArray, List.set_cons_zero, List.set_cons_succ]
      refine wpAnyH_ready (rs := [12]) (by kernel_rfl) (by simp) ?_
      refine AllReadyH.cons rfl (fun K hK => ?_) AllReadyH.nil
      refine rd_alloc rfl 30 rfl (some 6) rfl (pA zeroP) zero_pk ?_
      refine ⟨fun V19 g19 n19 f19 => ?_⟩
      have ne19_k := f19.ne r14_k
      have ne19_s := f19.ne r14_s
      have ne19_o5 := f19.ne r14_o5
      have no19_s0 := SO.fresh r13_s0 (Nat.le_of_eq f19.at_)
      have no19_s1 := SO.fresh r13_s1 (Nat.le_of_eq f19.at_)
      have no19_s2 := SO.fresh r13_s2 (Nat.le_of_eq f19.at_)
      have no19_s3 := SO.fresh r13_s3 (Nat.le_of_eq f19.at_)
      have no19_s9 := SO.fresh sm12_s9 (Nat.le_of_eq f19.at_)
      have up19 : w.heap.size ≤ g19 := f19.up l14
      have bl19 := f19.bel
      clear f19
      have r20_s0 := SO.on r13_s0 bl19
      have r20_s1 := SO.on r13_s1 bl19
      have r20_s2 := SO.on r13_s2 bl19
      have r20_s3 := SO.on r13_s3 bl19
      have r20_s9 := SO.on sm12_s9 bl19
      have r21_k := le_on r14_k bl19
      have r21_s := le_on r14_s bl19
      have r21_o5 := le_on r14_o5 bl19
      have l21 := le_tr l14 bl19
      clear r14_k r14_s r14_o5 l14
      clear r13_s0 r13_s1 r13_s2 r13_s3 sm12_s9
      clear bl19
      have y22 := Lib.hid (show (fun V : World => CB V b 42 (kA ⟨⟨(S.length : Int), A0, n0, c0, 9⟩, (h : Int), A1, S.length, c1, A2, h, c2, A3, S.length, c3⟩) ∧ CB V g1 45 (sA ⟨kd, x, at_⟩)) V19 from ⟨r21_k, r21_s⟩)
      refine hK.out _ _ y22.out (fun hHeld => ?_)
      clear hK K y22
      try simp only [Act.put, List.setIfInBounds_toArray, List.set_cons_zero, List.set_cons_succ]
      refine wpAnyH_ready (rs := [13]) (by kernel_rfl) (by simp) ?_
      refine AllReadyH.cons rfl (fun K hK => ?_) AllReadyH.nil
      refine rd_store rfl 39 _ _ rfl none rfl g8 (oA ⟨(S.length : Int), A9, n0, c9, 9⟩) rfl rfl r21_o5 Try.zOu rfl (oA_one _) ?_
      refine ⟨fun V23 n23 k23 => ?_⟩
      have m23_k := k23.on r21_k ne8_k
      have m23_s := k23.on r21_s ne8_s
      have m23_p6 := k23.on n19 (Ne.symm ne19_o5)
      have m23_s0 := SO.wr r20_s0 k23 no8_s0
      have m23_s1 := SO.wr r20_s1 k23 no8_s1
      have m23_s2 := SO.wr r20_s2 k23 no8_s2
      have m23_s3 := SO.wr r20_s3 k23 no8_s3
      have m23_s9 := SO.wr r20_s9 k23 na17
      have o23 := k23.bel _ _ l21 up8
      clear k23
      clear r21_o5 r21_k r21_s n19 r20_s0 r20_s1 r20_s2 r20_s3 r20_s9 l21
      have y24 := Lib.hid (show (fun V : World => CB V b 42 (kA ⟨⟨(S.length : Int), A0, n0, c0, 9⟩, (h : Int), A1, S.length, c1, A2, h, c2, A3, S.length, c3⟩) ∧ CB V g1 45 (sA ⟨kd, x, at_⟩)) V23 from ⟨m23_k, m23_s⟩)
      refine hK.out _ _ y24.out (fun hHeld => ?_)
      clear hK K y24
      try simp only [Act.put, List.setIfInBounds_toArray, List.set_cons_zero, List.set_cons_succ]
      refine wpAnyH_ready (rs := [14]) (by kernel_rfl) (by simp) ?_
      refine AllReadyH.cons rfl (fun K hK => ?_) AllReadyH.nil
      refine rd_store rfl 30 _ _ rfl none rfl g19 (pA zeroP) rfl rfl m23_p6 Try.zPk rfl (pA_one _) ?_
      refine ⟨fun V25 n25 k25 => ?_⟩
      have m25_k := k25.on m23_k ne19_k
      have m25_s := k25.on m23_s ne19_s
      have m25_o5 := k25.on n23 ne19_o5
      have m25_s0 := SO.wr m23_s0 k25 no19_s0
      have m25_s1 := SO.wr m23_s1 k25 no19_s1
      have m25_s2 := SO.wr m23_s2 k25 no19_s2
      have m25_s3 := SO.wr m23_s3 k25 no19_s3
      have m25_s9 := SO.wr m23_s9 k25 no19_s9
      have o25 := k25.bel _ _ o23 up19
      clear k25
      clear m23_p6 m23_k m23_s n23 m23_s0 m23_s1 m23_s2 m23_s3 m23_s9 o23
      have y26 := Lib.hid (show (fun V : World => CB V b 42 (kA ⟨⟨(S.length : Int), A0, n0, c0, 9⟩, (h : Int), A1, S.length, c1, A2, h, c2, A3, S.length, c3⟩) ∧ CB V g1 45 (sA ⟨kd, x, at_⟩)) V25 from ⟨m25_k, m25_s⟩)
      refine hK.out _ _ y26.out (fun hHeld => ?_)
      clear hK K y26
      try simp only [Act.put, List.setIfInBounds_toArray, List.set_cons_zero, List.set_cons_succ]
      refine wpAnyH_takeL (i := 15) (d := some 7) (v := .int .i64 (k : Int)) rfl rfl (by kernel_rfl) (by kernel_rfl) (by kernel_rfl) (fun _ _ _ h => h) (Or.inl ⟨by rfl, ?_⟩) hHeld ?_
      · intro w hSw; (try dsimp only at hSw); go_simp
      try simp only [Act.put, List.setIfInBounds_toArray, List.set_cons_zero, List.set_cons_succ]
      refine wpAnyH_done (by kernel_rfl) ?_ _
      go_wp2_with (first | ((with_reducible refine st_load 39 _ g8 ?_ m25_o5 Try.underlying39 ?_ ?_ ?_); exact rfl; exact rfl; exact Try.zOu) | ((with_reducible refine st_mid 39 _ _ b 0 (oA ⟨(S.length : Int), A9, n0, c9, 9⟩) ?_ ?_ m25_k ?_ (new := kA ⟨⟨(S.length : Int), A9, n0, c9, 9⟩, (h : Int), A1, S.length, c1, A2, h, c2, A3, S.length, c3⟩) ?_ ?_ ?_ ?_); exact rfl; exact rfl; exact (by decide : 0 + 3 ≤ 7); exact kA_o _ _; exact Try.zOu; exact oA_one _))
      refine ⟨fun V27 n27 k27 => ?_⟩
      have m27_s := k27.on m25_s (Ne.symm ne1_k)
      have m27_o5 := k27.on m25_o5 (Ne.symm ne8_k)
      have m27_p6 := k27.on n25 (Ne.symm ne19_k)
      have m27_s0 := SO.wr m25_s0 k27 no0
      have m27_s1 := SO.wr m25_s1 k27 no1
      have m27_s2 := SO.wr m25_s2 k27 no2
      have m27_s3 := SO.wr m25_s3 k27 no3
      have m27_s9 := SO.wr m25_s9 k27 na15
      have o27 := k27.bel _ _ o25 hge
      clear k27
      clear m25_k m25_s m25_o5 n25 m25_s0 m25_s1 m25_s2 m25_s3 m25_s9 o25
      go_wp2_with fail
      go_ret
      exact ⟨rfl, ⟨S, a, h⟩, ⟨⟨⟨(S.length : Int), A9, n0, c9, 9⟩, (h : Int), A1, S.length, c1, A2, h, c2, A3, S.length, c3⟩, G9, G1, G2, G3, n27, rfl, rfl, rfl, m27_s9, m27_s1, m27_s2, m27_s3, ap12_s3, a12, o27, hge⟩, HK.out, by simp, fun e => by rw [Hm.out] at e; cases e⟩
    · skip
      refine rd_alloc rfl 30 rfl (some 6) rfl (pA zeroP) zero_pk ?_
      refine ⟨fun V12 g12 n12 f12 => ?_⟩
      have ne12_k := f12.ne r10_k
      have ne12_s := f12.ne r10_s
      have ne12_o5 := f12.ne n8
      have no12_s0 := SO.fresh r9_s0 (Nat.le_of_eq f12.at_)
      have no12_s1 := SO.fresh r9_s1 (Nat.le_of_eq f12.at_)
      have no12_s2 := SO.fresh r9_s2 (Nat.le_of_eq f12.at_)
      have no12_s3 := SO.fresh r9_s3 (Nat.le_of_eq f12.at_)
      have up12 : w.heap.size ≤ g12 := f12.up l10
      have bl12 := f12.bel
      clear f12
      have r13_s0 := SO.on r9_s0 bl12
      have r13_s1 := SO.on r9_s1 bl12
      have r13_s2 := SO.on r9_s2 bl12
      have r13_s3 := SO.on r9_s3 bl12
      have r14_k := le_on r10_k bl12
      have r14_s := le_on r10_s bl12
      have r14_o5 := le_on n8 bl12
      have l14 := le_tr l10 bl12
      clear r10_k r10_s n8 l10
      clear r9_s0 r9_s1 r9_s2 r9_s3
      clear bl12
      have y15 := Lib.hid (show (fun V : World => CB V b 42 (kA ⟨⟨(S.length : Int), A0, n0, c0, 9⟩, (h : Int), A1, S.length, c1, A2, h, c2, A3, S.length, c3⟩) ∧ CB V g1 45 (sA ⟨kd, x, at_⟩)) V12 from ⟨r14_k, r14_s⟩)
      refine hK.out _ _ y15.out (fun hHeld => ?_)
      clear hK K y15
      try simp only [Act.put, List.setIfInBounds_toArray, List.set_cons_zero, List.set_cons_succ]
      refine wpAnyH_ready (rs := [6]) (by kernel_rfl) (by simp) ?_
      refine AllReadyH.cons rfl (fun K hK => ?_) AllReadyH.nil
      go_simp
      have lt16_k := CB.lt r14_k
      have lt16_s := CB.lt r14_s
      have lt16_o5 := CB.lt r14_o5
      have lt16_p6 := CB.lt n12
      have lb16 : w.heap.size ≤ V12.heap.size := Below.size (B := w.heap.size) l14
      have lu16_s0 : ∀ g, G0 = some g → g < V12.heap.size := fun g e => r13_s0.seg.lt g e
      have lu16_s3 : ∀ g, G3 = some g → g < V12.heap.size := fun g e => r13_s3.seg.lt g e
      (with_reducible refine (S1 _ (r13_s0).rr).mono ?_)
      rintro e u16 ⟨A9, c9, G9, rfl, so9, b16⟩
      have r17_s0 := SO.on r13_s0 b16
      have r17_s1 := SO.on r13_s1 b16
      have r17_s2 := SO.on r13_s2 b16
      have r17_s3 := SO.on r13_s3 b16
      have r18_k := le_on r14_k b16
      have r18_s := le_on r14_s b16
      have r18_o5 := le_on r14_o5 b16
      have r18_p6 := le_on n12 b16
      have l18 := le_tr l14 b16
      clear r14_k r14_s r14_o5 n12 l14
      clear r13_s0 r13_s1 r13_s2 r13_s3
      clear b16
      have na19 := SO.above so9 lt16_k
      have na20 := SO.above so9 lt16_s
      have na21 := SO.above so9 lt16_o5
      have na22 := SO.above so9 lt16_p6
      have ap16_s0 := ap_new so9 lu16_s0
      have ap16_s3 := ap_new so9 lu16_s3
      have sm16_s9 := SO.mono so9 lb16
      clear so9
      clear lb16 lt16_k lt16_s lt16_o5 lt16_p6 lu16_s0 lu16_s3
      go_wp2_with fail
      have y23 := Lib.hid (show (fun V : World => CB V b 42 (kA ⟨⟨(S.length : Int), A0, n0, c0, 9⟩, (h : Int), A1, S.length, c1, A2, h, c2, A3, S.length, c3⟩) ∧ CB V g1 45 (sA ⟨kd, x, at_⟩)) u16 from ⟨r18_k, r18_s⟩)
      refine hK.out _ _ y23.out (fun hHeld => ?_)
      clear hK K y23
      try simp only [Act.put, List.setIfInBounds_toArray, List.set_cons_zero, List.set_cons_succ]
      refine wpAnyH_takeL (i := 7) (d := some 38) (v := .tuple #[.agg (oA ⟨(S.length : Int), A9, n0, c9, 9⟩), .agg (pA zeroP), .int .i64 (k : Int)]) rfl rfl (by kernel_rfl) (by kernel_rfl) (by kernel_rfl) (fun _ _ _ h => h) (Or.inl ⟨by rfl, ?_⟩) hHeld ?_
      · intro w hSw; (try dsimp only at hSw); go_simp
      try simp only [Act.put, List.setIfInBounds_toArray, List.set_cons_zero, List.set_cons_succ]
      refine wpAnyH_takeL (i := 8) (d := some 46) (v := .agg (oA ⟨(S.length : Int), A9, n0, c9, 9⟩)) rfl rfl (by kernel_rfl) (by kernel_rfl) (by kernel_rfl) (fun _ _ _ h => h) (Or.inl ⟨by rfl, ?_⟩) hHeld ?_
      · intro w hSw; (try dsimp only at hSw); go_simp
      try simp only [Act.put, List.setIfInBounds_toArray, List.set_cons_zero, List.set_cons_succ]
      refine wpAnyH_takeL (i := 9) (d := some 47) (v := .agg (pA zeroP)) rfl rfl (by kernel_rfl) (by kernel_rfl) (by kernel_rfl) (fun _ _ _ h => h) (Or.inl ⟨by rfl, ?_⟩) hHeld ?_
      · intro w hSw; (try dsimp only at hSw); go_simp
      try simp only [Act.put, List.setIfInBounds_toArray, List.set_cons_zero, List.set_cons_succ]
      refine wpAnyH_takeL (i := 10) (d := some 48) (v := .int .i64 (k : Int)) rfl rfl (by kernel_rfl) (by kernel_rfl) (by kernel_rfl) (fun _ _ _ h => h) (Or.inl ⟨by rfl, ?_⟩) hHeld ?_
      · intro w hSw; (try dsimp only at hSw); go_simp
      try simp only [Act.put, List.setIfInBounds_toArray, List.set_cons_zero, List.set_cons_succ]
      refine wpAnyH_ready (rs := [13]) (by kernel_rfl) (by simp) ?_
      refine AllReadyH.cons rfl (fun K hK => ?_) AllReadyH.nil
      refine rd_store rfl 39 _ _ rfl none rfl g8 (oA ⟨(S.length : Int), A9, n0, c9, 9⟩) rfl rfl r18_o5 Try.zOu rfl (oA_one _) ?_
      refine ⟨fun V24 n24 k24 => ?_⟩
      have m24_k := k24.on r18_k ne8_k
      have m24_s := k24.on r18_s ne8_s
      have m24_p6 := k24.on r18_p6 (Ne.symm ne12_o5)
      have m24_s0 := SO.wr r17_s0 k24 no8_s0
      have m24_s1 := SO.wr r17_s1 k24 no8_s1
      have m24_s2 := SO.wr r17_s2 k24 no8_s2
      have m24_s3 := SO.wr r17_s3 k24 no8_s3
      have m24_s9 := SO.wr sm16_s9 k24 na21
      have o24 := k24.bel _ _ l18 up8
      clear k24
      clear r18_o5 r18_k r18_s r18_p6 r17_s0 r17_s1 r17_s2 r17_s3 sm16_s9 l18
      have y25 := Lib.hid (show (fun V : World => CB V b 42 (kA ⟨⟨(S.length : Int), A0, n0, c0, 9⟩, (h : Int), A1, S.length, c1, A2, h, c2, A3, S.length, c3⟩) ∧ CB V g1 45 (sA ⟨kd, x, at_⟩)) V24 from ⟨m24_k, m24_s⟩)
      refine hK.out _ _ y25.out (fun hHeld => ?_)
      clear hK K y25
      try simp only [Act.put, List.setIfInBounds_toArray, List.set_cons_zero, List.set_cons_succ]
      refine wpAnyH_ready (rs := [14]) (by kernel_rfl) (by simp) ?_
      refine AllReadyH.cons rfl (fun K hK => ?_) AllReadyH.nil
      refine rd_store rfl 30 _ _ rfl none rfl g12 (pA zeroP) rfl rfl m24_p6 Try.zPk rfl (pA_one _) ?_
      refine ⟨fun V26 n26 k26 => ?_⟩
      have m26_k := k26.on m24_k ne12_k
      have m26_s := k26.on m24_s ne12_s
      have m26_o5 := k26.on n24 ne12_o5
      have m26_s0 := SO.wr m24_s0 k26 no12_s0
      have m26_s1 := SO.wr m24_s1 k26 no12_s1
      have m26_s2 := SO.wr m24_s2 k26 no12_s2
      have m26_s3 := SO.wr m24_s3 k26 no12_s3
      have m26_s9 := SO.wr m24_s9 k26 na22
      have o26 := k26.bel _ _ o24 up12
      clear k26
      clear m24_p6 m24_k m24_s n24 m24_s0 m24_s1 m24_s2 m24_s3 m24_s9 o24
      have y27 := Lib.hid (show (fun V : World => CB V b 42 (kA ⟨⟨(S.length : Int), A0, n0, c0, 9⟩, (h : Int), A1, S.length, c1, A2, h, c2, A3, S.length, c3⟩) ∧ CB V g1 45 (sA ⟨kd, x, at_⟩)) V26 from ⟨m26_k, m26_s⟩)
      refine hK.out _ _ y27.out (fun hHeld => ?_)
      clear hK K y27
      try simp only [Act.put, List.setIfInBounds_toArray, List.set_cons_zero, List.set_cons_succ]
      refine wpAnyH_takeL (i := 15) (d := some 7) (v := .int .i64 (k : Int)) rfl rfl (by kernel_rfl) (by kernel_rfl) (by kernel_rfl) (fun _ _ _ h => h) (Or.inl ⟨by rfl, ?_⟩) hHeld ?_
      · intro w hSw; (try dsimp only at hSw); go_simp
      try simp only [Act.put, List.setIfInBounds_toArray, List.set_cons_zero, List.set_cons_succ]
      refine wpAnyH_done (by kernel_rfl) ?_ _
      go_wp2_with (first | ((with_reducible refine st_load 39 _ g8 ?_ m26_o5 Try.underlying39 ?_ ?_ ?_); exact rfl; exact rfl; exact Try.zOu) | ((with_reducible refine st_mid 39 _ _ b 0 (oA ⟨(S.length : Int), A9, n0, c9, 9⟩) ?_ ?_ m26_k ?_ (new := kA ⟨⟨(S.length : Int), A9, n0, c9, 9⟩, (h : Int), A1, S.length, c1, A2, h, c2, A3, S.length, c3⟩) ?_ ?_ ?_ ?_); exact rfl; exact rfl; exact (by decide : 0 + 3 ≤ 7); exact kA_o _ _; exact Try.zOu; exact oA_one _))
      refine ⟨fun V28 n28 k28 => ?_⟩
      have m28_s := k28.on m26_s (Ne.symm ne1_k)
      have m28_o5 := k28.on m26_o5 (Ne.symm ne8_k)
      have m28_p6 := k28.on n26 (Ne.symm ne12_k)
      have m28_s0 := SO.wr m26_s0 k28 no0
      have m28_s1 := SO.wr m26_s1 k28 no1
      have m28_s2 := SO.wr m26_s2 k28 no2
      have m28_s3 := SO.wr m26_s3 k28 no3
      have m28_s9 := SO.wr m26_s9 k28 na19
      have o28 := k28.bel _ _ o26 hge
      clear k28
      clear m26_k m26_s m26_o5 n26 m26_s0 m26_s1 m26_s2 m26_s3 m26_s9 o26
      go_wp2_with fail
      go_ret
      exact ⟨rfl, ⟨S, a, h⟩, ⟨⟨⟨(S.length : Int), A9, n0, c9, 9⟩, (h : Int), A1, S.length, c1, A2, h, c2, A3, S.length, c3⟩, G9, G1, G2, G3, n28, rfl, rfl, rfl, m28_s9, m28_s1, m28_s2, m28_s3, ap16_s3, a12, o28, hge⟩, HK.out, by simp, fun e => by rw [Hm.out] at e; cases e⟩
  · skip
    refine rd_alloc rfl 30 rfl (some 6) rfl (pA zeroP) zero_pk ?_
    refine ⟨fun V8 g8 n8 f8 => ?_⟩
    have ne8_k := f8.ne r7_k
    have ne8_s := f8.ne r7_s
    have no8_s0 := SO.fresh r6_s0 (Nat.le_of_eq f8.at_)
    have no8_s1 := SO.fresh r6_s1 (Nat.le_of_eq f8.at_)
    have no8_s2 := SO.fresh r6_s2 (Nat.le_of_eq f8.at_)
    have no8_s3 := SO.fresh r6_s3 (Nat.le_of_eq f8.at_)
    have up8 : w.heap.size ≤ g8 := f8.up l7
    have bl8 := f8.bel
    clear f8
    have r9_s0 := SO.on r6_s0 bl8
    have r9_s1 := SO.on r6_s1 bl8
    have r9_s2 := SO.on r6_s2 bl8
    have r9_s3 := SO.on r6_s3 bl8
    have r10_k := le_on r7_k bl8
    have r10_s := le_on r7_s bl8
    have l10 := le_tr l7 bl8
    clear r7_k r7_s l7
    clear r6_s0 r6_s1 r6_s2 r6_s3
    clear bl8
    have y11 := Lib.hid (show (fun V : World => CB V b 42 (kA ⟨⟨(S.length : Int), A0, n0, c0, 9⟩, (h : Int), A1, S.length, c1, A2, h, c2, A3, S.length, c3⟩) ∧ CB V g1 45 (sA ⟨kd, x, at_⟩)) V8 from ⟨r10_k, r10_s⟩)
    refine hK.out _ _ y11.out (fun hHeld => ?_)
    clear hK K y11
    try simp only [Act.put, List.setIfInBounds_toArray, List.set_cons_zero, List.set_cons_succ]
    refine wpAnyH_ready (rs := [6, 11]) (by kernel_rfl) (by simp) ?_
    refine AllReadyH.cons rfl (fun K hK => ?_) (AllReadyH.cons rfl (fun K hK => ?_) AllReadyH.nil)
    · skip
      go_simp
      have lt12_k := CB.lt r10_k
      have lt12_s := CB.lt r10_s
      have lt12_p6 := CB.lt n8
      have lb12 : w.heap.size ≤ V8.heap.size := Below.size (B := w.heap.size) l10
      have lu12_s0 : ∀ g, G0 = some g → g < V8.heap.size := fun g e => r9_s0.seg.lt g e
      have lu12_s3 : ∀ g, G3 = some g → g < V8.heap.size := fun g e => r9_s3.seg.lt g e
      (with_reducible refine (S1 _ (r9_s0).rr).mono ?_)
      rintro e u12 ⟨A9, c9, G9, rfl, so9, b12⟩
      have r13_s0 := SO.on r9_s0 b12
      have r13_s1 := SO.on r9_s1 b12
      have r13_s2 := SO.on r9_s2 b12
      have r13_s3 := SO.on r9_s3 b12
      have r14_k := le_on r10_k b12
      have r14_s := le_on r10_s b12
      have r14_p6 := le_on n8 b12
      have l14 := le_tr l10 b12
      clear r10_k r10_s n8 l10
      clear r9_s0 r9_s1 r9_s2 r9_s3
      clear b12
      have na15 := SO.above so9 lt12_k
      have na16 := SO.above so9 lt12_s
      have na17 := SO.above so9 lt12_p6
      have ap12_s0 := ap_new so9 lu12_s0
      have ap12_s3 := ap_new so9 lu12_s3
      have sm12_s9 := SO.mono so9 lb12
      clear so9
      clear lb12 lt12_k lt12_s lt12_p6 lu12_s0 lu12_s3
      go_wp2_with fail
      have y18 := Lib.hid (show (fun V : World => CB V b 42 (kA ⟨⟨(S.length : Int), A0, n0, c0, 9⟩, (h : Int), A1, S.length, c1, A2, h, c2, A3, S.length, c3⟩) ∧ CB V g1 45 (sA ⟨kd, x, at_⟩)) u12 from ⟨r14_k, r14_s⟩)
      refine hK.out _ _ y18.out (fun hHeld => ?_)
      clear hK K y18
      try simp only [Act.put, List.setIfInBounds_toArray, List.set_cons_zero, List.set_cons_succ]
      refine wpAnyH_takeL (i := 7) (d := some 38) (v := .tuple #[.agg (oA ⟨(S.length : Int), A9, n0, c9, 9⟩), .agg (pA zeroP), .int .i64 (k : Int)]) rfl rfl (by kernel_rfl) (by kernel_rfl) (by kernel_rfl) (fun _ _ _ h => h) (Or.inl ⟨by rfl, ?_⟩) hHeld ?_
      · intro w hSw; (try dsimp only at hSw); go_simp
      try simp only [Act.put, List.setIfInBounds_toArray, List.set_cons_zero, List.set_cons_succ]
      refine wpAnyH_takeL (i := 8) (d := some 46) (v := .agg (oA ⟨(S.length : Int), A9, n0, c9, 9⟩)) rfl rfl (by kernel_rfl) (by kernel_rfl) (by kernel_rfl) (fun _ _ _ h => h) (Or.inl ⟨by rfl, ?_⟩) hHeld ?_
      · intro w hSw; (try dsimp only at hSw); go_simp
      try simp only [Act.put, List.setIfInBounds_toArray, List.set_cons_zero, List.set_cons_succ]
      refine wpAnyH_takeL (i := 9) (d := some 47) (v := .agg (pA zeroP)) rfl rfl (by kernel_rfl) (by kernel_rfl) (by kernel_rfl) (fun _ _ _ h => h) (Or.inl ⟨by rfl, ?_⟩) hHeld ?_
      · intro w hSw; (try dsimp only at hSw); go_simp
      try simp only [Act.put, List.setIfInBounds_toArray, List.set_cons_zero, List.set_cons_succ]
      refine wpAnyH_takeL (i := 10) (d := some 48) (v := .int .i64 (k : Int)) rfl rfl (by kernel_rfl) (by kernel_rfl) (by kernel_rfl) (fun _ _ _ h => h) (Or.inl ⟨by rfl, ?_⟩) hHeld ?_
      · intro w hSw; (try dsimp only at hSw); go_simp
      try simp only [Act.put, List.setIfInBounds_toArray, List.set_cons_zero, List.set_cons_succ]
      refine wpAnyH_ready (rs := [11]) (by kernel_rfl) (by simp) ?_
      refine AllReadyH.cons rfl (fun K hK => ?_) AllReadyH.nil
      refine rd_alloc rfl 39 rfl (some 5) rfl (oA zeroO) zero_ou ?_
      refine ⟨fun V19 g19 n19 f19 => ?_⟩
      have ne19_k := f19.ne r14_k
      have ne19_s := f19.ne r14_s
      have ne19_p6 := f19.ne r14_p6
      have no19_s0 := SO.fresh r13_s0 (Nat.le_of_eq f19.at_)
      have no19_s1 := SO.fresh r13_s1 (Nat.le_of_eq f19.at_)
      have no19_s2 := SO.fresh r13_s2 (Nat.le_of_eq f19.at_)
      have no19_s3 := SO.fresh r13_s3 (Nat.le_of_eq f19.at_)
      have no19_s9 := SO.fresh sm12_s9 (Nat.le_of_eq f19.at_)
      have up19 : w.heap.size ≤ g19 := f19.up l14
      have bl19 := f19.bel
      clear f19
      have r20_s0 := SO.on r13_s0 bl19
      have r20_s1 := SO.on r13_s1 bl19
      have r20_s2 := SO.on r13_s2 bl19
      have r20_s3 := SO.on r13_s3 bl19
      have r20_s9 := SO.on sm12_s9 bl19
      have r21_k := le_on r14_k bl19
      have r21_s := le_on r14_s bl19
      have r21_p6 := le_on r14_p6 bl19
      have l21 := le_tr l14 bl19
      clear r14_k r14_s r14_p6 l14
      clear r13_s0 r13_s1 r13_s2 r13_s3 sm12_s9
      clear bl19
      have y22 := Lib.hid (show (fun V : World => CB V b 42 (kA ⟨⟨(S.length : Int), A0, n0, c0, 9⟩, (h : Int), A1, S.length, c1, A2, h, c2, A3, S.length, c3⟩) ∧ CB V g1 45 (sA ⟨kd, x, at_⟩)) V19 from ⟨r21_k, r21_s⟩)
      refine hK.out _ _ y22.out (fun hHeld => ?_)
      clear hK K y22
      try simp only [Act.put, List.setIfInBounds_toArray, List.set_cons_zero, List.set_cons_succ]
      refine wpAnyH_ready (rs := [13]) (by kernel_rfl) (by simp) ?_
      refine AllReadyH.cons rfl (fun K hK => ?_) AllReadyH.nil
      refine rd_store rfl 39 _ _ rfl none rfl g19 (oA ⟨(S.length : Int), A9, n0, c9, 9⟩) rfl rfl n19 Try.zOu rfl (oA_one _) ?_
      refine ⟨fun V23 n23 k23 => ?_⟩
      have m23_k := k23.on r21_k ne19_k
      have m23_s := k23.on r21_s ne19_s
      have m23_p6 := k23.on r21_p6 ne19_p6
      have m23_s0 := SO.wr r20_s0 k23 no19_s0
      have m23_s1 := SO.wr r20_s1 k23 no19_s1
      have m23_s2 := SO.wr r20_s2 k23 no19_s2
      have m23_s3 := SO.wr r20_s3 k23 no19_s3
      have m23_s9 := SO.wr r20_s9 k23 no19_s9
      have o23 := k23.bel _ _ l21 up19
      clear k23
      clear n19 r21_k r21_s r21_p6 r20_s0 r20_s1 r20_s2 r20_s3 r20_s9 l21
      have y24 := Lib.hid (show (fun V : World => CB V b 42 (kA ⟨⟨(S.length : Int), A0, n0, c0, 9⟩, (h : Int), A1, S.length, c1, A2, h, c2, A3, S.length, c3⟩) ∧ CB V g1 45 (sA ⟨kd, x, at_⟩)) V23 from ⟨m23_k, m23_s⟩)
      refine hK.out _ _ y24.out (fun hHeld => ?_)
      clear hK K y24
      try simp only [Act.put, List.setIfInBounds_toArray, List.set_cons_zero, List.set_cons_succ]
      refine wpAnyH_ready (rs := [14]) (by kernel_rfl) (by simp) ?_
      refine AllReadyH.cons rfl (fun K hK => ?_) AllReadyH.nil
      refine rd_store rfl 30 _ _ rfl none rfl g8 (pA zeroP) rfl rfl m23_p6 Try.zPk rfl (pA_one _) ?_
      refine ⟨fun V25 n25 k25 => ?_⟩
      have m25_k := k25.on m23_k ne8_k
      have m25_s := k25.on m23_s ne8_s
      have m25_o5 := k25.on n23 (Ne.symm ne19_p6)
      have m25_s0 := SO.wr m23_s0 k25 no8_s0
      have m25_s1 := SO.wr m23_s1 k25 no8_s1
      have m25_s2 := SO.wr m23_s2 k25 no8_s2
      have m25_s3 := SO.wr m23_s3 k25 no8_s3
      have m25_s9 := SO.wr m23_s9 k25 na17
      have o25 := k25.bel _ _ o23 up8
      clear k25
      clear m23_p6 m23_k m23_s n23 m23_s0 m23_s1 m23_s2 m23_s3 m23_s9 o23
      have y26 := Lib.hid (show (fun V : World => CB V b 42 (kA ⟨⟨(S.length : Int), A0, n0, c0, 9⟩, (h : Int), A1, S.length, c1, A2, h, c2, A3, S.length, c3⟩) ∧ CB V g1 45 (sA ⟨kd, x, at_⟩)) V25 from ⟨m25_k, m25_s⟩)
      refine hK.out _ _ y26.out (fun hHeld => ?_)
      clear hK K y26
      try simp only [Act.put, List.setIfInBounds_toArray, List.set_cons_zero, List.set_cons_succ]
      refine wpAnyH_takeL (i := 15) (d := some 7) (v := .int .i64 (k : Int)) rfl rfl (by kernel_rfl) (by kernel_rfl) (by kernel_rfl) (fun _ _ _ h => h) (Or.inl ⟨by rfl, ?_⟩) hHeld ?_
      · intro w hSw; (try dsimp only at hSw); go_simp
      try simp only [Act.put, List.setIfInBounds_toArray, List.set_cons_zero, List.set_cons_succ]
      refine wpAnyH_done (by kernel_rfl) ?_ _
      go_wp2_with (first | ((with_reducible refine st_load 39 _ g19 ?_ m25_o5 Try.underlying39 ?_ ?_ ?_); exact rfl; exact rfl; exact Try.zOu) | ((with_reducible refine st_mid 39 _ _ b 0 (oA ⟨(S.length : Int), A9, n0, c9, 9⟩) ?_ ?_ m25_k ?_ (new := kA ⟨⟨(S.length : Int), A9, n0, c9, 9⟩, (h : Int), A1, S.length, c1, A2, h, c2, A3, S.length, c3⟩) ?_ ?_ ?_ ?_); exact rfl; exact rfl; exact (by decide : 0 + 3 ≤ 7); exact kA_o _ _; exact Try.zOu; exact oA_one _))
      refine ⟨fun V27 n27 k27 => ?_⟩
      have m27_s := k27.on m25_s (Ne.symm ne1_k)
      have m27_p6 := k27.on n25 (Ne.symm ne8_k)
      have m27_o5 := k27.on m25_o5 (Ne.symm ne19_k)
      have m27_s0 := SO.wr m25_s0 k27 no0
      have m27_s1 := SO.wr m25_s1 k27 no1
      have m27_s2 := SO.wr m25_s2 k27 no2
      have m27_s3 := SO.wr m25_s3 k27 no3
      have m27_s9 := SO.wr m25_s9 k27 na15
      have o27 := k27.bel _ _ o25 hge
      clear k27
      clear m25_k m25_s n25 m25_o5 m25_s0 m25_s1 m25_s2 m25_s3 m25_s9 o25
      go_wp2_with fail
      go_ret
      exact ⟨rfl, ⟨S, a, h⟩, ⟨⟨⟨(S.length : Int), A9, n0, c9, 9⟩, (h : Int), A1, S.length, c1, A2, h, c2, A3, S.length, c3⟩, G9, G1, G2, G3, n27, rfl, rfl, rfl, m27_s9, m27_s1, m27_s2, m27_s3, ap12_s3, a12, o27, hge⟩, HK.out, by simp, fun e => by rw [Hm.out] at e; cases e⟩
    · skip
      refine rd_alloc rfl 39 rfl (some 5) rfl (oA zeroO) zero_ou ?_
      refine ⟨fun V12 g12 n12 f12 => ?_⟩
      have ne12_k := f12.ne r10_k
      have ne12_s := f12.ne r10_s
      have ne12_p6 := f12.ne n8
      have no12_s0 := SO.fresh r9_s0 (Nat.le_of_eq f12.at_)
      have no12_s1 := SO.fresh r9_s1 (Nat.le_of_eq f12.at_)
      have no12_s2 := SO.fresh r9_s2 (Nat.le_of_eq f12.at_)
      have no12_s3 := SO.fresh r9_s3 (Nat.le_of_eq f12.at_)
      have up12 : w.heap.size ≤ g12 := f12.up l10
      have bl12 := f12.bel
      clear f12
      have r13_s0 := SO.on r9_s0 bl12
      have r13_s1 := SO.on r9_s1 bl12
      have r13_s2 := SO.on r9_s2 bl12
      have r13_s3 := SO.on r9_s3 bl12
      have r14_k := le_on r10_k bl12
      have r14_s := le_on r10_s bl12
      have r14_p6 := le_on n8 bl12
      have l14 := le_tr l10 bl12
      clear r10_k r10_s n8 l10
      clear r9_s0 r9_s1 r9_s2 r9_s3
      clear bl12
      have y15 := Lib.hid (show (fun V : World => CB V b 42 (kA ⟨⟨(S.length : Int), A0, n0, c0, 9⟩, (h : Int), A1, S.length, c1, A2, h, c2, A3, S.length, c3⟩) ∧ CB V g1 45 (sA ⟨kd, x, at_⟩)) V12 from ⟨r14_k, r14_s⟩)
      refine hK.out _ _ y15.out (fun hHeld => ?_)
      clear hK K y15
      try simp only [Act.put, List.setIfInBounds_toArray, List.set_cons_zero, List.set_cons_succ]
      refine wpAnyH_ready (rs := [6]) (by kernel_rfl) (by simp) ?_
      refine AllReadyH.cons rfl (fun K hK => ?_) AllReadyH.nil
      go_simp
      have lt16_k := CB.lt r14_k
      have lt16_s := CB.lt r14_s
      have lt16_p6 := CB.lt r14_p6
      have lt16_o5 := CB.lt n12
      have lb16 : w.heap.size ≤ V12.heap.size := Below.size (B := w.heap.size) l14
      have lu16_s0 : ∀ g, G0 = some g → g < V12.heap.size := fun g e => r13_s0.seg.lt g e
      have lu16_s3 : ∀ g, G3 = some g → g < V12.heap.size := fun g e => r13_s3.seg.lt g e
      (with_reducible refine (S1 _ (r13_s0).rr).mono ?_)
      rintro e u16 ⟨A9, c9, G9, rfl, so9, b16⟩
      have r17_s0 := SO.on r13_s0 b16
      have r17_s1 := SO.on r13_s1 b16
      have r17_s2 := SO.on r13_s2 b16
      have r17_s3 := SO.on r13_s3 b16
      have r18_k := le_on r14_k b16
      have r18_s := le_on r14_s b16
      have r18_p6 := le_on r14_p6 b16
      have r18_o5 := le_on n12 b16
      have l18 := le_tr l14 b16
      clear r14_k r14_s r14_p6 n12 l14
      clear r13_s0 r13_s1 r13_s2 r13_s3
      clear b16
      have na19 := SO.above so9 lt16_k
      have na20 := SO.above so9 lt16_s
      have na21 := SO.above so9 lt16_p6
      have na22 := SO.above so9 lt16_o5
      have ap16_s0 := ap_new so9 lu16_s0
      have ap16_s3 := ap_new so9 lu16_s3
      have sm16_s9 := SO.mono so9 lb16
      clear so9
      clear lb16 lt16_k lt16_s lt16_p6 lt16_o5 lu16_s0 lu16_s3
      go_wp2_with fail
      have y23 := Lib.hid (show (fun V : World => CB V b 42 (kA ⟨⟨(S.length : Int), A0, n0, c0, 9⟩, (h : Int), A1, S.length, c1, A2, h, c2, A3, S.length, c3⟩) ∧ CB V g1 45 (sA ⟨kd, x, at_⟩)) u16 from ⟨r18_k, r18_s⟩)
      refine hK.out _ _ y23.out (fun hHeld => ?_)
      clear hK K y23
      try simp only [Act.put, List.setIfInBounds_toArray, List.set_cons_zero, List.set_cons_succ]
      refine wpAnyH_takeL (i := 7) (d := some 38) (v := .tuple #[.agg (oA ⟨(S.length : Int), A9, n0, c9, 9⟩), .agg (pA zeroP), .int .i64 (k : Int)]) rfl rfl (by kernel_rfl) (by kernel_rfl) (by kernel_rfl) (fun _ _ _ h => h) (Or.inl ⟨by rfl, ?_⟩) hHeld ?_
      · intro w hSw; (try dsimp only at hSw); go_simp
      try simp only [Act.put, List.setIfInBounds_toArray, List.set_cons_zero, List.set_cons_succ]
      refine wpAnyH_takeL (i := 8) (d := some 46) (v := .agg (oA ⟨(S.length : Int), A9, n0, c9, 9⟩)) rfl rfl (by kernel_rfl) (by kernel_rfl) (by kernel_rfl) (fun _ _ _ h => h) (Or.inl ⟨by rfl, ?_⟩) hHeld ?_
      · intro w hSw; (try dsimp only at hSw); go_simp
      try simp only [Act.put, List.setIfInBounds_toArray, List.set_cons_zero, List.set_cons_succ]
      refine wpAnyH_takeL (i := 9) (d := some 47) (v := .agg (pA zeroP)) rfl rfl (by kernel_rfl) (by kernel_rfl) (by kernel_rfl) (fun _ _ _ h => h) (Or.inl ⟨by rfl, ?_⟩) hHeld ?_
      · intro w hSw; (try dsimp only at hSw); go_simp
      try simp only [Act.put, List.setIfInBounds_toArray, List.set_cons_zero, List.set_cons_succ]
      refine wpAnyH_takeL (i := 10) (d := some 48) (v := .int .i64 (k : Int)) rfl rfl (by kernel_rfl) (by kernel_rfl) (by kernel_rfl) (fun _ _ _ h => h) (Or.inl ⟨by rfl, ?_⟩) hHeld ?_
      · intro w hSw; (try dsimp only at hSw); go_simp
      try simp only [Act.put, List.setIfInBounds_toArray, List.set_cons_zero, List.set_cons_succ]
      refine wpAnyH_ready (rs := [13]) (by kernel_rfl) (by simp) ?_
      refine AllReadyH.cons rfl (fun K hK => ?_) AllReadyH.nil
      refine rd_store rfl 39 _ _ rfl none rfl g12 (oA ⟨(S.length : Int), A9, n0, c9, 9⟩) rfl rfl r18_o5 Try.zOu rfl (oA_one _) ?_
      refine ⟨fun V24 n24 k24 => ?_⟩
      have m24_k := k24.on r18_k ne12_k
      have m24_s := k24.on r18_s ne12_s
      have m24_p6 := k24.on r18_p6 ne12_p6
      have m24_s0 := SO.wr r17_s0 k24 no12_s0
      have m24_s1 := SO.wr r17_s1 k24 no12_s1
      have m24_s2 := SO.wr r17_s2 k24 no12_s2
      have m24_s3 := SO.wr r17_s3 k24 no12_s3
      have m24_s9 := SO.wr sm16_s9 k24 na22
      have o24 := k24.bel _ _ l18 up12
      clear k24
      clear r18_o5 r18_k r18_s r18_p6 r17_s0 r17_s1 r17_s2 r17_s3 sm16_s9 l18
      have y25 := Lib.hid (show (fun V : World => CB V b 42 (kA ⟨⟨(S.length : Int), A0, n0, c0, 9⟩, (h : Int), A1, S.length, c1, A2, h, c2, A3, S.length, c3⟩) ∧ CB V g1 45 (sA ⟨kd, x, at_⟩)) V24 from ⟨m24_k, m24_s⟩)
      refine hK.out _ _ y25.out (fun hHeld => ?_)
      clear hK K y25
      try simp only [Act.put, List.setIfInBounds_toArray, List.set_cons_zero, List.set_cons_succ]
      refine wpAnyH_ready (rs := [14]) (by kernel_rfl) (by simp) ?_
      refine AllReadyH.cons rfl (fun K hK => ?_) AllReadyH.nil
      refine rd_store rfl 30 _ _ rfl none rfl g8 (pA zeroP) rfl rfl m24_p6 Try.zPk rfl (pA_one _) ?_
      refine ⟨fun V26 n26 k26 => ?_⟩
      have m26_k := k26.on m24_k ne8_k
      have m26_s := k26.on m24_s ne8_s
      have m26_o5 := k26.on n24 (Ne.symm ne12_p6)
      have m26_s0 := SO.wr m24_s0 k26 no8_s0
      have m26_s1 := SO.wr m24_s1 k26 no8_s1
      have m26_s2 := SO.wr m24_s2 k26 no8_s2
      have m26_s3 := SO.wr m24_s3 k26 no8_s3
      have m26_s9 := SO.wr m24_s9 k26 na21
      have o26 := k26.bel _ _ o24 up8
      clear k26
      clear m24_p6 m24_k m24_s n24 m24_s0 m24_s1 m24_s2 m24_s3 m24_s9 o24
      have y27 := Lib.hid (show (fun V : World => CB V b 42 (kA ⟨⟨(S.length : Int), A0, n0, c0, 9⟩, (h : Int), A1, S.length, c1, A2, h, c2, A3, S.length, c3⟩) ∧ CB V g1 45 (sA ⟨kd, x, at_⟩)) V26 from ⟨m26_k, m26_s⟩)
      refine hK.out _ _ y27.out (fun hHeld => ?_)
      clear hK K y27
      try simp only [Act.put, List.setIfInBounds_toArray, List.set_cons_zero, List.set_cons_succ]
      refine wpAnyH_takeL (i := 15) (d := some 7) (v := .int .i64 (k : Int)) rfl rfl (by kernel_rfl) (by kernel_rfl) (by kernel_rfl) (fun _ _ _ h => h) (Or.inl ⟨by rfl, ?_⟩) hHeld ?_
      · intro w hSw; (try dsimp only at hSw); go_simp
      try simp only [Act.put, List.setIfInBounds_toArray, List.set_cons_zero, List.set_cons_succ]
      refine wpAnyH_done (by kernel_rfl) ?_ _
      go_wp2_with (first | ((with_reducible refine st_load 39 _ g12 ?_ m26_o5 Try.underlying39 ?_ ?_ ?_); exact rfl; exact rfl; exact Try.zOu) | ((with_reducible refine st_mid 39 _ _ b 0 (oA ⟨(S.length : Int), A9, n0, c9, 9⟩) ?_ ?_ m26_k ?_ (new := kA ⟨⟨(S.length : Int), A9, n0, c9, 9⟩, (h : Int), A1, S.length, c1, A2, h, c2, A3, S.length, c3⟩) ?_ ?_ ?_ ?_); exact rfl; exact rfl; exact (by decide : 0 + 3 ≤ 7); exact kA_o _ _; exact Try.zOu; exact oA_one _))
      refine ⟨fun V28 n28 k28 => ?_⟩
      have m28_s := k28.on m26_s (Ne.symm ne1_k)
      have m28_p6 := k28.on n26 (Ne.symm ne8_k)
      have m28_o5 := k28.on m26_o5 (Ne.symm ne12_k)
      have m28_s0 := SO.wr m26_s0 k28 no0
      have m28_s1 := SO.wr m26_s1 k28 no1
      have m28_s2 := SO.wr m26_s2 k28 no2
      have m28_s3 := SO.wr m26_s3 k28 no3
      have m28_s9 := SO.wr m26_s9 k28 na19
      have o28 := k28.bel _ _ o26 hge
      clear k28
      clear m26_k m26_s n26 m26_o5 m26_s0 m26_s1 m26_s2 m26_s3 m26_s9 o26
      go_wp2_with fail
      go_ret
      exact ⟨rfl, ⟨S, a, h⟩, ⟨⟨⟨(S.length : Int), A9, n0, c9, 9⟩, (h : Int), A1, S.length, c1, A2, h, c2, A3, S.length, c3⟩, G9, G1, G2, G3, n28, rfl, rfl, rfl, m28_s9, m28_s1, m28_s2, m28_s3, ap16_s3, a12, o28, hge⟩, HK.out, by simp, fun e => by rw [Hm.out] at e; cases e⟩
end Go.Proofs.Ytemhfaodgofcpaa
