/-
  Layer 16: step of two that talk, a text is said, and taken. Condition: the talk is as it may be.
-/
import Derived.Test.YtemhfaodgofcpaaPaP0
import Derived.Deep.CutRange
set_option linter.unusedVariables false
set_option linter.unusedSimpArgs false
namespace Go.Proofs.Ytemhfaodgofcpaa
open Go.RowKit

set_option maxRecDepth 100000 in
set_option maxHeartbeats 8000000 in
theorem step_ok (w W : World) (b : Nat) (t : Tk) (h : TX w W b t) (ok : OkT 9 t) (hl : t.S.length < 1000) (s : Sp) (hkd : s.kd < 256) (hat : s.at_ < 65536) (hm : s.kd % 4 = 0) (he : eSay (ouT 9 t) s.tx = 0) : Calls Try.prog 11 #[.pointer (some ⟨b, 0, none⟩), .agg (sA s)] W (fun e w' => e = .returned (.bool true) ∧ ∃ t', TX w w' b t' ∧ OkT 9 t' ∧ t'.S.length ≤ t.S.length + 1 ∧ (s.kd % 4 = 3 → t' = ⟨t.S, t.h, t.h⟩)) := by
  obtain ⟨⟨⟨nx, A0, n0, c0, rm⟩, h', A1, n1, c1, A2, n2, c2, A3, n3, c3⟩, G0, G1, G2, G3, ht⟩ := h
  obtain ⟨S, a, h⟩ := t
  obtain ⟨hcb, e1, e2, e3, s0, s1, s2, s3, a03, a12, hlow, hge⟩ := ht
  simp only at e1 e2 e3 s0 s1 s2 s3
  subst e1 e2 e3
  have ok0 := ok
  obtain ⟨ok1, ok2, ok3, ok4⟩ := ok
  simp only at ok1 ok2 ok3 ok4
  have l1 := s1.len
  subst l1
  have l2 := s2.len
  rw [List.length_take, Nat.min_eq_left ok2] at l2
  subst l2
  have l3 := s3.len
  rw [pkF_len, Nat.sub_zero] at l3
  subst l3
  have l0 := s0.len
  rw [pkF_len] at l0
  obtain ⟨kd, x, at_⟩ := s
  simp only at hl hkd hat ok0 hm
  have HR := Lib.hid (okT_right (r := 9) (by omega) (by simp only; omega) ok0)
  unfold ouT at HR
  simp only at HR
  have no0 := SO.noT s0 hcb (by decide)
  have no1 := SO.noT s1 hcb (by decide)
  have no2 := SO.noT s2 hcb (by decide)
  have no3 := SO.noT s3 hcb (by decide)
  have qm : (kd : Int).tmod 4 = 0 := (tmod_nat kd 4).trans (by rw [hm]; rfl)
  have Hm := Lib.hid hm
  clear hm
  rcases say_T (r := 9) (by omega) (by simp only; omega) ok0 x with ⟨_, hx5, _, _, hok⟩ | ⟨he2, _⟩
  rotate_left
  · exact absurd he he2
  have hr9 : (n0 : Int) < 9 := by have := hok.2.2.2; simp at this; omega
  have S1 := fun V (h : RR V pcl 2 A0 n0 c0 (pkF S a)) => say_y (S.length : Int) A0 n0 c0 (pkF S a) 9 x V h HR.out hx5 (by omega) hr9
  have HK := Lib.hid hok
  clear he hok
  go_enter Try.func11, Try.ntmps11
  go_wp2_with (first | ((with_reducible refine st_box 45 _ (sA ⟨kd, x, at_⟩) ?_ ?_); exact rfl))
  refine ⟨fun V1 g1 n1 f1 => ?_⟩
  have ne1_k := f1.ne hcb
  have no1_s0 := SO.fresh s0 (Nat.le_of_eq f1.at_)
  have no1_s1 := SO.fresh s1 (Nat.le_of_eq f1.at_)
  have no1_s2 := SO.fresh s2 (Nat.le_of_eq f1.at_)
  have no1_s3 := SO.fresh s3 (Nat.le_of_eq f1.at_)
  have up1 : w.heap.size ≤ g1 := f1.up hlow
  have bl1 := f1.bel
  clear f1
  have r2_s0 := SO.on s0 bl1
  have r2_s1 := SO.on s1 bl1
  have r2_s2 := SO.on s2 bl1
  have r2_s3 := SO.on s3 bl1
  have r3_k := le_on hcb bl1
  have l3 := le_tr hlow bl1
  clear hcb hlow
  clear s0 s1 s2 s3
  clear bl1
  have c4 : V1.cell? ⟨g1, 0, none⟩ = some (.int .u8 (kd : Int)) := CB.cell n1 0
  go_upto_region 5 with fail
  clear c4
  go_cut [5, 6, 7] from 38 to 49 (fun p5 p6 p7 wx => ∃ (g5 g6 : Nat) (A9 : Option Addr) (c9 : Nat) (G9 : Option Nat), p5 = .pointer (some ⟨g5, 0, none⟩) ∧ p6 = .pointer (some ⟨g6, 0, none⟩) ∧ p7 = .int .i64 0 ∧ CB wx g5 39 (oA ⟨(S.length : Int) + 1, A9, n0 + 1, c9, 9⟩) ∧ CB wx g6 30 (pA ⟨(S.length : Int), x⟩) ∧ CB wx b 42 (kA ⟨⟨(S.length : Int), A0, n0, c0, 9⟩, (h : Int), A1, S.length, c1, A2, h, c2, A3, S.length, c3⟩) ∧ CB wx g1 45 (sA ⟨kd, x, at_⟩) ∧ SO w.heap.size wx 30 pcl 2 A9 (n0 + 1) c9 (pkF S a ++ [⟨(S.length : Int), x⟩]) G9 ∧ SO w.heap.size wx 9 scl 1 A1 S.length c1 S G1 ∧ SO w.heap.size wx 9 scl 1 A2 h c2 (S.take h) G2 ∧ SO w.heap.size wx 30 pcl 2 A3 S.length c3 (pkF S 0) G3 ∧ (∀ g, G9 = some g → some g ≠ G3) ∧ Below w.heap.size w wx ∧ w.heap.size ≤ g5 ∧ w.heap.size ≤ g6 ∧ (∀ b, G9 = some b → b ≠ g6) ∧ (∀ b, G3 = some b → b ≠ g6))
  case first =>
    have y5 := Lib.hid (show (fun V : World => CB V b 42 (kA ⟨⟨(S.length : Int), A0, n0, c0, 9⟩, (h : Int), A1, S.length, c1, A2, h, c2, A3, S.length, c3⟩) ∧ CB V g1 45 (sA ⟨kd, x, at_⟩)) V1.drew from ⟨CB.drew r3_k, CB.drew n1⟩)
    refine wp_region_held_drew (S := (fun V : World => CB V b 42 (kA ⟨⟨(S.length : Int), A0, n0, c0, 9⟩, (h : Int), A1, S.length, c1, A2, h, c2, A3, S.length, c3⟩) ∧ CB V g1 45 (sA ⟨kd, x, at_⟩))) (by kernel_rfl) y5.out (fun hHeld => ?_)
    obtain ⟨D5, hD5⟩ : ∃ V, V1.drew = V := ⟨_, rfl⟩
    have b5 : Below V1.heap.size V1 D5 := by rw [← hD5]; exact le_dr (Below.refl _ _)
    rw [hD5] at hHeld ⊢
    clear hD5
    have r6_s0 := SO.on r2_s0 b5
    have r6_s1 := SO.on r2_s1 b5
    have r6_s2 := SO.on r2_s2 b5
    have r6_s3 := SO.on r2_s3 b5
    have r7_k := le_on r3_k b5
    have r7_s := le_on n1 b5
    have l7 := le_tr l3 b5
    clear r3_k n1 l3
    clear r2_s0 r2_s1 r2_s2 r2_s3
    clear b5
    refine wpAnyH_takeL (i := 0) (d := some 39) (v := .pointer (some ⟨b, 0, none⟩)) rfl rfl (by kernel_rfl) (by kernel_rfl) (by kernel_rfl) (fun _ _ _ h => h) (Or.inl ⟨by rfl, ?_⟩) hHeld ?_
    · intro w hSw; (try dsimp only at hSw); go_simp
    try simp only [Act.put, List.setIfInBounds_toArray, List.set_cons_zero, List.set_cons_succ]
    refine wpAnyH_takeL (i := 1) (d := some 40) (v := .pointer (some ⟨b, 0, none⟩)) rfl rfl (by kernel_rfl) (by kernel_rfl) (by kernel_rfl) (fun _ _ _ h => h) (Or.inl ⟨by rfl, ?_⟩) hHeld ?_
    · intro w hSw; (try dsimp only at hSw); go_simp
    try simp only [Act.put, List.setIfInBounds_toArray, List.set_cons_zero, List.set_cons_succ]
    refine wpAnyH_takeL (i := 2) (d := some 41) (v := .pointer (some ⟨b, 0, none⟩)) rfl rfl (by kernel_rfl) (by kernel_rfl) (by kernel_rfl) (fun _ _ _ h => h) (Or.inl ⟨by rfl, ?_⟩) hHeld ?_
    · intro w hSw; (try dsimp only at hSw); go_simp
    try simp only [Act.put, List.setIfInBounds_toArray, List.set_cons_zero, List.set_cons_succ]
    refine wpAnyH_takeL (i := 3) (d := some 42) (v := .agg (oA ⟨(S.length : Int), A0, n0, c0, 9⟩)) rfl rfl (by kernel_rfl) (by kernel_rfl) (by kernel_rfl) (fun _ _ _ h => h) (Or.inl ⟨by rfl, ?_⟩) hHeld ?_
    · intro w hSw; exact yl_part 39 _ b 0 rfl (pt := oA ⟨(S.length : Int), A0, n0, c0, 9⟩) hSw.1 (kA_po _) Try.underlying39 rfl Try.zOu
    try simp only [Act.put, List.setIfInBounds_toArray, List.set_cons_zero, List.set_cons_succ]
    refine wpAnyH_takeL (i := 4) (d := some 43) (v := .pointer (some ⟨g1, 1, none⟩)) rfl rfl (by kernel_rfl) (by kernel_rfl) (by kernel_rfl) (fun _ _ _ h => h) (Or.inl ⟨by rfl, ?_⟩) hHeld ?_
    · intro w hSw; (try dsimp only at hSw); go_simp
    try simp only [Act.put, List.setIfInBounds_toArray, List.set_cons_zero, List.set_cons_succ]
    refine wpAnyH_takeL (i := 5) (d := some 44) (v := .string x) rfl rfl (by kernel_rfl) (by kernel_rfl) (by kernel_rfl) (fun _ _ _ h => h) (Or.inl ⟨by rfl, ?_⟩) hHeld ?_
    · intro w hSw; (try dsimp only at hSw); have hcc : w.cell? ⟨g1, 1, none⟩ = some (.string x) := CB.cell hSw.2 1; go_simp
    try simp only [Act.put, List.setIfInBounds_toArray, List.set_cons_zero, List.set_cons_succ]
    refine wpAnyH_ready (rs := [6, 11, 12]) (by kernel_rfl) (by simp) ?_
    refine AllReadyH.cons rfl (fun K hK => ?_) (AllReadyH.cons rfl (fun K hK => ?_) (AllReadyH.cons rfl (fun K hK => ?_) AllReadyH.nil))
    · skip
      go_simp
      have lt8_k := CB.lt r7_k
      have lt8_s := CB.lt r7_s
      have lb8 : w.heap.size ≤ D5.heap.size := Below.size (B := w.heap.size) l7
      have lu8_s0 : ∀ g, G0 = some g → g < D5.heap.size := fun g e => r6_s0.seg.lt g e
      have lu8_s3 : ∀ g, G3 = some g → g < D5.heap.size := fun g e => r6_s3.seg.lt g e
      (with_reducible refine (S1 _ (r6_s0).rr).mono ?_)
      rintro e u8 ⟨A9, c9, G9, rfl, so9, b8⟩
      have r9_s0 := SO.on r6_s0 b8
      have r9_s1 := SO.on r6_s1 b8
      have r9_s2 := SO.on r6_s2 b8
      have r9_s3 := SO.on r6_s3 b8
      have r10_k := le_on r7_k b8
      have r10_s := le_on r7_s b8
      have l10 := le_tr l7 b8
      clear r7_k r7_s l7
      clear r6_s0 r6_s1 r6_s2 r6_s3
      clear b8
      have na11 := SO.above so9 lt8_k
      have na12 := SO.above so9 lt8_s
      have ap8_s0 := ap_new so9 lu8_s0
      have ap8_s3 := ap_new so9 lu8_s3
      have sm8_s9 := SO.mono so9 lb8
      clear so9
      clear lb8 lt8_k lt8_s lu8_s0 lu8_s3
      go_wp2_with fail
      have y13 := Lib.hid (show (fun V : World => CB V b 42 (kA ⟨⟨(S.length : Int), A0, n0, c0, 9⟩, (h : Int), A1, S.length, c1, A2, h, c2, A3, S.length, c3⟩) ∧ CB V g1 45 (sA ⟨kd, x, at_⟩)) u8 from ⟨r10_k, r10_s⟩)
      refine hK.out _ _ y13.out (fun hHeld => ?_)
      clear hK K y13
      try simp only [Act.put, List.setIfInBounds_toArray, List.set_cons_zero, List.set_cons_succ]
      refine wpAnyH_takeL (i := 7) (d := some 38) (v := .tuple #[.agg (oA ⟨(S.length : Int) + 1, A9, n0 + 1, c9, 9⟩), .agg (pA ⟨(S.length : Int), x⟩), .int .i64 0]) rfl rfl (by kernel_rfl) (by kernel_rfl) (by kernel_rfl) (fun _ _ _ h => h) (Or.inl ⟨by rfl, ?_⟩) hHeld ?_
      · intro w hSw; (try dsimp only at hSw); go_simp
      try simp only [Act.put, List.setIfInBounds_toArray, List.set_cons_zero, List.set_cons_succ]
      refine wpAnyH_takeL (i := 8) (d := some 46) (v := .agg (oA ⟨(S.length : Int) + 1, A9, n0 + 1, c9, 9⟩)) rfl rfl (by kernel_rfl) (by kernel_rfl) (by kernel_rfl) (fun _ _ _ h => h) (Or.inl ⟨by rfl, ?_⟩) hHeld ?_
      · intro w hSw; (try dsimp only at hSw); go_simp
      try simp only [Act.put, List.setIfInBounds_toArray, List.set_cons_zero, List.set_cons_succ]
      refine wpAnyH_takeL (i := 9) (d := some 47) (v := .agg (pA ⟨(S.length : Int), x⟩)) rfl rfl (by kernel_rfl) (by kernel_rfl) (by kernel_rfl) (fun _ _ _ h => h) (Or.inl ⟨by rfl, ?_⟩) hHeld ?_
      · intro w hSw; (try dsimp only at hSw); go_simp
      try simp only [Act.put, List.setIfInBounds_toArray, List.set_cons_zero, List.set_cons_succ]
      refine wpAnyH_takeL (i := 10) (d := some 48) (v := .int .i64 0) rfl rfl (by kernel_rfl) (by kernel_rfl) (by kernel_rfl) (fun _ _ _ h => h) (Or.inl ⟨by rfl, ?_⟩) hHeld ?_
      · intro w hSw; (try dsimp only at hSw); go_simp
      try simp only [Act.put, List.setIfInBounds_toArray, List.set_cons_zero, List.set_cons_succ]
      refine wpAnyH_ready (rs := [11, 12]) (by kernel_rfl) (by simp) ?_
      refine AllReadyH.cons rfl (fun K hK => ?_) (AllReadyH.cons rfl (fun K hK => ?_) AllReadyH.nil)
      · skip
        refine rd_alloc rfl 39 rfl (some 5) rfl (oA zeroO) zero_ou ?_
        refine ⟨fun V14 g14 n14 f14 => ?_⟩
        have ne14_k := f14.ne r10_k
        have ne14_s := f14.ne r10_s
        have no14_s0 := SO.fresh r9_s0 (Nat.le_of_eq f14.at_)
        have no14_s1 := SO.fresh r9_s1 (Nat.le_of_eq f14.at_)
        have no14_s2 := SO.fresh r9_s2 (Nat.le_of_eq f14.at_)
        have no14_s3 := SO.fresh r9_s3 (Nat.le_of_eq f14.at_)
        have no14_s9 := SO.fresh sm8_s9 (Nat.le_of_eq f14.at_)
        have up14 : w.heap.size ≤ g14 := f14.up l10
        have bl14 := f14.bel
        clear f14
        have r15_s0 := SO.on r9_s0 bl14
        have r15_s1 := SO.on r9_s1 bl14
        have r15_s2 := SO.on r9_s2 bl14
        have r15_s3 := SO.on r9_s3 bl14
        have r15_s9 := SO.on sm8_s9 bl14
        have r16_k := le_on r10_k bl14
        have r16_s := le_on r10_s bl14
        have l16 := le_tr l10 bl14
        clear r10_k r10_s l10
        clear r9_s0 r9_s1 r9_s2 r9_s3 sm8_s9
        clear bl14
        have y17 := Lib.hid (show (fun V : World => CB V b 42 (kA ⟨⟨(S.length : Int), A0, n0, c0, 9⟩, (h : Int), A1, S.length, c1, A2, h, c2, A3, S.length, c3⟩) ∧ CB V g1 45 (sA ⟨kd, x, at_⟩)) V14 from ⟨r16_k, r16_s⟩)
        refine hK.out _ _ y17.out (fun hHeld => ?_)
        clear hK K y17
        try simp only [Act.put, List.setIfInBounds_toArray, List.set_cons_zero, List.set_cons_succ]
        refine wpAnyH_ready (rs := [12]) (by kernel_rfl) (by simp) ?_
        refine AllReadyH.cons rfl (fun K hK => ?_) AllReadyH.nil
        refine rd_alloc rfl 30 rfl (some 6) rfl (pA zeroP) zero_pk ?_
        refine ⟨fun V18 g18 n18 f18 => ?_⟩
        have ne18_k := f18.ne r16_k
        have ne18_s := f18.ne r16_s
        have ne18_o5 := f18.ne n14
        have no18_s0 := SO.fresh r15_s0 (Nat.le_of_eq f18.at_)
        have no18_s1 := SO.fresh r15_s1 (Nat.le_of_eq f18.at_)
        have no18_s2 := SO.fresh r15_s2 (Nat.le_of_eq f18.at_)
        have no18_s3 := SO.fresh r15_s3 (Nat.le_of_eq f18.at_)
        have no18_s9 := SO.fresh r15_s9 (Nat.le_of_eq f18.at_)
        have up18 : w.heap.size ≤ g18 := f18.up l16
        have bl18 := f18.bel
        clear f18
        have r19_s0 := SO.on r15_s0 bl18
        have r19_s1 := SO.on r15_s1 bl18
        have r19_s2 := SO.on r15_s2 bl18
        have r19_s3 := SO.on r15_s3 bl18
        have r19_s9 := SO.on r15_s9 bl18
        have r20_k := le_on r16_k bl18
        have r20_s := le_on r16_s bl18
        have r20_o5 := le_on n14 bl18
        have l20 := le_tr l16 bl18
        clear r16_k r16_s n14 l16
        clear r15_s0 r15_s1 r15_s2 r15_s3 r15_s9
        clear bl18
        have y21 := Lib.hid (show (fun V : World => CB V b 42 (kA ⟨⟨(S.length : Int), A0, n0, c0, 9⟩, (h : Int), A1, S.length, c1, A2, h, c2, A3, S.length, c3⟩) ∧ CB V g1 45 (sA ⟨kd, x, at_⟩)) V18 from ⟨r20_k, r20_s⟩)
        refine hK.out _ _ y21.out (fun hHeld => ?_)
        clear hK K y21
        try simp only [Act.put, List.setIfInBounds_toArray, List.set_cons_zero, List.set_cons_succ]
        refine wpAnyH_ready (rs := [13]) (by kernel_rfl) (by simp) ?_
        refine AllReadyH.cons rfl (fun K hK => ?_) AllReadyH.nil
        refine rd_store rfl 39 _ _ rfl none rfl g14 (oA ⟨(S.length : Int) + 1, A9, n0 + 1, c9, 9⟩) rfl rfl r20_o5 Try.zOu rfl (oA_one _) ?_
        refine ⟨fun V22 n22 k22 => ?_⟩
        have m22_k := k22.on r20_k ne14_k
        have m22_s := k22.on r20_s ne14_s
        have m22_p6 := k22.on n18 (Ne.symm ne18_o5)
        have m22_s0 := SO.wr r19_s0 k22 no14_s0
        have m22_s1 := SO.wr r19_s1 k22 no14_s1
        have m22_s2 := SO.wr r19_s2 k22 no14_s2
        have m22_s3 := SO.wr r19_s3 k22 no14_s3
        have m22_s9 := SO.wr r19_s9 k22 no14_s9
        have o22 := k22.bel _ _ l20 up14
        clear k22
        clear r20_o5 r20_k r20_s n18 r19_s0 r19_s1 r19_s2 r19_s3 r19_s9 l20
        have y23 := Lib.hid (show (fun V : World => CB V b 42 (kA ⟨⟨(S.length : Int), A0, n0, c0, 9⟩, (h : Int), A1, S.length, c1, A2, h, c2, A3, S.length, c3⟩) ∧ CB V g1 45 (sA ⟨kd, x, at_⟩)) V22 from ⟨m22_k, m22_s⟩)
        refine hK.out _ _ y23.out (fun hHeld => ?_)
        clear hK K y23
        try simp only [Act.put, List.setIfInBounds_toArray, List.set_cons_zero, List.set_cons_succ]
        refine wpAnyH_ready (rs := [14]) (by kernel_rfl) (by simp) ?_
        refine AllReadyH.cons rfl (fun K hK => ?_) AllReadyH.nil
        refine rd_store rfl 30 _ _ rfl none rfl g18 (pA ⟨(S.length : Int), x⟩) rfl rfl m22_p6 Try.zPk rfl (pA_one _) ?_
        refine ⟨fun V24 n24 k24 => ?_⟩
        have m24_k := k24.on m22_k ne18_k
        have m24_s := k24.on m22_s ne18_s
        have m24_o5 := k24.on n22 ne18_o5
        have m24_s0 := SO.wr m22_s0 k24 no18_s0
        have m24_s1 := SO.wr m22_s1 k24 no18_s1
        have m24_s2 := SO.wr m22_s2 k24 no18_s2
        have m24_s3 := SO.wr m22_s3 k24 no18_s3
        have m24_s9 := SO.wr m22_s9 k24 no18_s9
        have o24 := k24.bel _ _ o22 up18
        clear k24
        clear m22_p6 m22_k m22_s n22 m22_s0 m22_s1 m22_s2 m22_s3 m22_s9 o22
        have y25 := Lib.hid (show (fun V : World => CB V b 42 (kA ⟨⟨(S.length : Int), A0, n0, c0, 9⟩, (h : Int), A1, S.length, c1, A2, h, c2, A3, S.length, c3⟩) ∧ CB V g1 45 (sA ⟨kd, x, at_⟩)) V24 from ⟨m24_k, m24_s⟩)
        refine hK.out _ _ y25.out (fun hHeld => ?_)
        clear hK K y25
        try simp only [Act.put, List.setIfInBounds_toArray, List.set_cons_zero, List.set_cons_succ]
        refine wpAnyH_takeL (i := 15) (d := some 7) (v := .int .i64 0) rfl rfl (by kernel_rfl) (by kernel_rfl) (by kernel_rfl) (fun _ _ _ h => h) (Or.inl ⟨by rfl, ?_⟩) hHeld ?_
        · intro w hSw; (try dsimp only at hSw); go_simp
        try simp only [Act.put, List.setIfInBounds_toArray, List.set_cons_zero, List.set_cons_succ]
        refine wpAnyH_done (by kernel_rfl) ?_ _
        go_wp2_with fail
        go_meet
        case rel => exact ⟨g14, g18, A9, c9, G9, rfl, rfl, rfl, m24_o5, n24, m24_k, m24_s, m24_s9, m24_s1, m24_s2, m24_s3, ap8_s3, o24, up14, up18, no18_s9, no18_s3⟩
      · skip
        refine rd_alloc rfl 30 rfl (some 6) rfl (pA zeroP) zero_pk ?_
        refine ⟨fun V14 g14 n14 f14 => ?_⟩
        have ne14_k := f14.ne r10_k
        have ne14_s := f14.ne r10_s
        have no14_s0 := SO.fresh r9_s0 (Nat.le_of_eq f14.at_)
        have no14_s1 := SO.fresh r9_s1 (Nat.le_of_eq f14.at_)
        have no14_s2 := SO.fresh r9_s2 (Nat.le_of_eq f14.at_)
        have no14_s3 := SO.fresh r9_s3 (Nat.le_of_eq f14.at_)
        have no14_s9 := SO.fresh sm8_s9 (Nat.le_of_eq f14.at_)
        have up14 : w.heap.size ≤ g14 := f14.up l10
        have bl14 := f14.bel
        clear f14
        have r15_s0 := SO.on r9_s0 bl14
        have r15_s1 := SO.on r9_s1 bl14
        have r15_s2 := SO.on r9_s2 bl14
        have r15_s3 := SO.on r9_s3 bl14
        have r15_s9 := SO.on sm8_s9 bl14
        have r16_k := le_on r10_k bl14
        have r16_s := le_on r10_s bl14
        have l16 := le_tr l10 bl14
        clear r10_k r10_s l10
        clear r9_s0 r9_s1 r9_s2 r9_s3 sm8_s9
        clear bl14
        have y17 := Lib.hid (show (fun V : World => CB V b 42 (kA ⟨⟨(S.length : Int), A0, n0, c0, 9⟩, (h : Int), A1, S.length, c1, A2, h, c2, A3, S.length, c3⟩) ∧ CB V g1 45 (sA ⟨kd, x, at_⟩)) V14 from ⟨r16_k, r16_s⟩)
        refine hK.out _ _ y17.out (fun hHeld => ?_)
        clear hK K y17
        try simp only [Act.put, List.setIfInBounds_toArray, List.set_cons_zero, List.set_cons_succ]
        refine wpAnyH_ready (rs := [11]) (by kernel_rfl) (by simp) ?_
        refine AllReadyH.cons rfl (fun K hK => ?_) AllReadyH.nil
        refine rd_alloc rfl 39 rfl (some 5) rfl (oA zeroO) zero_ou ?_
        refine ⟨fun V18 g18 n18 f18 => ?_⟩
        have ne18_k := f18.ne r16_k
        have ne18_s := f18.ne r16_s
        have ne18_p6 := f18.ne n14
        have no18_s0 := SO.fresh r15_s0 (Nat.le_of_eq f18.at_)
        have no18_s1 := SO.fresh r15_s1 (Nat.le_of_eq f18.at_)
        have no18_s2 := SO.fresh r15_s2 (Nat.le_of_eq f18.at_)
        have no18_s3 := SO.fresh r15_s3 (Nat.le_of_eq f18.at_)
        have no18_s9 := SO.fresh r15_s9 (Nat.le_of_eq f18.at_)
        have up18 : w.heap.size ≤ g18 := f18.up l16
        have bl18 := f18.bel
        clear f18
        have r19_s0 := SO.on r15_s0 bl18
        have r19_s1 := SO.on r15_s1 bl18
        have r19_s2 := SO.on r15_s2 bl18
        have r19_s3 := SO.on r15_s3 bl18
        have r19_s9 := SO.on r15_s9 bl18
        have r20_k := le_on r16_k bl18
        have r20_s := le_on r16_s bl18
        have r20_p6 := le_on n14 bl18
        have l20 := le_tr l16 bl18
        clear r16_k r16_s n14 l16
        clear r15_s0 r15_s1 r15_s2 r15_s3 r15_s9
        clear bl18
        have y21 := Lib.hid (show (fun V : World => CB V b 42 (kA ⟨⟨(S.length : Int), A0, n0, c0, 9⟩, (h : Int), A1, S.length, c1, A2, h, c2, A3, S.length, c3⟩) ∧ CB V g1 45 (sA ⟨kd, x, at_⟩)) V18 from ⟨r20_k, r20_s⟩)
        refine hK.out _ _ y21.out (fun hHeld => ?_)
        clear hK K y21
        try simp only [Act.put, List.setIfInBounds_toArray, List.set_cons_zero, List.set_cons_succ]
        refine wpAnyH_ready (rs := [13]) (by kernel_rfl) (by simp) ?_
        refine AllReadyH.cons rfl (fun K hK => ?_) AllReadyH.nil
        refine rd_store rfl 39 _ _ rfl none rfl g18 (oA ⟨(S.length : Int) + 1, A9, n0 + 1, c9, 9⟩) rfl rfl n18 Try.zOu rfl (oA_one _) ?_
        refine ⟨fun V22 n22 k22 => ?_⟩
        have m22_k := k22.on r20_k ne18_k
        have m22_s := k22.on r20_s ne18_s
        have m22_p6 := k22.on r20_p6 ne18_p6
        have m22_s0 := SO.wr r19_s0 k22 no18_s0
        have m22_s1 := SO.wr r19_s1 k22 no18_s1
        have m22_s2 := SO.wr r19_s2 k22 no18_s2
        have m22_s3 := SO.wr r19_s3 k22 no18_s3
        have m22_s9 := SO.wr r19_s9 k22 no18_s9
        have o22 := k22.bel _ _ l20 up18
        clear k22
        clear n18 r20_k r20_s r20_p6 r19_s0 r19_s1 r19_s2 r19_s3 r19_s9 l20
        have y23 := Lib.hid (show (fun V : World => CB V b 42 (kA ⟨⟨(S.length : Int), A0, n0, c0, 9⟩, (h : Int), A1, S.length, c1, A2, h, c2, A3, S.length, c3⟩) ∧ CB V g1 45 (sA ⟨kd, x, at_⟩)) V22 from ⟨m22_k, m22_s⟩)
        refine hK.out _ _ y23.out (fun hHeld => ?_)
        clear hK K y23
        try simp only [Act.put, List.setIfInBounds_toArray, List.set_cons_zero, List.set_cons_succ]
        refine wpAnyH_ready (rs := [14]) (by kernel_rfl) (by simp) ?_
        refine AllReadyH.cons rfl (fun K hK => ?_) AllReadyH.nil
        refine rd_store rfl 30 _ _ rfl none rfl g14 (pA ⟨(S.length : Int), x⟩) rfl rfl m22_p6 Try.zPk rfl (pA_one _) ?_
        refine ⟨fun V24 n24 k24 => ?_⟩
        have m24_k := k24.on m22_k ne14_k
        have m24_s := k24.on m22_s ne14_s
        have m24_o5 := k24.on n22 (Ne.symm ne18_p6)
        have m24_s0 := SO.wr m22_s0 k24 no14_s0
        have m24_s1 := SO.wr m22_s1 k24 no14_s1
        have m24_s2 := SO.wr m22_s2 k24 no14_s2
        have m24_s3 := SO.wr m22_s3 k24 no14_s3
        have m24_s9 := SO.wr m22_s9 k24 no14_s9
        have o24 := k24.bel _ _ o22 up14
        clear k24
        clear m22_p6 m22_k m22_s n22 m22_s0 m22_s1 m22_s2 m22_s3 m22_s9 o22
        have y25 := Lib.hid (show (fun V : World => CB V b 42 (kA ⟨⟨(S.length : Int), A0, n0, c0, 9⟩, (h : Int), A1, S.length, c1, A2, h, c2, A3, S.length, c3⟩) ∧ CB V g1 45 (sA ⟨kd, x, at_⟩)) V24 from ⟨m24_k, m24_s⟩)
        refine hK.out _ _ y25.out (fun hHeld => ?_)
        clear hK K y25
        try simp only [Act.put, List.setIfInBounds_toArray, List.set_cons_zero, List.set_cons_succ]
        refine wpAnyH_takeL (i := 15) (d := some 7) (v := .int .i64 0) rfl rfl (by kernel_rfl) (by kernel_rfl) (by kernel_rfl) (fun _ _ _ h => h) (Or.inl ⟨by rfl, ?_⟩) hHeld ?_
        · intro w hSw; (try dsimp only at hSw); go_simp
        try simp only [Act.put, List.setIfInBounds_toArray, List.set_cons_zero, List.set_cons_succ]
        refine wpAnyH_done (by kernel_rfl) ?_ _
        go_wp2_with fail
        go_meet
        case rel => exact ⟨g18, g14, A9, c9, G9, rfl, rfl, rfl, m24_o5, n24, m24_k, m24_s, m24_s9, m24_s1, m24_s2, m24_s3, ap8_s3, o24, up18, up14, no14_s9, no14_s3⟩
    · skip
      refine rd_alloc rfl 39 rfl (some 5) rfl (oA zeroO) zero_ou ?_
      refine ⟨fun V8 g8 n8 f8 => ?_⟩
      have ne8_k := f8.ne r7_k
      have ne8_s := f8.ne r7_s
      have no8_s0 := SO.fresh r6_s0 (Nat.le_of_eq f8.at_)
      have no8_s1 := SO.fresh r6_s1 (Nat.le_of_eq f8.at_)
      have no8_s2 := SO.fresh r6_s2 (Nat.le_of_eq f8.at_)
      have no8_s3 := SO.fresh r6_s3 (Nat.le_of_eq f8.at_)
      have up8 : w.heap.size ≤ g8 := f8.up l7
      have bl8 := f8.bel
      clear f8
      have r9_s0 := SO.on r6_s0 bl8
      have r9_s1 := SO.on r6_s1 bl8
      have r9_s2 := SO.on r6_s2 bl8
      have r9_s3 := SO.on r6_s3 bl8
      have r10_k := le_on r7_k bl8
      have r10_s := le_on r7_s bl8
      have l10 := le_tr l7 bl8
      clear r7_k r7_s l7
      clear r6_s0 r6_s1 r6_s2 r6_s3
      clear bl8
      have y11 := Lib.hid (show (fun V : World => CB V b 42 (kA ⟨⟨(S.length : Int), A0, n0, c0, 9⟩, (h : Int), A1, S.length, c1, A2, h, c2, A3, S.length, c3⟩) ∧ CB V g1 45 (sA ⟨kd, x, at_⟩)) V8 from ⟨r10_k, r10_s⟩)
      refine hK.out _ _ y11.out (fun hHeld => ?_)
      clear hK K y11
      try simp only [Act.put, List.setIfInBounds_toArray, List.set_cons_zero, List.set_cons_succ]
      refine wpAnyH_ready (rs := [6, 12]) (by kernel_rfl) (by simp) ?_
      refine AllReadyH.cons rfl (fun K hK => ?_) (AllReadyH.cons rfl (fun K hK => ?_) AllReadyH.nil)
      · skip
        go_simp
        have lt12_k := CB.lt r10_k
        have lt12_s := CB.lt r10_s
        have lt12_o5 := CB.lt n8
        have lb12 : w.heap.size ≤ V8.heap.size := Below.size (B := w.heap.size) l10
        have lu12_s0 : ∀ g, G0 = some g → g < V8.heap.size := fun g e => r9_s0.seg.lt g e
        have lu12_s3 : ∀ g, G3 = some g → g < V8.heap.size := fun g e => r9_s3.seg.lt g e
        (with_reducible refine (S1 _ (r9_s0).rr).mono ?_)
        rintro e u12 ⟨A9, c9, G9, rfl, so9, b12⟩
        have r13_s0 := SO.on r9_s0 b12
        have r13_s1 := SO.on r9_s1 b12
        have r13_s2 := SO.on r9_s2 b12
        have r13_s3 := SO.on r9_s3 b12
        have r14_k := le_on r10_k b12
        have r14_s := le_on r10_s b12
        have r14_o5 := le_on n8 b12
        have l14 := le_tr l10 b12
        clear r10_k r10_s n8 l10
        clear r9_s0 r9_s1 r9_s2 r9_s3
        clear b12
        have na15 := SO.above so9 lt12_k
        have na16 := SO.above so9 lt12_s
        have na17 := SO.above so9 lt12_o5
        have ap12_s0 := ap_new so9 lu12_s0
        have ap12_s3 := ap_new so9 lu12_s3
        have sm12_s9 := SO.mono so9 lb12
        clear so9
        clear lb12 lt12_k lt12_s lt12_o5 lu12_s0 lu12_s3
        go_wp2_with fail
        have y18 := Lib.hid (show (fun V : World => CB V b 42 (kA ⟨⟨(S.length : Int), A0, n0, c0, 9⟩, (h : Int), A1, S.length, c1, A2, h, c2, A3, S.length, c3⟩) ∧ CB V g1 45 (sA ⟨kd, x, at_⟩)) u12 from ⟨r14_k, r14_s⟩)
        refine hK.out _ _ y18.out (fun hHeld => ?_)
        clear hK K y18
        try simp only [Act.put, List.setIfInBounds_toArray, List.set_cons_zero, List.set_cons_succ]
        refine wpAnyH_takeL (i := 7) (d := some 38) (v := .tuple #[.agg (oA ⟨(S.length : Int) + 1, A9, n0 + 1, c9, 9⟩), .agg (pA ⟨(S.length : Int), x⟩), .int .i64 0]) rfl rfl (by kernel_rfl) (by kernel_rfl) (by kernel_rfl) (fun _ _ _ h => h) (Or.inl ⟨by rfl, ?_⟩) hHeld ?_
        · intro w hSw; (try dsimp only at hSw); go_simp
        try simp only [Act.put, List.setIfInBounds_toArray, List.set_cons_zero, List.set_cons_succ]
        refine wpAnyH_takeL (i := 8) (d := some 46) (v := .agg (oA ⟨(S.length : Int) + 1, A9, n0 + 1, c9, 9⟩)) rfl rfl (by kernel_rfl) (by kernel_rfl) (by kernel_rfl) (fun _ _ _ h => h) (Or.inl ⟨by rfl, ?_⟩) hHeld ?_
        · intro w hSw; (try dsimp only at hSw); go_simp
        try simp only [Act.put, List.setIfInBounds_toArray, List.set_cons_zero, List.set_cons_succ]
        refine wpAnyH_takeL (i := 9) (d := some 47) (v := .agg (pA ⟨(S.length : Int), x⟩)) rfl rfl (by kernel_rfl) (by kernel_rfl) (by kernel_rfl) (fun _ _ _ h => h) (Or.inl ⟨by rfl, ?_⟩) hHeld ?_
        · intro w hSw; (try dsimp only at hSw); go_simp
        try simp only [Act.put, List.setIfInBounds_toArray, List.set_cons_zero, List.set_cons_succ]
        refine wpAnyH_takeL (i := 10) (d := some 48) (v := .int .i64 0) rfl rfl (by kernel_rfl) (by kernel_rfl) (by kernel_rfl) (fun _ _ _ h => h) (Or.inl ⟨by rfl, ?_⟩) hHeld ?_
        · intro w hSw; (try dsimp only at hSw); go_simp
        try simp only [Act.put, List.setIfInBounds_toArray, List.set_cons_zero, List.set_cons_succ]
        refine wpAnyH_ready (rs := [12]) (by kernel_rfl) (by simp) ?_
        refine AllReadyH.cons rfl (fun K hK => ?_) AllReadyH.nil
        refine rd_alloc rfl 30 rfl (some 6) rfl (pA zeroP) zero_pk ?_
        refine ⟨fun V19 g19 n19 f19 => ?_⟩
        have ne19_k := f19.ne r14_k
        have ne19_s := f19.ne r14_s
        have ne19_o5 := f19.ne r14_o5
        have no19_s0 := SO.fresh r13_s0 (Nat.le_of_eq f19.at_)
        have no19_s1 := SO.fresh r13_s1 (Nat.le_of_eq f19.at_)
        have no19_s2 := SO.fresh r13_s2 (Nat.le_of_eq f19.at_)
        have no19_s3 := SO.fresh r13_s3 (Nat.le_of_eq f19.at_)
        have no19_s9 := SO.fresh sm12_s9 (Nat.le_of_eq f19.at_)
        have up19 : w.heap.size ≤ g19 := f19.up l14
        have bl19 := f19.bel
        clear f19
        have r20_s0 := SO.on r13_s0 bl19
        have r20_s1 := SO.on r13_s1 bl19
        have r20_s2 := SO.on r13_s2 bl19
        have r20_s3 := SO.on r13_s3 bl19
        have r20_s9 := SO.on sm12_s9 bl19
        have r21_k := le_on r14_k bl19
        have r21_s := le_on r14_s bl19
        have r21_o5 := le_on r14_o5 bl19
        have l21 := le_tr l14 bl19
        clear r14_k r14_s r14_o5 l14
        clear r13_s0 r13_s1 r13_s2 r13_s3 sm12_s9
        clear bl19
        have y22 := Lib.hid (show (fun V : World => CB V b 42 (kA ⟨⟨(S.length : Int), A0, n0, c0, 9⟩, (h : Int), A1, S.length, c1, A2, h, c2, A3, S.length, c3⟩) ∧ CB V g1 45 (sA ⟨kd, x, at_⟩)) V19 from ⟨r21_k, r21_s⟩)
        refine hK.out _ _ y22.out (fun hHeld => ?_)
        clear hK K y22
        try simp only [Act.put, List.setIfInBounds_toArray, List.set_cons_zero, List.set_cons_succ]
        refine wpAnyH_ready (rs := [13]) (by kernel_rfl) (by simp) ?_
        refine AllReadyH.cons rfl (fun K hK => ?_) AllReadyH.nil
        refine rd_store rfl 39 _ _ rfl none rfl g8 (oA ⟨(S.length : Int) + 1, A9, n0 + 1, c9, 9⟩) rfl rfl r21_o5 Try.zOu rfl (oA_one _) ?_
        refine ⟨fun V23 n23 k23 => ?_⟩
        have m23_k := k23.on r21_k ne8_k
        have m23_s := k23.on r21_s ne8_s
        have m23_p6 := k23.on n19 (Ne.symm ne19_o5)
        have m23_s0 := SO.wr r20_s0 k23 no8_s0
        have m23_s1 := SO.wr r20_s1 k23 no8_s1
        have m23_s2 := SO.wr r20_s2 k23 no8_s2
        have m23_s3 := SO.wr r20_s3 k23 no8_s3
        have m23_s9 := SO.wr r20_s9 k23 na17
        have o23 := k23.bel _ _ l21 up8
        clear k23
        clear r21_o5 r21_k r21_s n19 r20_s0 r20_s1 r20_s2 r20_s3 r20_s9 l21
        have y24 := Lib.hid (show (fun V : World => CB V b 42 (kA ⟨⟨(S.length : Int), A0, n0, c0, 9⟩, (h : Int), A1, S.length, c1, A2, h, c2, A3, S.length, c3⟩) ∧ CB V g1 45 (sA ⟨kd, x, at_⟩)) V23 from ⟨m23_k, m23_s⟩)
        refine hK.out _ _ y24.out (fun hHeld => ?_)
        clear hK K y24
        try simp only [Act.put, List.setIfInBounds_toArray, List.set_cons_zero, List.set_cons_succ]
        refine wpAnyH_ready (rs := [14]) (by kernel_rfl) (by simp) ?_
        refine AllReadyH.cons rfl (fun K hK => ?_) AllReadyH.nil
        refine rd_store rfl 30 _ _ rfl none rfl g19 (pA ⟨(S.length : Int), x⟩) rfl rfl m23_p6 Try.zPk rfl (pA_one _) ?_
        refine ⟨fun V25 n25 k25 => ?_⟩
        have m25_k := k25.on m23_k ne19_k
        have m25_s := k25.on m23_s ne19_s
        have m25_o5 := k25.on n23 ne19_o5
        have m25_s0 := SO.wr m23_s0 k25 no19_s0
        have m25_s1 := SO.wr m23_s1 k25 no19_s1
        have m25_s2 := SO.wr m23_s2 k25 no19_s2
        have m25_s3 := SO.wr m23_s3 k25 no19_s3
        have m25_s9 := SO.wr m23_s9 k25 no19_s9
        have o25 := k25.bel _ _ o23 up19
        clear k25
        clear m23_p6 m23_k m23_s n23 m23_s0 m23_s1 m23_s2 m23_s3 m23_s9 o23
        have y26 := Lib.hid (show (fun V : World => CB V b 42 (kA ⟨⟨(S.length : Int), A0, n0, c0, 9⟩, (h : Int), A1, S.length, c1, A2, h, c2, A3, S.length, c3⟩) ∧ CB V g1 45 (sA ⟨kd, x, at_⟩)) V25 from ⟨m25_k, m25_s⟩)
        refine hK.out _ _ y26.out (fun hHeld => ?_)
        clear hK K y26
        try simp only [Act.put, List.setIfInBounds_toArray, List.set_cons_zero, List.set_cons_succ]
        refine wpAnyH_takeL (i := 15) (d := some 7) (v := .int .i64 0) rfl rfl (by kernel_rfl) (by kernel_rfl) (by kernel_rfl) (fun _ _ _ h => h) (Or.inl ⟨by rfl, ?_⟩) hHeld ?_
        · intro w hSw; (try dsimp only at hSw); go_simp
        try simp only [Act.put, List.setIfInBounds_toArray, List.set_cons_zero, List.set_cons_succ]
        refine wpAnyH_done (by kernel_rfl) ?_ _
        go_wp2_with fail
        go_meet
        case rel => exact ⟨g8, g19, A9, c9, G9, rfl, rfl, rfl, m25_o5, n25, m25_k, m25_s, m25_s9, m25_s1, m25_s2, m25_s3, ap12_s3, o25, up8, up19, no19_s9, no19_s3⟩
      · skip
        refine rd_alloc rfl 30 rfl (some 6) rfl (pA zeroP) zero_pk ?_
        refine ⟨fun V12 g12 n12 f12 => ?_⟩
        have ne12_k := f12.ne r10_k
        have ne12_s := f12.ne r10_s
        have ne12_o5 := f12.ne n8
        have no12_s0 := SO.fresh r9_s0 (Nat.le_of_eq f12.at_)
        have no12_s1 := SO.fresh r9_s1 (Nat.le_of_eq f12.at_)
        have no12_s2 := SO.fresh r9_s2 (Nat.le_of_eq f12.at_)
        have no12_s3 := SO.fresh r9_s3 (Nat.le_of_eq f12.at_)
        have up12 : w.heap.size ≤ g12 := f12.up l10
        have bl12 := f12.bel
        clear f12
        have r13_s0 := SO.on r9_s0 bl12
        have r13_s1 := SO.on r9_s1 bl12
        have r13_s2 := SO.on r9_s2 bl12
        have r13_s3 := SO.on r9_s3 bl12
        have r14_k := le_on r10_k bl12
        have r14_s := le_on r10_s bl12
        have r14_o5 := le_on n8 bl12
        have l14 := le_tr l10 bl12
        clear r10_k r10_s n8 l10
        clear r9_s0 r9_s1 r9_s2 r9_s3
        clear bl12
        have y15 := Lib.hid (show (fun V : World => CB V b 42 (kA ⟨⟨(S.length : Int), A0, n0, c0, 9⟩, (h : Int), A1, S.length, c1, A2, h, c2, A3, S.length, c3⟩) ∧ CB V g1 45 (sA ⟨kd, x, at_⟩)) V12 from ⟨r14_k, r14_s⟩)
        refine hK.out _ _ y15.out (fun hHeld => ?_)
        clear hK K y15
        try simp only [Act.put, List.setIfInBounds_toArray, List.set_cons_zero, List.set_cons_succ]
        refine wpAnyH_ready (rs := [6]) (by kernel_rfl) (by simp) ?_
        refine AllReadyH.cons rfl (fun K hK => ?_) AllReadyH.nil
        go_simp
        have lt16_k := CB.lt r14_k
        have lt16_s := CB.lt r14_s
        have lt16_o5 := CB.lt r14_o5
        have lt16_p6 := CB.lt n12
        have lb16 : w.heap.size ≤ V12.heap.size := Below.size (B := w.heap.size) l14
        have lu16_s0 : ∀ g, G0 = some g → g < V12.heap.size := fun g e => r13_s0.seg.lt g e
        have lu16_s3 : ∀ g, G3 = some g → g < V12.heap.size := fun g e => r13_s3.seg.lt g e
        (with_reducible refine (S1 _ (r13_s0).rr).mono ?_)
        rintro e u16 ⟨A9, c9, G9, rfl, so9, b16⟩
        have r17_s0 := SO.on r13_s0 b16
        have r17_s1 := SO.on r13_s1 b16
        have r17_s2 := SO.on r13_s2 b16
        have r17_s3 := SO.on r13_s3 b16
        have r18_k := le_on r14_k b16
        have r18_s := le_on r14_s b16
        have r18_o5 := le_on r14_o5 b16
        have r18_p6 := le_on n12 b16
        have l18 := le_tr l14 b16
        clear r14_k r14_s r14_o5 n12 l14
        clear r13_s0 r13_s1 r13_s2 r13_s3
        clear b16
        have na19 := SO.above so9 lt16_k
        have na20 := SO.above so9 lt16_s
        have na21 := SO.above so9 lt16_o5
        have na22 := SO.above so9 lt16_p6
        have ap16_s0 := ap_new so9 lu16_s0
        have ap16_s3 := ap_new so9 lu16_s3
        have sm16_s9 := SO.mono so9 lb16
        clear so9
        clear lb16 lt16_k lt16_s lt16_o5 lt16_p6 lu16_s0 lu16_s3
        go_wp2_with fail
        have y23 := Lib.hid (show (fun V : World => CB V b 42 (kA ⟨⟨(S.length : Int), A0, n0, c0, 9⟩, (h : Int), A1, S.length, c1, A2, h, c2, A3, S.length, c3⟩) ∧ CB V g1 45 (sA ⟨kd, x, at_⟩)) u16 from ⟨r18_k, r18_s⟩)
        refine hK.out _ _ y23.out (fun hHeld => ?_)
        clear hK K y23
        try simp only [Act.put, List.setIfInBounds_toArray, List.set_cons_zero, List.set_cons_succ]
        refine wpAnyH_takeL (i := 7) (d := some 38) (v := .tuple #[.agg (oA ⟨(S.length : Int) + 1, A9, n0 + 1, c9, 9⟩), .agg (pA ⟨(S.length : Int), x⟩), .int .i64 0]) rfl rfl (by kernel_rfl) (by kernel_rfl) (by kernel_rfl) (fun _ _ _ h => h) (Or.inl ⟨by rfl, ?_⟩) hHeld ?_
        · intro w hSw; (try dsimp only at hSw); go_simp
        try simp only [Act.put, List.setIfInBounds_toArray, List.set_cons_zero, List.set_cons_succ]
        refine wpAnyH_takeL (i := 8) (d := some 46) (v := .agg (oA ⟨(S.length : Int) + 1, A9, n0 + 1, c9, 9⟩)) rfl rfl (by kernel_rfl) (by kernel_rfl) (by kernel_rfl) (fun _ _ _ h => h) (Or.inl ⟨by rfl, ?_⟩) hHeld ?_
        · intro w hSw; (try dsimp only at hSw); go_simp
        try simp only [Act.put, List.setIfInBounds_toArray, List.set_cons_zero, List.set_cons_succ]
        refine wpAnyH_takeL (i := 9) (d := some 47) (v := .agg (pA ⟨(S.length : Int), x⟩)) rfl rfl (by kernel_rfl) (by kernel_rfl) (by kernel_rfl) (fun _ _ _ h => h) (Or.inl ⟨by rfl, ?_⟩) hHeld ?_
        · intro w hSw; (try dsimp only at hSw); go_simp
        try simp only [Act.put, List.setIfInBounds_toArray, List.set_cons_zero, List.set_cons_succ]
        refine wpAnyH_takeL (i := 10) (d := some 48) (v := .int .i64 0) rfl rfl (by kernel_rfl) (by kernel_rfl) (by kernel_rfl) (fun _ _ _ h => h) (Or.inl ⟨by rfl, ?_⟩) hHeld ?_
        · intro w hSw; (try dsimp only at hSw); go_simp
        try simp only [Act.put, List.setIfInBounds_toArray, List.set_cons_zero, List.set_cons_succ]
        refine wpAnyH_ready (rs := [13]) (by kernel_rfl) (by simp) ?_
        refine AllReadyH.cons rfl (fun K hK => ?_) AllReadyH.nil
        refine rd_store rfl 39 _ _ rfl none rfl g8 (oA ⟨(S.length : Int) + 1, A9, n0 + 1, c9, 9⟩) rfl rfl r18_o5 Try.zOu rfl (oA_one _) ?_
        refine ⟨fun V24 n24 k24 => ?_⟩
        have m24_k := k24.on r18_k ne8_k
        have m24_s := k24.on r18_s ne8_s
        have m24_p6 := k24.on r18_p6 (Ne.symm ne12_o5)
        have m24_s0 := SO.wr r17_s0 k24 no8_s0
        have m24_s1 := SO.wr r17_s1 k24 no8_s1
        have m24_s2 := SO.wr r17_s2 k24 no8_s2
        have m24_s3 := SO.wr r17_s3 k24 no8_s3
        have m24_s9 := SO.wr sm16_s9 k24 na21
        have o24 := k24.bel _ _ l18 up8
        clear k24
        clear r18_o5 r18_k r18_s r18_p6 r17_s0 r17_s1 r17_s2 r17_s3 sm16_s9 l18
        have y25 := Lib.hid (show (fun V : World => CB V b 42 (kA ⟨⟨(S.length : Int), A0, n0, c0, 9⟩, (h : Int), A1, S.length, c1, A2, h, c2, A3, S.length, c3⟩) ∧ CB V g1 45 (sA ⟨kd, x, at_⟩)) V24 from ⟨m24_k, m24_s⟩)
        refine hK.out _ _ y25.out (fun hHeld => ?_)
        clear hK K y25
        try simp only [Act.put, List.setIfInBounds_toArray, List.set_cons_zero, List.set_cons_succ]
        refine wpAnyH_ready (rs := [14]) (by kernel_rfl) (by simp) ?_
        refine AllReadyH.cons rfl (fun K hK => ?_) AllReadyH.nil
        refine rd_store rfl 30 _ _ rfl none rfl g12 (pA ⟨(S.length : Int), x⟩) rfl rfl m24_p6 Try.zPk rfl (pA_one _) ?_
        refine ⟨fun V26 n26 k26 => ?_⟩
        have m26_k := k26.on m24_k ne12_k
        have m26_s := k26.on m24_s ne12_s
        have m26_o5 := k26.on n24 ne12_o5
        have m26_s0 := SO.wr m24_s0 k26 no12_s0
        have m26_s1 := SO.wr m24_s1 k26 no12_s1
        have m26_s2 := SO.wr m24_s2 k26 no12_s2
        have m26_s3 := SO.wr m24_s3 k26 no12_s3
        have m26_s9 := SO.wr m24_s9 k26 na22
        have o26 := k26.bel _ _ o24 up12
        clear k26
        clear m24_p6 m24_k m24_s n24 m24_s0 m24_s1 m24_s2 m24_s3 m24_s9 o24
        have y27 := Lib.hid (show (fun V : World => CB V b 42 (kA ⟨⟨(S.length : Int), A0, n0, c0, 9⟩, (h : Int), A1, S.length, c1, A2, h, c2, A3, S.length, c3⟩) ∧ CB V g1 45 (sA ⟨kd, x, at_⟩)) V26 from ⟨m26_k, m26_s⟩)
        refine hK.out _ _ y27.out (fun hHeld => ?_)
        clear hK K y27
        try simp only [Act.put, List.setIfInBounds_toArray, List.set_cons_zero, List.set_cons_succ]
        refine wpAnyH_takeL (i := 15) (d := some 7) (v := .int .i64 0) rfl rfl (by kernel_rfl) (by kernel_rfl) (by kernel_rfl) (fun _ _ _ h => h) (Or.inl ⟨by rfl, ?_⟩) hHeld ?_
        · intro w hSw; (try dsimp only at hSw); go_simp
        try simp only [Act.put, List.setIfInBounds_toArray, List.set_cons_zero, List.set_cons_succ]
        refine wpAnyH_done (by kernel_rfl) ?_ _
        go_wp2_with fail
        go_meet
        case rel => exact ⟨g8, g12, A9, c9, G9, rfl, rfl, rfl, m26_o5, n26, m26_k, m26_s, m26_s9, m26_s1, m26_s2, m26_s3, ap16_s3, o26, up8, up12, na22, no12_s3⟩
    · skip
      refine rd_alloc rfl 30 rfl (some 6) rfl (pA zeroP) zero_pk ?_
      refine ⟨fun V8 g8 n8 f8 => ?_⟩
      have ne8_k := f8.ne r7_k
      have ne8_s := f8.ne r7_s
      have no8_s0 := SO.fresh r6_s0 (Nat.le_of_eq f8.at_)
      have no8_s1 := SO.fresh r6_s1 (Nat.le_of_eq f8.at_)
      have no8_s2 := SO.fresh r6_s2 (Nat.le_of_eq f8.at_)
      have no8_s3 := SO.fresh r6_s3 (Nat.le_of_eq f8.at_)
      have up8 : w.heap.size ≤ g8 := f8.up l7
      have bl8 := f8.bel
      clear f8
      have r9_s0 := SO.on r6_s0 bl8
      have r9_s1 := SO.on r6_s1 bl8
      have r9_s2 := SO.on r6_s2 bl8
      have r9_s3 := SO.on r6_s3 bl8
      have r10_k := le_on r7_k bl8
      have r10_s := le_on r7_s bl8
      have l10 := le_tr l7 bl8
      clear r7_k r7_s l7
      clear r6_s0 r6_s1 r6_s2 r6_s3
      clear bl8
      have y11 := Lib.hid (show (fun V : World => CB V b 42 (kA ⟨⟨(S.length : Int), A0, n0, c0, 9⟩, (h : Int), A1, S.length, c1, A2, h, c2, A3, S.length, c3⟩) ∧ CB V g1 45 (sA ⟨kd, x, at_⟩)) V8 from ⟨r10_k, r10_s⟩)
      refine hK.out _ _ y11.out (fun hHeld => ?_)
      clear hK K y11
      try simp only [Act.put, List.setIfInBounds_toArray, List.set_cons_zero, List.set_cons_succ]
      refine wpAnyH_ready (rs := [6, 11]) (by kernel_rfl) (by simp) ?_
      refine AllReadyH.cons rfl (fun K hK => ?_) (AllReadyH.cons rfl (fun K hK => ?_) AllReadyH.nil)
      · skip
        go_simp
        have lt12_k := CB.lt r10_k
        have lt12_s := CB.lt r10_s
        have lt12_p6 := CB.lt n8
        have lb12 : w.heap.size ≤ V8.heap.size := Below.size (B := w.heap.size) l10
        have lu12_s0 : ∀ g, G0 = some g → g < V8.heap.size := fun g e => r9_s0.seg.lt g e
        have lu12_s3 : ∀ g, G3 = some g → g < V8.heap.size := fun g e => r9_s3.seg.lt g e
        (with_reducible refine (S1 _ (r9_s0).rr).mono ?_)
        rintro e u12 ⟨A9, c9, G9, rfl, so9, b12⟩
        have r13_s0 := SO.on r9_s0 b12
        have r13_s1 := SO.on r9_s1 b12
        have r13_s2 := SO.on r9_s2 b12
        have r13_s3 := SO.on r9_s3 b12
        have r14_k := le_on r10_k b12
        have r14_s := le_on r10_s b12
        have r14_p6 := le_on n8 b12
        have l14 := le_tr l10 b12
        clear r10_k r10_s n8 l10
        clear r9_s0 r9_s1 r9_s2 r9_s3
        clear b12
        have na15 := SO.above so9 lt12_k
        have na16 := SO.above so9 lt12_s
        have na17 := SO.above so9 lt12_p6
        have ap12_s0 := ap_new so9 lu12_s0
        have ap12_s3 := ap_new so9 lu12_s3
        have sm12_s9 := SO.mono so9 lb12
        clear so9
        clear lb12 lt12_k lt12_s lt12_p6 lu12_s0 lu12_s3
        go_wp2_with fail
        have y18 := Lib.hid (show (fun V : World => CB V b 42 (kA ⟨⟨(S.length : Int), A0, n0, c0, 9⟩, (h : Int), A1, S.length, c1, A2, h, c2, A3, S.length, c3⟩) ∧ CB V g1 45 (sA ⟨kd, x, at_⟩)) u12 from ⟨r14_k, r14_s⟩)
        refine hK.out _ _ y18.out (fun hHeld => ?_)
        clear hK K y18
        try simp only [Act.put, List.setIfInBounds_toArray, List.set_cons_zero, List.set_cons_succ]
        refine wpAnyH_takeL (i := 7) (d := some 38) (v := .tuple #[.agg (oA ⟨(S.length : Int) + 1, A9, n0 + 1, c9, 9⟩), .agg (pA ⟨(S.length : Int), x⟩), .int .i64 0]) rfl rfl (by kernel_rfl) (by kernel_rfl) (by kernel_rfl) (fun _ _ _ h => h) (Or.inl ⟨by rfl, ?_⟩) hHeld ?_
        · intro w hSw; (try dsimp only at hSw); go_simp
        try simp only [Act.put, List.setIfInBounds_toArray, List.set_cons_zero, List.set_cons_succ]
        refine wpAnyH_takeL (i := 8) (d := some 46) (v := .agg (oA ⟨(S.length : Int) + 1, A9, n0 + 1, c9, 9⟩)) rfl rfl (by kernel_rfl) (by kernel_rfl) (by kernel_rfl) (fun _ _ _ h => h) (Or.inl ⟨by rfl, ?_⟩) hHeld ?_
        · intro w hSw; (try dsimp only at hSw); go_simp
        try simp only [Act.put, List.setIfInBounds_toArray, List.set_cons_zero, List.set_cons_succ]
        refine wpAnyH_takeL (i := 9) (d := some 47) (v := .agg (pA ⟨(S.length : Int), x⟩)) rfl rfl (by kernel_rfl) (by kernel_rfl) (by kernel_rfl) (fun _ _ _ h => h) (Or.inl ⟨by rfl, ?_⟩) hHeld ?_
        · intro w hSw; (try dsimp only at hSw); go_simp
        try simp only [Act.put, List.setIfInBounds_toArray, List.set_cons_zero, List.set_cons_succ]
        refine wpAnyH_takeL (i := 10) (d := some 48) (v := .int .i64 0) rfl rfl (by kernel_rfl) (by kernel_rfl) (by kernel_rfl) (fun _ _ _ h => h) (Or.inl ⟨by rfl, ?_⟩) hHeld ?_
        · intro w hSw; (try dsimp only at hSw); go_simp
        try simp only [Act.put, List.setIfInBounds_toArray, List.set_cons_zero, List.set_cons_succ]
        refine wpAnyH_ready (rs := [11]) (by kernel_rfl) (by simp) ?_
        refine AllReadyH.cons rfl (fun K hK => ?_) AllReadyH.nil
        refine rd_alloc rfl 39 rfl (some 5) rfl (oA zeroO) zero_ou ?_
        refine ⟨fun V19 g19 n19 f19 => ?_⟩
        have ne19_k := f19.ne r14_k
        have ne19_s := f19.ne r14_s
        have ne19_p6 := f19.ne r14_p6
        have no19_s0 := SO.fresh r13_s0 (Nat.le_of_eq f19.at_)
        have no19_s1 := SO.fresh r13_s1 (Nat.le_of_eq f19.at_)
        have no19_s2 := SO.fresh r13_s2 (Nat.le_of_eq f19.at_)
        have no19_s3 := SO.fresh r13_s3 (Nat.le_of_eq f19.at_)
        have no19_s9 := SO.fresh sm12_s9 (Nat.le_of_eq f19.at_)
        have up19 : w.heap.size ≤ g19 := f19.up l14
        have bl19 := f19.bel
        clear f19
        have r20_s0 := SO.on r13_s0 bl19
        have r20_s1 := SO.on r13_s1 bl19
        have r20_s2 := SO.on r13_s2 bl19
        have r20_s3 := SO.on r13_s3 bl19
        have r20_s9 := SO.on sm12_s9 bl19
        have r21_k := le_on r14_k bl19
        have r21_s := le_on r14_s bl19
        have r21_p6 := le_on r14_p6 bl19
        have l21 := le_tr l14 bl19
        clear r14_k r14_s r14_p6 l14
        clear r13_s0 r13_s1 r13_s2 r13_s3 sm12_s9
        clear bl19
        have y22 := Lib.hid (show (fun V : World => CB V b 42 (kA ⟨⟨(S.length : Int), A0, n0, c0, 9⟩, (h : Int), A1, S.length, c1, A2, h, c2, A3, S.length, c3⟩) ∧ CB V g1 45 (sA ⟨kd, x, at_⟩)) V19 from ⟨r21_k, r21_s⟩)
        refine hK.out _ _ y22.out (fun hHeld => ?_)
        clear hK K y22
        try simp only [Act.put, List.setIfInBounds_toArray, List.set_cons_zero, List.set_cons_succ]
        refine wpAnyH_ready (rs := [13]) (by kernel_rfl) (by simp) ?_
        refine AllReadyH.cons rfl (fun K hK => ?_) AllReadyH.nil
        refine rd_store rfl 39 _ _ rfl none rfl g19 (oA ⟨(S.length : Int) + 1, A9, n0 + 1, c9, 9⟩) rfl rfl n19 Try.zOu rfl (oA_one _) ?_
        refine ⟨fun V23 n23 k23 => ?_⟩
        have m23_k := k23.on r21_k ne19_k
        have m23_s := k23.on r21_s ne19_s
        have m23_p6 := k23.on r21_p6 ne19_p6
        have m23_s0 := SO.wr r20_s0 k23 no19_s0
        have m23_s1 := SO.wr r20_s1 k23 no19_s1
        have m23_s2 := SO.wr r20_s2 k23 no19_s2
        have m23_s3 := SO.wr r20_s3 k23 no19_s3
        have m23_s9 := SO.wr r20_s9 k23 no19_s9
        have o23 := k23.bel _ _ l21 up19
        clear k23
        clear n19 r21_k r21_s r21_p6 r20_s0 r20_s1 r20_s2 r20_s3 r20_s9 l21
        have y24 := Lib.hid (show (fun V : World => CB V b 42 (kA ⟨⟨(S.length : Int), A0, n0, c0, 9⟩, (h : Int), A1, S.length, c1, A2, h, c2, A3, S.length, c3⟩) ∧ CB V g1 45 (sA ⟨kd, x, at_⟩)) V23 from ⟨m23_k, m23_s⟩)
        refine hK.out _ _ y24.out (fun hHeld => ?_)
        clear hK K y24
        try simp only [Act.put, List.setIfInBounds_toArray, List.set_cons_zero, List.set_cons_succ]
        refine wpAnyH_ready (rs := [14]) (by kernel_rfl) (by simp) ?_
        refine AllReadyH.cons rfl (fun K hK => ?_) AllReadyH.nil
        refine rd_store rfl 30 _ _ rfl none rfl g8 (pA ⟨(S.length : Int), x⟩) rfl rfl m23_p6 Try.zPk rfl (pA_one _) ?_
        refine ⟨fun V25 n25 k25 => ?_⟩
        have m25_k := k25.on m23_k ne8_k
        have m25_s := k25.on m23_s ne8_s
        have m25_o5 := k25.on n23 (Ne.symm ne19_p6)
        have m25_s0 := SO.wr m23_s0 k25 no8_s0
        have m25_s1 := SO.wr m23_s1 k25 no8_s1
        have m25_s2 := SO.wr m23_s2 k25 no8_s2
        have m25_s3 := SO.wr m23_s3 k25 no8_s3
        have m25_s9 := SO.wr m23_s9 k25 na17
        have o25 := k25.bel _ _ o23 up8
        clear k25
        clear m23_p6 m23_k m23_s n23 m23_s0 m23_s1 m23_s2 m23_s3 m23_s9 o23
        have y26 := Lib.hid (show (fun V : World => CB V b 42 (kA ⟨⟨(S.length : Int), A0, n0, c0, 9⟩, (h : Int), A1, S.length, c1, A2, h, c2, A3, S.length, c3⟩) ∧ CB V g1 45 (sA ⟨kd, x, at_⟩)) V25 from ⟨m25_k, m25_s⟩)
        refine hK.out _ _ y26.out (fun hHeld => ?_)
        clear hK K y26
        try simp only [Act.put, List.setIfInBounds_toArray, List.set_cons_zero, List.set_cons_succ]
        refine wpAnyH_takeL (i := 15) (d := some 7) (v := .int .i64 0) rfl rfl (by kernel_rfl) (by kernel_rfl) (by kernel_rfl) (fun _ _ _ h => h) (Or.inl ⟨by rfl, ?_⟩) hHeld ?_
        · intro w hSw; (try dsimp only at hSw); go_simp
        try simp only [Act.put, List.setIfInBounds_toArray, List.set_cons_zero, List.set_cons_succ]
        refine wpAnyH_done (by kernel_rfl) ?_ _
        go_wp2_with fail
        go_meet
        case rel => exact ⟨g19, g8, A9, c9, G9, rfl, rfl, rfl, m25_o5, n25, m25_k, m25_s, m25_s9, m25_s1, m25_s2, m25_s3, ap12_s3, o25, up19, up8, na17, no8_s3⟩
      · skip
        refine rd_alloc rfl 39 rfl (some 5) rfl (oA zeroO) zero_ou ?_
        refine ⟨fun V12 g12 n12 f12 => ?_⟩
        have ne12_k := f12.ne r10_k
        have ne12_s := f12.ne r10_s
        have ne12_p6 := f12.ne n8
        have no12_s0 := SO.fresh r9_s0 (Nat.le_of_eq f12.at_)
        have no12_s1 := SO.fresh r9_s1 (Nat.le_of_eq f12.at_)
        have no12_s2 := SO.fresh r9_s2 (Nat.le_of_eq f12.at_)
        have no12_s3 := SO.fresh r9_s3 (Nat.le_of_eq f12.at_)
        have up12 : w.heap.size ≤ g12 := f12.up l10
        have bl12 := f12.bel
        clear f12
        have r13_s0 := SO.on r9_s0 bl12
        have r13_s1 := SO.on r9_s1 bl12
        have r13_s2 := SO.on r9_s2 bl12
        have r13_s3 := SO.on r9_s3 bl12
        have r14_k := le_on r10_k bl12
        have r14_s := le_on r10_s bl12
        have r14_p6 := le_on n8 bl12
        have l14 := le_tr l10 bl12
        clear r10_k r10_s n8 l10
        clear r9_s0 r9_s1 r9_s2 r9_s3
        clear bl12
        have y15 := Lib.hid (show (fun V : World => CB V b 42 (kA ⟨⟨(S.length : Int), A0, n0, c0, 9⟩, (h : Int), A1, S.length, c1, A2, h, c2, A3, S.length, c3⟩) ∧ CB V g1 45 (sA ⟨kd, x, at_⟩)) V12 from ⟨r14_k, r14_s⟩)
        refine hK.out _ _ y15.out (fun hHeld => ?_)
        clear hK K y15
        try simp only [Act.put, List.setIfInBounds_toArray, List.set_cons_zero, List.set_cons_succ]
        refine wpAnyH_ready (rs := [6]) (by kernel_rfl) (by simp) ?_
        refine AllReadyH.cons rfl (fun K hK => ?_) AllReadyH.nil
        go_simp
        have lt16_k := CB.lt r14_k
        have lt16_s := CB.lt r14_s
        have lt16_p6 := CB.lt r14_p6
        have lt16_o5 := CB.lt n12
        have lb16 : w.heap.size ≤ V12.heap.size := Below.size (B := w.heap.size) l14
        have lu16_s0 : ∀ g, G0 = some g → g < V12.heap.size := fun g e => r13_s0.seg.lt g e
        have lu16_s3 : ∀ g, G3 = some g → g < V12.heap.size := fun g e => r13_s3.seg.lt g e
        (with_reducible refine (S1 _ (r13_s0).rr).mono ?_)
        rintro e u16 ⟨A9, c9, G9, rfl, so9, b16⟩
        have r17_s0 := SO.on r13_s0 b16
        have r17_s1 := SO.on r13_s1 b16
        have r17_s2 := SO.on r13_s2 b16
        have r17_s3 := SO.on r13_s3 b16
        have r18_k := le_on r14_k b16
        have r18_s := le_on r14_s b16
        have r18_p6 := le_on r14_p6 b16
        have r18_o5 := le_on n12 b16
        have l18 := le_tr l14 b16
        clear r14_k r14_s r14_p6 n12 l14
        clear r13_s0 r13_s1 r13_s2 r13_s3
        clear b16
        have na19 := SO.above so9 lt16_k
        have na20 := SO.above so9 lt16_s
        have na21 := SO.above so9 lt16_p6
        have na22 := SO.above so9 lt16_o5
        have ap16_s0 := ap_new so9 lu16_s0
        have ap16_s3 := ap_new so9 lu16_s3
        have sm16_s9 := SO.mono so9 lb16
        clear so9
        clear lb16 lt16_k lt16_s lt16_p6 lt16_o5 lu16_s0 lu16_s3
        go_wp2_with fail
        have y23 := Lib.hid (show (fun V : World => CB V b 42 (kA ⟨⟨(S.length : Int), A0, n0, c0, 9⟩, (h : Int), A1, S.length, c1, A2, h, c2, A3, S.length, c3⟩) ∧ CB V g1 45 (sA ⟨kd, x, at_⟩)) u16 from ⟨r18_k, r18_s⟩)
        refine hK.out _ _ y23.out (fun hHeld => ?_)
        clear hK K y23
        try simp only [Act.put, List.setIfInBounds_toArray, List.set_cons_zero, List.set_cons_succ]
        refine wpAnyH_takeL (i := 7) (d := some 38) (v := .tuple #[.agg (oA ⟨(S.length : Int) + 1, A9, n0 + 1, c9, 9⟩), .agg (pA ⟨(S.length : Int), x⟩), .int .i64 0]) rfl rfl (by kernel_rfl) (by kernel_rfl) (by kernel_rfl) (fun _ _ _ h => h) (Or.inl ⟨by rfl, ?_⟩) hHeld ?_
        · intro w hSw; (try dsimp only at hSw); go_simp
        try simp only [Act.put, List.setIfInBounds_toArray, List.set_cons_zero, List.set_cons_succ]
        refine wpAnyH_takeL (i := 8) (d := some 46) (v := .agg (oA ⟨(S.length : Int) + 1, A9, n0 + 1, c9, 9⟩)) rfl rfl (by kernel_rfl) (by kernel_rfl) (by kernel_rfl) (fun _ _ _ h => h) (Or.inl ⟨by rfl, ?_⟩) hHeld ?_
        · intro w hSw; (try dsimp only at hSw); go_simp
        try simp only [Act.put, List.setIfInBounds_toArray, List.set_cons_zero, List.set_cons_succ]
        refine wpAnyH_takeL (i := 9) (d := some 47) (v := .agg (pA ⟨(S.length : Int), x⟩)) rfl rfl (by kernel_rfl) (by kernel_rfl) (by kernel_rfl) (fun _ _ _ h => h) (Or.inl ⟨by rfl, ?_⟩) hHeld ?_
        · intro w hSw; (try dsimp only at hSw); go_simp
        try simp only [Act.put, List.setIfInBounds_toArray, List.set_cons_zero, List.set_cons_succ]
        refine wpAnyH_takeL (i := 10) (d := some 48) (v := .int .i64 0) rfl rfl (by kernel_rfl) (by kernel_rfl) (by kernel_rfl) (fun _ _ _ h => h) (Or.inl ⟨by rfl, ?_⟩) hHeld ?_
        · intro w hSw; (try dsimp only at hSw); go_simp
        try simp only [Act.put, List.setIfInBounds_toArray, List.set_cons_zero, List.set_cons_succ]
        refine wpAnyH_ready (rs := [13]) (by kernel_rfl) (by simp) ?_
        refine AllReadyH.cons rfl (fun K hK => ?_) AllReadyH.nil
        refine rd_store rfl 39 _ _ rfl none rfl g12 (oA ⟨(S.length : Int) + 1, A9, n0 + 1, c9, 9⟩) rfl rfl r18_o5 Try.zOu rfl (oA_one _) ?_
        refine ⟨fun V24 n24 k24 => ?_⟩
        have m24_k := k24.on r18_k ne12_k
        have m24_s := k24.on r18_s ne12_s
        have m24_p6 := k24.on r18_p6 ne12_p6
        have m24_s0 := SO.wr r17_s0 k24 no12_s0
        have m24_s1 := SO.wr r17_s1 k24 no12_s1
        have m24_s2 := SO.wr r17_s2 k24 no12_s2
        have m24_s3 := SO.wr r17_s3 k24 no12_s3
        have m24_s9 := SO.wr sm16_s9 k24 na22
        have o24 := k24.bel _ _ l18 up12
        clear k24
        clear r18_o5 r18_k r18_s r18_p6 r17_s0 r17_s1 r17_s2 r17_s3 sm16_s9 l18
        have y25 := Lib.hid (show (fun V : World => CB V b 42 (kA ⟨⟨(S.length : Int), A0, n0, c0, 9⟩, (h : Int), A1, S.length, c1, A2, h, c2, A3, S.length, c3⟩) ∧ CB V g1 45 (sA ⟨kd, x, at_⟩)) V24 from ⟨m24_k, m24_s⟩)
        refine hK.out _ _ y25.out (fun hHeld => ?_)
        clear hK K y25
        try simp only [Act.put, List.setIfInBounds_toArray, List.set_cons_zero, List.set_cons_succ]
        refine wpAnyH_ready (rs := [14]) (by kernel_rfl) (by simp) ?_
        refine AllReadyH.cons rfl (fun K hK => ?_) AllReadyH.nil
        refine rd_store rfl 30 _ _ rfl none rfl g8 (pA ⟨(S.length : Int), x⟩) rfl rfl m24_p6 Try.zPk rfl (pA_one _) ?_
        refine ⟨fun V26 n26 k26 => ?_⟩
        have m26_k := k26.on m24_k ne8_k
        have m26_s := k26.on m24_s ne8_s
        have m26_o5 := k26.on n24 (Ne.symm ne12_p6)
        have m26_s0 := SO.wr m24_s0 k26 no8_s0
        have m26_s1 := SO.wr m24_s1 k26 no8_s1
        have m26_s2 := SO.wr m24_s2 k26 no8_s2
        have m26_s3 := SO.wr m24_s3 k26 no8_s3
        have m26_s9 := SO.wr m24_s9 k26 na21
        have o26 := k26.bel _ _ o24 up8
        clear k26
        clear m24_p6 m24_k m24_s n24 m24_s0 m24_s1 m24_s2 m24_s3 m24_s9 o24
        have y27 := Lib.hid (show (fun V : World => CB V b 42 (kA ⟨⟨(S.length : Int), A0, n0, c0, 9⟩, (h : Int), A1, S.length, c1, A2, h, c2, A3, S.length, c3⟩) ∧ CB V g1 45 (sA ⟨kd, x, at_⟩)) V26 from ⟨m26_k, m26_s⟩)
        refine hK.out _ _ y27.out (fun hHeld => ?_)
        clear hK K y27
        try simp only [Act.put, List.setIfInBounds_toArray, List.set_cons_zero, List.set_cons_succ]
        refine wpAnyH_takeL (i := 15) (d := some 7) (v := .int .i64 0) rfl rfl (by kernel_rfl) (by kernel_rfl) (by kernel_rfl) (fun _ _ _ h => h) (Or.inl ⟨by rfl, ?_⟩) hHeld ?_
        · intro w hSw; (try dsimp only at hSw); go_simp
        try simp only [Act.put, List.setIfInBounds_toArray, List.set_cons_zero, List.set_cons_succ]
        refine wpAnyH_done (by kernel_rfl) ?_ _
        go_wp2_with fail
        go_meet
        case rel => exact ⟨g12, g8, A9, c9, G9, rfl, rfl, rfl, m26_o5, n26, m26_k, m26_s, m26_s9, m26_s1, m26_s2, m26_s3, ap16_s3, o26, up12, up8, na21, no8_s3⟩
  case rest =>
    obtain ⟨g5, g6, A9, c9, G9, rfl, rfl, rfl, x5, x6, xk, xs, y9, y1, y2, y3, ap9, lowc, up5, up6, na9, na3⟩ := hcut
    clear r3_k n1 r2_s0 r2_s1 r2_s2 r2_s3 no0 no1_s0 no1 no1_s1 no2 no1_s2 no3 no1_s3 l3
    generalize wc = V at *
    have ne_k_s := CB.ne_ xk xs (by decide)
    have ne_k_o5 := CB.ne_ xk x5 (by decide)
    have ne_k_p6 := CB.ne_ xk x6 (by decide)
    have ne_s_o5 := CB.ne_ xs x5 (by decide)
    have ne_s_p6 := CB.ne_ xs x6 (by decide)
    have ne_o5_p6 := CB.ne_ x5 x6 (by decide)
    have no_s9_k := SO.noT y9 xk (by decide)
    have no_s9_s := SO.noT y9 xs (by decide)
    have no_s9_o5 := SO.noT y9 x5 (by decide)
    have no_s1_k := SO.noT y1 xk (by decide)
    have no_s1_s := SO.noT y1 xs (by decide)
    have no_s1_o5 := SO.noT y1 x5 (by decide)
    have no_s1_p6 := SO.noT y1 x6 (by decide)
    have no_s2_k := SO.noT y2 xk (by decide)
    have no_s2_s := SO.noT y2 xs (by decide)
    have no_s2_o5 := SO.noT y2 x5 (by decide)
    have no_s2_p6 := SO.noT y2 x6 (by decide)
    have no_s3_k := SO.noT y3 xk (by decide)
    have no_s3_s := SO.noT y3 xs (by decide)
    have no_s3_o5 := SO.noT y3 x5 (by decide)
    go_wp2_with (first | ((with_reducible refine st_load 39 _ g5 ?_ x5 Try.underlying39 ?_ ?_ ?_); exact rfl; exact rfl; exact Try.zOu) | ((with_reducible refine st_mid 39 _ _ b 0 (oA ⟨(S.length : Int) + 1, A9, n0 + 1, c9, 9⟩) ?_ ?_ xk ?_ (new := kA ⟨⟨(S.length : Int) + 1, A9, n0 + 1, c9, 9⟩, (h : Int), A1, S.length, c1, A2, h, c2, A3, S.length, c3⟩) ?_ ?_ ?_ ?_); exact rfl; exact rfl; exact (by decide : 0 + 3 ≤ 7); exact kA_o _ _; exact Try.zOu; exact oA_one _))
    refine ⟨fun V901 n901 k901 => ?_⟩
    have m901_s := k901.on xs (Ne.symm ne_k_s)
    have m901_o5 := k901.on x5 (Ne.symm ne_k_o5)
    have m901_p6 := k901.on x6 (Ne.symm ne_k_p6)
    have m901_s9 := SO.wr y9 k901 no_s9_k
    have m901_s1 := SO.wr y1 k901 no_s1_k
    have m901_s2 := SO.wr y2 k901 no_s2_k
    have m901_s3 := SO.wr y3 k901 no_s3_k
    have o901 := k901.bel _ _ lowc hge
    clear k901
    clear xk xs x5 x6 y9 y1 y2 y3 lowc
    go_wp2_with fail
    have y902 := Lib.hid (show (fun V : World => CB V g1 45 (sA ⟨kd, x, at_⟩)) V901.drew from CB.drew m901_s)
    refine wp_region_held_drew (S := (fun V : World => CB V g1 45 (sA ⟨kd, x, at_⟩))) (by kernel_rfl) y902.out (fun hHeld => ?_)
    obtain ⟨D902, hD902⟩ : ∃ V, V901.drew = V := ⟨_, rfl⟩
    have b902 : Below V901.heap.size V901 D902 := by rw [← hD902]; exact le_dr (Below.refl _ _)
    rw [hD902] at hHeld ⊢
    clear hD902
    have r903_s9 := SO.on m901_s9 b902
    have r903_s1 := SO.on m901_s1 b902
    have r903_s2 := SO.on m901_s2 b902
    have r903_s3 := SO.on m901_s3 b902
    have r904_k := le_on n901 b902
    have r904_s := le_on m901_s b902
    have r904_o5 := le_on m901_o5 b902
    have r904_p6 := le_on m901_p6 b902
    have l904 := le_tr o901 b902
    clear n901 m901_s m901_o5 m901_p6 o901
    clear m901_s9 m901_s1 m901_s2 m901_s3
    clear b902
    refine wpAnyH_takeL (i := 0) (d := some 55) (v := .pointer (some ⟨b, 0, none⟩)) rfl rfl (by kernel_rfl) (by kernel_rfl) (by kernel_rfl) (fun _ _ _ h => h) (Or.inl ⟨by rfl, ?_⟩) hHeld ?_
    · intro w hSw; (try dsimp only at hSw); go_simp
    try simp only [Act.put, List.setIfInBounds_toArray, List.set_cons_zero, List.set_cons_succ]
    refine wpAnyH_takeL (i := 1) (d := some 56) (v := .pointer (some ⟨b, 0, none⟩)) rfl rfl (by kernel_rfl) (by kernel_rfl) (by kernel_rfl) (fun _ _ _ h => h) (Or.inl ⟨by rfl, ?_⟩) hHeld ?_
    · intro w hSw; (try dsimp only at hSw); go_simp
    try simp only [Act.put, List.setIfInBounds_toArray, List.set_cons_zero, List.set_cons_succ]
    refine wpAnyH_takeL (i := 2) (d := some 57) (v := .pointer (some ⟨b, 0, none⟩)) rfl rfl (by kernel_rfl) (by kernel_rfl) (by kernel_rfl) (fun _ _ _ h => h) (Or.inl ⟨by rfl, ?_⟩) hHeld ?_
    · intro w hSw; (try dsimp only at hSw); go_simp
    try simp only [Act.put, List.setIfInBounds_toArray, List.set_cons_zero, List.set_cons_succ]
    refine wpAnyH_takeL (i := 3) (d := some 58) (v := .pointer (some ⟨b, 4, none⟩)) rfl rfl (by kernel_rfl) (by kernel_rfl) (by kernel_rfl) (fun _ _ _ h => h) (Or.inl ⟨by rfl, ?_⟩) hHeld ?_
    · intro w hSw; (try dsimp only at hSw); go_simp
    try simp only [Act.put, List.setIfInBounds_toArray, List.set_cons_zero, List.set_cons_succ]
    refine wpAnyH_takeL (i := 5) (d := some 60) (v := .pointer (some ⟨g1, 1, none⟩)) rfl rfl (by kernel_rfl) (by kernel_rfl) (by kernel_rfl) (fun _ _ _ h => h) (Or.inl ⟨by rfl, ?_⟩) hHeld ?_
    · intro w hSw; (try dsimp only at hSw); go_simp
    try simp only [Act.put, List.setIfInBounds_toArray, List.set_cons_zero, List.set_cons_succ]
    refine wpAnyH_takeL (i := 6) (d := some 61) (v := .string x) rfl rfl (by kernel_rfl) (by kernel_rfl) (by kernel_rfl) (fun _ _ _ h => h) (Or.inl ⟨by rfl, ?_⟩) hHeld ?_
    · intro w hSw; (try dsimp only at hSw); have hcc : w.cell? ⟨g1, 1, none⟩ = some (.string x) := CB.cell hSw 1; go_simp
    try simp only [Act.put, List.setIfInBounds_toArray, List.set_cons_zero, List.set_cons_succ]
    refine wpAnyH_ready (rs := [4, 7]) (by kernel_rfl) (by simp) ?_
    refine AllReadyH.cons rfl (fun K hK => ?_) (AllReadyH.cons rfl (fun K hK => ?_) AllReadyH.nil)
    · skip
      refine rd_load rfl 40 _ rfl (some 59) rfl (.slice A1 S.length c1) b (4) rfl (ld_ss (CB.cell r904_k 4)) ?_
      refine ⟨?_⟩
      have y905 := Lib.hid (show (fun V : World => CB V g1 45 (sA ⟨kd, x, at_⟩)) D902 from r904_s)
      refine hK.out _ _ y905.out (fun hHeld => ?_)
      clear hK K y905
      try simp only [Act.put, List.setIfInBounds_toArray, List.set_cons_zero, List.set_cons_succ]
      refine wpAnyH_ready (rs := [7]) (by kernel_rfl) (by simp) ?_
      refine AllReadyH.cons rfl (fun K hK => ?_) AllReadyH.nil
      refine rd_litv rfl 40 9 _ rfl (some 62) rfl (.string x) (zA x) rfl rfl Try.underlying40 Try.infoS2 rfl (by decide) (by decide) ?_
      refine ⟨fun V906 g906 n906 f906 => ?_⟩
      have ne906_k := f906.ne r904_k
      have ne906_s := f906.ne r904_s
      have ne906_o5 := f906.ne r904_o5
      have ne906_p6 := f906.ne r904_p6
      have no906_s9 := SO.fresh r903_s9 (Nat.le_of_eq f906.at_)
      have no906_s1 := SO.fresh r903_s1 (Nat.le_of_eq f906.at_)
      have no906_s2 := SO.fresh r903_s2 (Nat.le_of_eq f906.at_)
      have no906_s3 := SO.fresh r903_s3 (Nat.le_of_eq f906.at_)
      have up906 : w.heap.size ≤ g906 := f906.up l904
      have bl906 := f906.bel
      clear f906
      have r907_s9 := SO.on r903_s9 bl906
      have r907_s1 := SO.on r903_s1 bl906
      have r907_s2 := SO.on r903_s2 bl906
      have r907_s3 := SO.on r903_s3 bl906
      have r908_k := le_on r904_k bl906
      have r908_s := le_on r904_s bl906
      have r908_o5 := le_on r904_o5 bl906
      have r908_p6 := le_on r904_p6 bl906
      have l908 := le_tr l904 bl906
      clear r904_k r904_s r904_o5 r904_p6 l904
      clear r903_s9 r903_s1 r903_s2 r903_s3
      clear bl906
      have y909 := Lib.hid (show (fun V : World => CB V g1 45 (sA ⟨kd, x, at_⟩)) V906 from r908_s)
      refine hK.out _ _ y909.out (fun hHeld => ?_)
      clear hK K y909
      try simp only [Act.put, List.setIfInBounds_toArray, List.set_cons_zero, List.set_cons_succ]
      refine wpAnyH_ready (rs := [8]) (by kernel_rfl) (by simp) ?_
      refine AllReadyH.cons rfl (fun K hK => ?_) AllReadyH.nil
      refine rd_app rfl (.tmp 59) (.tmp 62) 40 rfl (some 63) rfl 9 Try.underlying40 Try.infoS rfl (by decide) (A := A1) (n := S.length) (c := c1) (G := G1) rfl r907_s1.seg (As := (some ⟨g906, 0, none⟩)) (m := 1) (k := 1) rfl (Src.box n906 rfl) (all_list (zA_one _)) (by simp only [maxLen]; omega) (by omega) (S.length + 1) (by omega) ?_
      refine ⟨fun B910 m910 q910 w910 s910 h910 k910 => ?_⟩
      have s910 : Seg w910 9 1 B910 (S.length + 1) m910 (rc scl (S ++ [x])) q910 := by rw [← rc_snoc]; exact s910
      have hg910 : ∀ g, G1 = some g → w.heap.size ≤ g := fun g e => r907_s1.hi g e
      have so910 : SO w.heap.size w910 9 scl 1 B910 (S.length + 1) m910 (S ++ [x]) q910 := ⟨s910, k910.ge (l908).size hg910⟩
      have e910_k := CB.same r908_k (h910.block _ (CB.lt r908_k) (fun e => no_s1_k _ e.symm rfl))
      have na910_k := moved_ne k910 (CB.lt r908_k) no_s1_k
      have e910_s := CB.same r908_s (h910.block _ (CB.lt r908_s) (fun e => no_s1_s _ e.symm rfl))
      have na910_s := moved_ne k910 (CB.lt r908_s) no_s1_s
      have e910_o5 := CB.same r908_o5 (h910.block _ (CB.lt r908_o5) (fun e => no_s1_o5 _ e.symm rfl))
      have na910_o5 := moved_ne k910 (CB.lt r908_o5) no_s1_o5
      have e910_p6 := CB.same r908_p6 (h910.block _ (CB.lt r908_p6) (fun e => no_s1_p6 _ e.symm rfl))
      have na910_p6 := moved_ne k910 (CB.lt r908_p6) no_s1_p6
      have e910_z := CB.same n906 (h910.block _ (CB.lt n906) (fun e => no906_s1 _ e.symm rfl))
      have na910_z := moved_ne k910 (CB.lt n906) no906_s1
      have e910_s9 := SO.grow r907_s9 h910 (SO.apT r907_s9 r907_s1 (by decide))
      have e910_s2 := SO.grow r907_s2 h910 (ap_flip a12)
      have ap910_s2 := ap_moved r907_s2 (ap_flip a12) k910
      have e910_s3 := SO.grow r907_s3 h910 (SO.apT r907_s3 r907_s1 (by decide))
      have lw910 := (l908).grown h910 (l908).size hg910
      clear h910 k910 s910 hg910 r907_s1 r908_k no_s1_k r908_s no_s1_s r908_o5 no_s1_o5 r908_p6 no_s1_p6 n906 no906_s1 r907_s9 r907_s2 r907_s3 l908
      have y911 := Lib.hid (show (fun V : World => CB V g1 45 (sA ⟨kd, x, at_⟩)) w910 from e910_s)
      refine hK.out _ _ y911.out (fun hHeld => ?_)
      clear hK K y911
      try simp only [Act.put, List.setIfInBounds_toArray, List.set_cons_zero, List.set_cons_succ]
      refine wpAnyH_takeL (i := 9) (d := some 64) (v := .pointer (some ⟨b, 0, none⟩)) rfl rfl (by kernel_rfl) (by kernel_rfl) (by kernel_rfl) (fun _ _ _ h => h) (Or.inl ⟨by rfl, ?_⟩) hHeld ?_
      · intro w hSw; (try dsimp only at hSw); go_simp
      try simp only [Act.put, List.setIfInBounds_toArray, List.set_cons_zero, List.set_cons_succ]
      refine wpAnyH_takeL (i := 10) (d := some 65) (v := .pointer (some ⟨b, 4, none⟩)) rfl rfl (by kernel_rfl) (by kernel_rfl) (by kernel_rfl) (fun _ _ _ h => h) (Or.inl ⟨by rfl, ?_⟩) hHeld ?_
      · intro w hSw; (try dsimp only at hSw); go_simp
      try simp only [Act.put, List.setIfInBounds_toArray, List.set_cons_zero, List.set_cons_succ]
      refine wpAnyH_ready (rs := [11]) (by kernel_rfl) (by simp) ?_
      refine AllReadyH.cons rfl (fun K hK => ?_) AllReadyH.nil
      refine rd_cell rfl 40 _ _ rfl none rfl b 4 (.slice B910 (S.length + 1) m910) rfl rfl e910_k (by rw [kA_size]; decide) (new := kA ⟨⟨(S.length : Int) + 1, A9, n0 + 1, c9, 9⟩, (h : Int), B910, S.length + 1, m910, A2, h, c2, A3, S.length, c3⟩) (kA_1 _ _ _ _) one_ss rfl rfl ?_
      refine ⟨fun V912 n912 k912 => ?_⟩
      have m912_s := k912.on e910_s (Ne.symm ne_k_s)
      have m912_o5 := k912.on e910_o5 (Ne.symm ne_k_o5)
      have m912_p6 := k912.on e910_p6 (Ne.symm ne_k_p6)
      have m912_z := k912.on e910_z (Ne.symm ne906_k)
      have m912_s9 := SO.wr e910_s9 k912 no_s9_k
      have m912_s2 := SO.wr e910_s2 k912 no_s2_k
      have m912_s3 := SO.wr e910_s3 k912 no_s3_k
      have m912_s1 := SO.wr so910 k912 na910_k
      have o912 := k912.bel _ _ lw910 hge
      clear k912
      clear e910_k e910_s e910_o5 e910_p6 e910_z e910_s9 e910_s2 e910_s3 so910 lw910
      have y913 := Lib.hid (show (fun V : World => CB V g1 45 (sA ⟨kd, x, at_⟩)) V912 from m912_s)
      refine hK.out _ _ y913.out (fun hHeld => ?_)
      clear hK K y913
      try simp only [Act.put, List.setIfInBounds_toArray, List.set_cons_zero, List.set_cons_succ]
      refine wpAnyH_done (by kernel_rfl) ?_ _
      go_wp2_with fail
      have y914 := Lib.hid (show (fun V : World => CB V g6 30 (pA ⟨(S.length : Int), x⟩)) V912.drew from CB.drew m912_p6)
      refine wp_region_held_drew (S := (fun V : World => CB V g6 30 (pA ⟨(S.length : Int), x⟩))) (by kernel_rfl) y914.out (fun hHeld => ?_)
      obtain ⟨D914, hD914⟩ : ∃ V, V912.drew = V := ⟨_, rfl⟩
      have b914 : Below V912.heap.size V912 D914 := by rw [← hD914]; exact le_dr (Below.refl _ _)
      rw [hD914] at hHeld ⊢
      clear hD914
      have r915_s9 := SO.on m912_s9 b914
      have r915_s2 := SO.on m912_s2 b914
      have r915_s3 := SO.on m912_s3 b914
      have r915_s1 := SO.on m912_s1 b914
      have r916_k := le_on n912 b914
      have r916_s := le_on m912_s b914
      have r916_o5 := le_on m912_o5 b914
      have r916_p6 := le_on m912_p6 b914
      have r916_z := le_on m912_z b914
      have l916 := le_tr o912 b914
      clear n912 m912_s m912_o5 m912_p6 m912_z o912
      clear m912_s9 m912_s2 m912_s3 m912_s1
      clear b914
      refine wpAnyH_takeL (i := 0) (d := some 66) (v := .pointer (some ⟨b, 0, none⟩)) rfl rfl (by kernel_rfl) (by kernel_rfl) (by kernel_rfl) (fun _ _ _ h => h) (Or.inl ⟨by rfl, ?_⟩) hHeld ?_
      · intro w hSw; (try dsimp only at hSw); go_simp
      try simp only [Act.put, List.setIfInBounds_toArray, List.set_cons_zero, List.set_cons_succ]
      refine wpAnyH_takeL (i := 1) (d := some 67) (v := .pointer (some ⟨b, 0, none⟩)) rfl rfl (by kernel_rfl) (by kernel_rfl) (by kernel_rfl) (fun _ _ _ h => h) (Or.inl ⟨by rfl, ?_⟩) hHeld ?_
      · intro w hSw; (try dsimp only at hSw); go_simp
      try simp only [Act.put, List.setIfInBounds_toArray, List.set_cons_zero, List.set_cons_succ]
      refine wpAnyH_takeL (i := 2) (d := some 68) (v := .pointer (some ⟨b, 0, none⟩)) rfl rfl (by kernel_rfl) (by kernel_rfl) (by kernel_rfl) (fun _ _ _ h => h) (Or.inl ⟨by rfl, ?_⟩) hHeld ?_
      · intro w hSw; (try dsimp only at hSw); go_simp
      try simp only [Act.put, List.setIfInBounds_toArray, List.set_cons_zero, List.set_cons_succ]
      refine wpAnyH_takeL (i := 3) (d := some 69) (v := .pointer (some ⟨b, 6, none⟩)) rfl rfl (by kernel_rfl) (by kernel_rfl) (by kernel_rfl) (fun _ _ _ h => h) (Or.inl ⟨by rfl, ?_⟩) hHeld ?_
      · intro w hSw; (try dsimp only at hSw); go_simp
      try simp only [Act.put, List.setIfInBounds_toArray, List.set_cons_zero, List.set_cons_succ]
      refine wpAnyH_takeL (i := 5) (d := some 71) (v := .agg (pA ⟨(S.length : Int), x⟩)) rfl rfl (by kernel_rfl) (by kernel_rfl) (by kernel_rfl) (fun _ _ _ h => h) (Or.inl ⟨by rfl, ?_⟩) hHeld ?_
      · intro w hSw; exact yl_whole 30 _ g6 rfl hSw Try.underlying30 rfl Try.zPk
      try simp only [Act.put, List.setIfInBounds_toArray, List.set_cons_zero, List.set_cons_succ]
      refine wpAnyH_ready (rs := [4, 6]) (by kernel_rfl) (by simp) ?_
      refine AllReadyH.cons rfl (fun K hK => ?_) (AllReadyH.cons rfl (fun K hK => ?_) AllReadyH.nil)
      · skip
        refine rd_load rfl 37 _ rfl (some 70) rfl (.slice A3 S.length c3) b (6) rfl (ld_pp (CB.cell r916_k 6)) ?_
        refine ⟨?_⟩
        have y917 := Lib.hid (show (fun V : World => CB V g6 30 (pA ⟨(S.length : Int), x⟩)) D914 from r916_p6)
        refine hK.out _ _ y917.out (fun hHeld => ?_)
        clear hK K y917
        try simp only [Act.put, List.setIfInBounds_toArray, List.set_cons_zero, List.set_cons_succ]
        refine wpAnyH_ready (rs := [6]) (by kernel_rfl) (by simp) ?_
        refine AllReadyH.cons rfl (fun K hK => ?_) AllReadyH.nil
        refine rd_litv rfl 37 30 _ rfl (some 72) rfl (.agg (pA ⟨(S.length : Int), x⟩)) (pA ⟨(S.length : Int), x⟩) rfl rfl Try.underlying37 Try.infoP2 rfl (by decide) (by decide) ?_
        refine ⟨fun V918 g918 n918 f918 => ?_⟩
        have ne918_k := f918.ne r916_k
        have ne918_s := f918.ne r916_s
        have ne918_o5 := f918.ne r916_o5
        have ne918_p6 := f918.ne r916_p6
        have ne918_z := f918.ne r916_z
        have no918_s9 := SO.fresh r915_s9 (Nat.le_of_eq f918.at_)
        have no918_s2 := SO.fresh r915_s2 (Nat.le_of_eq f918.at_)
        have no918_s3 := SO.fresh r915_s3 (Nat.le_of_eq f918.at_)
        have no918_s1 := SO.fresh r915_s1 (Nat.le_of_eq f918.at_)
        have up918 : w.heap.size ≤ g918 := f918.up l916
        have bl918 := f918.bel
        clear f918
        have r919_s9 := SO.on r915_s9 bl918
        have r919_s2 := SO.on r915_s2 bl918
        have r919_s3 := SO.on r915_s3 bl918
        have r919_s1 := SO.on r915_s1 bl918
        have r920_k := le_on r916_k bl918
        have r920_s := le_on r916_s bl918
        have r920_o5 := le_on r916_o5 bl918
        have r920_p6 := le_on r916_p6 bl918
        have r920_z := le_on r916_z bl918
        have l920 := le_tr l916 bl918
        clear r916_k r916_s r916_o5 r916_p6 r916_z l916
        clear r915_s9 r915_s2 r915_s3 r915_s1
        clear bl918
        have y921 := Lib.hid (show (fun V : World => CB V g6 30 (pA ⟨(S.length : Int), x⟩)) V918 from r920_p6)
        refine hK.out _ _ y921.out (fun hHeld => ?_)
        clear hK K y921
        try simp only [Act.put, List.setIfInBounds_toArray, List.set_cons_zero, List.set_cons_succ]
        refine wpAnyH_ready (rs := [7]) (by kernel_rfl) (by simp) ?_
        refine AllReadyH.cons rfl (fun K hK => ?_) AllReadyH.nil
        refine rd_app rfl (.tmp 70) (.tmp 72) 37 rfl (some 73) rfl 30 Try.underlying37 Try.infoP rfl (by decide) (A := A3) (n := S.length) (c := c3) (G := G3) rfl r919_s3.seg (As := (some ⟨g918, 0, none⟩)) (m := 1) (k := 1) rfl (Src.box n918 rfl) (all_list (pA_one _)) (by simp only [maxLen]; omega) (by omega) (S.length + 1) (by omega) ?_
        refine ⟨fun B922 m922 q922 w922 s922 h922 k922 => ?_⟩
        have s922 : Seg w922 30 2 B922 (S.length + 1) m922 (rc pcl (pkF S 0 ++ [⟨(S.length : Int), x⟩])) q922 := by rw [← rc_snoc]; exact s922
        have hg922 : ∀ g, G3 = some g → w.heap.size ≤ g := fun g e => r919_s3.hi g e
        have so922 : SO w.heap.size w922 30 pcl 2 B922 (S.length + 1) m922 (pkF S 0 ++ [⟨(S.length : Int), x⟩]) q922 := ⟨s922, k922.ge (l920).size hg922⟩
        have e922_k := CB.same r920_k (h922.block _ (CB.lt r920_k) (fun e => no_s3_k _ e.symm rfl))
        have na922_k := moved_ne k922 (CB.lt r920_k) no_s3_k
        have e922_s := CB.same r920_s (h922.block _ (CB.lt r920_s) (fun e => no_s3_s _ e.symm rfl))
        have na922_s := moved_ne k922 (CB.lt r920_s) no_s3_s
        have e922_o5 := CB.same r920_o5 (h922.block _ (CB.lt r920_o5) (fun e => no_s3_o5 _ e.symm rfl))
        have na922_o5 := moved_ne k922 (CB.lt r920_o5) no_s3_o5
        have e922_p6 := CB.same r920_p6 (h922.block _ (CB.lt r920_p6) (fun e => na3 _ e.symm rfl))
        have na922_p6 := moved_ne k922 (CB.lt r920_p6) na3
        have e922_z := CB.same r920_z (h922.block _ (CB.lt r920_z) (fun e => no906_s3 _ e.symm rfl))
        have na922_z := moved_ne k922 (CB.lt r920_z) no906_s3
        have e922_y := CB.same n918 (h922.block _ (CB.lt n918) (fun e => no918_s3 _ e.symm rfl))
        have na922_y := moved_ne k922 (CB.lt n918) no918_s3
        have e922_s9 := SO.grow r919_s9 h922 ap9
        have ap922_s9 := ap_moved r919_s9 ap9 k922
        have e922_s2 := SO.grow r919_s2 h922 (SO.apT r919_s2 r919_s3 (by decide))
        have e922_s1 := SO.grow r919_s1 h922 (SO.apT r919_s1 r919_s3 (by decide))
        have lw922 := (l920).grown h922 (l920).size hg922
        clear h922 k922 s922 hg922 r919_s3 r920_k no_s3_k r920_s no_s3_s r920_o5 no_s3_o5 r920_p6 na3 r920_z no906_s3 n918 no918_s3 r919_s9 r919_s2 r919_s1 l920
        have y923 := Lib.hid (show (fun V : World => CB V g6 30 (pA ⟨(S.length : Int), x⟩)) w922 from e922_p6)
        refine hK.out _ _ y923.out (fun hHeld => ?_)
        clear hK K y923
        try simp only [Act.put, List.setIfInBounds_toArray, List.set_cons_zero, List.set_cons_succ]
        refine wpAnyH_takeL (i := 8) (d := some 74) (v := .pointer (some ⟨b, 0, none⟩)) rfl rfl (by kernel_rfl) (by kernel_rfl) (by kernel_rfl) (fun _ _ _ h => h) (Or.inl ⟨by rfl, ?_⟩) hHeld ?_
        · intro w hSw; (try dsimp only at hSw); go_simp
        try simp only [Act.put, List.setIfInBounds_toArray, List.set_cons_zero, List.set_cons_succ]
        refine wpAnyH_takeL (i := 9) (d := some 75) (v := .pointer (some ⟨b, 6, none⟩)) rfl rfl (by kernel_rfl) (by kernel_rfl) (by kernel_rfl) (fun _ _ _ h => h) (Or.inl ⟨by rfl, ?_⟩) hHeld ?_
        · intro w hSw; (try dsimp only at hSw); go_simp
        try simp only [Act.put, List.setIfInBounds_toArray, List.set_cons_zero, List.set_cons_succ]
        refine wpAnyH_ready (rs := [10]) (by kernel_rfl) (by simp) ?_
        refine AllReadyH.cons rfl (fun K hK => ?_) AllReadyH.nil
        refine rd_cell rfl 37 _ _ rfl none rfl b 6 (.slice B922 (S.length + 1) m922) rfl rfl e922_k (by rw [kA_size]; decide) (new := kA ⟨⟨(S.length : Int) + 1, A9, n0 + 1, c9, 9⟩, (h : Int), B910, S.length + 1, m910, A2, h, c2, B922, S.length + 1, m922⟩) (kA_3 _ _ _ _) one_pp rfl rfl ?_
        refine ⟨fun V924 n924 k924 => ?_⟩
        have m924_s := k924.on e922_s (Ne.symm ne_k_s)
        have m924_o5 := k924.on e922_o5 (Ne.symm ne_k_o5)
        have m924_p6 := k924.on e922_p6 (Ne.symm ne_k_p6)
        have m924_z := k924.on e922_z (Ne.symm ne906_k)
        have m924_y := k924.on e922_y (Ne.symm ne918_k)
        have m924_s9 := SO.wr e922_s9 k924 no_s9_k
        have m924_s2 := SO.wr e922_s2 k924 no_s2_k
        have m924_s1 := SO.wr e922_s1 k924 na910_k
        have m924_s3 := SO.wr so922 k924 na922_k
        have o924 := k924.bel _ _ lw922 hge
        clear k924
        clear e922_k e922_s e922_o5 e922_p6 e922_z e922_y e922_s9 e922_s2 e922_s1 so922 lw922
        have y925 := Lib.hid (show (fun V : World => CB V g6 30 (pA ⟨(S.length : Int), x⟩)) V924 from m924_p6)
        refine hK.out _ _ y925.out (fun hHeld => ?_)
        clear hK K y925
        try simp only [Act.put, List.setIfInBounds_toArray, List.set_cons_zero, List.set_cons_succ]
        refine wpAnyH_done (by kernel_rfl) ?_ _
        go_wp2_with fail
        go_ret
        exact ⟨rfl, ⟨S ++ [x], a, h⟩, ⟨⟨⟨(S.length : Int) + 1, A9, n0 + 1, c9, 9⟩, (h : Int), B910, S.length + 1, m910, A2, h, c2, B922, S.length + 1, m922⟩, G9, q910, G2, q922, n924, by simp, rfl, rfl, (by rw [← pkF_snoc (Nat.le_trans ok1 ok2)]; exact m924_s9), m924_s1, (by rw [List.take_append_of_le_length ok2]; exact m924_s2), (by rw [← pkF_snoc (Nat.zero_le _)]; exact m924_s3), ap922_s9, (ap_flip ap910_s2), o924, hge⟩, HK.out, by simp, fun e => by rw [Hm.out] at e; cases e⟩
      · skip
        refine rd_litv rfl 37 30 _ rfl (some 72) rfl (.agg (pA ⟨(S.length : Int), x⟩)) (pA ⟨(S.length : Int), x⟩) rfl rfl Try.underlying37 Try.infoP2 rfl (by decide) (by decide) ?_
        refine ⟨fun V917 g917 n917 f917 => ?_⟩
        have ne917_k := f917.ne r916_k
        have ne917_s := f917.ne r916_s
        have ne917_o5 := f917.ne r916_o5
        have ne917_p6 := f917.ne r916_p6
        have ne917_z := f917.ne r916_z
        have no917_s9 := SO.fresh r915_s9 (Nat.le_of_eq f917.at_)
        have no917_s2 := SO.fresh r915_s2 (Nat.le_of_eq f917.at_)
        have no917_s3 := SO.fresh r915_s3 (Nat.le_of_eq f917.at_)
        have no917_s1 := SO.fresh r915_s1 (Nat.le_of_eq f917.at_)
        have up917 : w.heap.size ≤ g917 := f917.up l916
        have bl917 := f917.bel
        clear f917
        have r918_s9 := SO.on r915_s9 bl917
        have r918_s2 := SO.on r915_s2 bl917
        have r918_s3 := SO.on r915_s3 bl917
        have r918_s1 := SO.on r915_s1 bl917
        have r919_k := le_on r916_k bl917
        have r919_s := le_on r916_s bl917
        have r919_o5 := le_on r916_o5 bl917
        have r919_p6 := le_on r916_p6 bl917
        have r919_z := le_on r916_z bl917
        have l919 := le_tr l916 bl917
        clear r916_k r916_s r916_o5 r916_p6 r916_z l916
        clear r915_s9 r915_s2 r915_s3 r915_s1
        clear bl917
        have y920 := Lib.hid (show (fun V : World => CB V g6 30 (pA ⟨(S.length : Int), x⟩)) V917 from r919_p6)
        refine hK.out _ _ y920.out (fun hHeld => ?_)
        clear hK K y920
        try simp only [Act.put, List.setIfInBounds_toArray, List.set_cons_zero, List.set_cons_succ]
        refine wpAnyH_ready (rs := [4]) (by kernel_rfl) (by simp) ?_
        refine AllReadyH.cons rfl (fun K hK => ?_) AllReadyH.nil
        refine rd_load rfl 37 _ rfl (some 70) rfl (.slice A3 S.length c3) b (6) rfl (ld_pp (CB.cell r919_k 6)) ?_
        refine ⟨?_⟩
        have y921 := Lib.hid (show (fun V : World => CB V g6 30 (pA ⟨(S.length : Int), x⟩)) V917 from r919_p6)
        refine hK.out _ _ y921.out (fun hHeld => ?_)
        clear hK K y921
        try simp only [Act.put, List.setIfInBounds_toArray, List.set_cons_zero, List.set_cons_succ]
        refine wpAnyH_ready (rs := [7]) (by kernel_rfl) (by simp) ?_
        refine AllReadyH.cons rfl (fun K hK => ?_) AllReadyH.nil
        refine rd_app rfl (.tmp 70) (.tmp 72) 37 rfl (some 73) rfl 30 Try.underlying37 Try.infoP rfl (by decide) (A := A3) (n := S.length) (c := c3) (G := G3) rfl r918_s3.seg (As := (some ⟨g917, 0, none⟩)) (m := 1) (k := 1) rfl (Src.box n917 rfl) (all_list (pA_one _)) (by simp only [maxLen]; omega) (by omega) (S.length + 1) (by omega) ?_
        refine ⟨fun B922 m922 q922 w922 s922 h922 k922 => ?_⟩
        have s922 : Seg w922 30 2 B922 (S.length + 1) m922 (rc pcl (pkF S 0 ++ [⟨(S.length : Int), x⟩])) q922 := by rw [← rc_snoc]; exact s922
        have hg922 : ∀ g, G3 = some g → w.heap.size ≤ g := fun g e => r918_s3.hi g e
        have so922 : SO w.heap.size w922 30 pcl 2 B922 (S.length + 1) m922 (pkF S 0 ++ [⟨(S.length : Int), x⟩]) q922 := ⟨s922, k922.ge (l919).size hg922⟩
        have e922_k := CB.same r919_k (h922.block _ (CB.lt r919_k) (fun e => no_s3_k _ e.symm rfl))
        have na922_k := moved_ne k922 (CB.lt r919_k) no_s3_k
        have e922_s := CB.same r919_s (h922.block _ (CB.lt r919_s) (fun e => no_s3_s _ e.symm rfl))
        have na922_s := moved_ne k922 (CB.lt r919_s) no_s3_s
        have e922_o5 := CB.same r919_o5 (h922.block _ (CB.lt r919_o5) (fun e => no_s3_o5 _ e.symm rfl))
        have na922_o5 := moved_ne k922 (CB.lt r919_o5) no_s3_o5
        have e922_p6 := CB.same r919_p6 (h922.block _ (CB.lt r919_p6) (fun e => na3 _ e.symm rfl))
        have na922_p6 := moved_ne k922 (CB.lt r919_p6) na3
        have e922_z := CB.same r919_z (h922.block _ (CB.lt r919_z) (fun e => no906_s3 _ e.symm rfl))
        have na922_z := moved_ne k922 (CB.lt r919_z) no906_s3
        have e922_y := CB.same n917 (h922.block _ (CB.lt n917) (fun e => no917_s3 _ e.symm rfl))
        have na922_y := moved_ne k922 (CB.lt n917) no917_s3
        have e922_s9 := SO.grow r918_s9 h922 ap9
        have ap922_s9 := ap_moved r918_s9 ap9 k922
        have e922_s2 := SO.grow r918_s2 h922 (SO.apT r918_s2 r918_s3 (by decide))
        have e922_s1 := SO.grow r918_s1 h922 (SO.apT r918_s1 r918_s3 (by decide))
        have lw922 := (l919).grown h922 (l919).size hg922
        clear h922 k922 s922 hg922 r918_s3 r919_k no_s3_k r919_s no_s3_s r919_o5 no_s3_o5 r919_p6 na3 r919_z no906_s3 n917 no917_s3 r918_s9 r918_s2 r918_s1 l919
        have y923 := Lib.hid (show (fun V : World => CB V g6 30 (pA ⟨(S.length : Int), x⟩)) w922 from e922_p6)
        refine hK.out _ _ y923.out (fun hHeld => ?_)
        clear hK K y923
        try simp only [Act.put, List.setIfInBounds_toArray, List.set_cons_zero, List.set_cons_succ]
        refine wpAnyH_takeL (i := 8) (d := some 74) (v := .pointer (some ⟨b, 0, none⟩)) rfl rfl (by kernel_rfl) (by kernel_rfl) (by kernel_rfl) (fun _ _ _ h => h) (Or.inl ⟨by rfl, ?_⟩) hHeld ?_
        · intro w hSw; (try dsimp only at hSw); go_simp
        try simp only [Act.put, List.setIfInBounds_toArray, List.set_cons_zero, List.set_cons_succ]
        refine wpAnyH_takeL (i := 9) (d := some 75) (v := .pointer (some ⟨b, 6, none⟩)) rfl rfl (by kernel_rfl) (by kernel_rfl) (by kernel_rfl) (fun _ _ _ h => h) (Or.inl ⟨by rfl, ?_⟩) hHeld ?_
        · intro w hSw; (try dsimp only at hSw); go_simp
        try simp only [Act.put, List.setIfInBounds_toArray, List.set_cons_zero, List.set_cons_succ]
        refine wpAnyH_ready (rs := [10]) (by kernel_rfl) (by simp) ?_
        refine AllReadyH.cons rfl (fun K hK => ?_) AllReadyH.nil
        refine rd_cell rfl 37 _ _ rfl none rfl b 6 (.slice B922 (S.length + 1) m922) rfl rfl e922_k (by rw [kA_size]; decide) (new := kA ⟨⟨(S.length : Int) + 1, A9, n0 + 1, c9, 9⟩, (h : Int), B910, S.length + 1, m910, A2, h, c2, B922, S.length + 1, m922⟩) (kA_3 _ _ _ _) one_pp rfl rfl ?_
        refine ⟨fun V924 n924 k924 => ?_⟩
        have m924_s := k924.on e922_s (Ne.symm ne_k_s)
        have m924_o5 := k924.on e922_o5 (Ne.symm ne_k_o5)
        have m924_p6 := k924.on e922_p6 (Ne.symm ne_k_p6)
        have m924_z := k924.on e922_z (Ne.symm ne906_k)
        have m924_y := k924.on e922_y (Ne.symm ne917_k)
        have m924_s9 := SO.wr e922_s9 k924 no_s9_k
        have m924_s2 := SO.wr e922_s2 k924 no_s2_k
        have m924_s1 := SO.wr e922_s1 k924 na910_k
        have m924_s3 := SO.wr so922 k924 na922_k
        have o924 := k924.bel _ _ lw922 hge
        clear k924
        clear e922_k e922_s e922_o5 e922_p6 e922_z e922_y e922_s9 e922_s2 e922_s1 so922 lw922
        have y925 := Lib.hid (show (fun V : World => CB V g6 30 (pA ⟨(S.length : Int), x⟩)) V924 from m924_p6)
        refine hK.out _ _ y925.out (fun hHeld => ?_)
        clear hK K y925
        try simp only [Act.put, List.setIfInBounds_toArray, List.set_cons_zero, List.set_cons_succ]
        refine wpAnyH_done (by kernel_rfl) ?_ _
        go_wp2_with fail
        go_ret
        exact ⟨rfl, ⟨S ++ [x], a, h⟩, ⟨⟨⟨(S.length : Int) + 1, A9, n0 + 1, c9, 9⟩, (h : Int), B910, S.length + 1, m910, A2, h, c2, B922, S.length + 1, m922⟩, G9, q910, G2, q922, n924, by simp, rfl, rfl, (by rw [← pkF_snoc (Nat.le_trans ok1 ok2)]; exact m924_s9), m924_s1, (by rw [List.take_append_of_le_length ok2]; exact m924_s2), (by rw [← pkF_snoc (Nat.zero_le _)]; exact m924_s3), ap922_s9, (ap_flip ap910_s2), o924, hge⟩, HK.out, by simp, fun e => by rw [Hm.out] at e; cases e⟩
    · skip
      refine rd_litv rfl 40 9 _ rfl (some 62) rfl (.string x) (zA x) rfl rfl Try.underlying40 Try.infoS2 rfl (by decide) (by decide) ?_
      refine ⟨fun V905 g905 n905 f905 => ?_⟩
      have ne905_k := f905.ne r904_k
      have ne905_s := f905.ne r904_s
      have ne905_o5 := f905.ne r904_o5
      have ne905_p6 := f905.ne r904_p6
      have no905_s9 := SO.fresh r903_s9 (Nat.le_of_eq f905.at_)
      have no905_s1 := SO.fresh r903_s1 (Nat.le_of_eq f905.at_)
      have no905_s2 := SO.fresh r903_s2 (Nat.le_of_eq f905.at_)
      have no905_s3 := SO.fresh r903_s3 (Nat.le_of_eq f905.at_)
      have up905 : w.heap.size ≤ g905 := f905.up l904
      have bl905 := f905.bel
      clear f905
      have r906_s9 := SO.on r903_s9 bl905
      have r906_s1 := SO.on r903_s1 bl905
      have r906_s2 := SO.on r903_s2 bl905
      have r906_s3 := SO.on r903_s3 bl905
      have r907_k := le_on r904_k bl905
      have r907_s := le_on r904_s bl905
      have r907_o5 := le_on r904_o5 bl905
      have r907_p6 := le_on r904_p6 bl905
      have l907 := le_tr l904 bl905
      clear r904_k r904_s r904_o5 r904_p6 l904
      clear r903_s9 r903_s1 r903_s2 r903_s3
      clear bl905
      have y908 := Lib.hid (show (fun V : World => CB V g1 45 (sA ⟨kd, x, at_⟩)) V905 from r907_s)
      refine hK.out _ _ y908.out (fun hHeld => ?_)
      clear hK K y908
      try simp only [Act.put, List.setIfInBounds_toArray, List.set_cons_zero, List.set_cons_succ]
      refine wpAnyH_ready (rs := [4]) (by kernel_rfl) (by simp) ?_
      refine AllReadyH.cons rfl (fun K hK => ?_) AllReadyH.nil
      refine rd_load rfl 40 _ rfl (some 59) rfl (.slice A1 S.length c1) b (4) rfl (ld_ss (CB.cell r907_k 4)) ?_
      refine ⟨?_⟩
      have y909 := Lib.hid (show (fun V : World => CB V g1 45 (sA ⟨kd, x, at_⟩)) V905 from r907_s)
      refine hK.out _ _ y909.out (fun hHeld => ?_)
      clear hK K y909
      try simp only [Act.put, List.setIfInBounds_toArray, List.set_cons_zero, List.set_cons_succ]
      refine wpAnyH_ready (rs := [8]) (by kernel_rfl) (by simp) ?_
      refine AllReadyH.cons rfl (fun K hK => ?_) AllReadyH.nil
      refine rd_app rfl (.tmp 59) (.tmp 62) 40 rfl (some 63) rfl 9 Try.underlying40 Try.infoS rfl (by decide) (A := A1) (n := S.length) (c := c1) (G := G1) rfl r906_s1.seg (As := (some ⟨g905, 0, none⟩)) (m := 1) (k := 1) rfl (Src.box n905 rfl) (all_list (zA_one _)) (by simp only [maxLen]; omega) (by omega) (S.length + 1) (by omega) ?_
      refine ⟨fun B910 m910 q910 w910 s910 h910 k910 => ?_⟩
      have s910 : Seg w910 9 1 B910 (S.length + 1) m910 (rc scl (S ++ [x])) q910 := by rw [← rc_snoc]; exact s910
      have hg910 : ∀ g, G1 = some g → w.heap.size ≤ g := fun g e => r906_s1.hi g e
      have so910 : SO w.heap.size w910 9 scl 1 B910 (S.length + 1) m910 (S ++ [x]) q910 := ⟨s910, k910.ge (l907).size hg910⟩
      have e910_k := CB.same r907_k (h910.block _ (CB.lt r907_k) (fun e => no_s1_k _ e.symm rfl))
      have na910_k := moved_ne k910 (CB.lt r907_k) no_s1_k
      have e910_s := CB.same r907_s (h910.block _ (CB.lt r907_s) (fun e => no_s1_s _ e.symm rfl))
      have na910_s := moved_ne k910 (CB.lt r907_s) no_s1_s
      have e910_o5 := CB.same r907_o5 (h910.block _ (CB.lt r907_o5) (fun e => no_s1_o5 _ e.symm rfl))
      have na910_o5 := moved_ne k910 (CB.lt r907_o5) no_s1_o5
      have e910_p6 := CB.same r907_p6 (h910.block _ (CB.lt r907_p6) (fun e => no_s1_p6 _ e.symm rfl))
      have na910_p6 := moved_ne k910 (CB.lt r907_p6) no_s1_p6
      have e910_z := CB.same n905 (h910.block _ (CB.lt n905) (fun e => no905_s1 _ e.symm rfl))
      have na910_z := moved_ne k910 (CB.lt n905) no905_s1
      have e910_s9 := SO.grow r906_s9 h910 (SO.apT r906_s9 r906_s1 (by decide))
      have e910_s2 := SO.grow r906_s2 h910 (ap_flip a12)
      have ap910_s2 := ap_moved r906_s2 (ap_flip a12) k910
      have e910_s3 := SO.grow r906_s3 h910 (SO.apT r906_s3 r906_s1 (by decide))
      have lw910 := (l907).grown h910 (l907).size hg910
      clear h910 k910 s910 hg910 r906_s1 r907_k no_s1_k r907_s no_s1_s r907_o5 no_s1_o5 r907_p6 no_s1_p6 n905 no905_s1 r906_s9 r906_s2 r906_s3 l907
      have y911 := Lib.hid (show (fun V : World => CB V g1 45 (sA ⟨kd, x, at_⟩)) w910 from e910_s)
      refine hK.out _ _ y911.out (fun hHeld => ?_)
      clear hK K y911
      try simp only [Act.put, List.setIfInBounds_toArray, List.set_cons_zero, List.set_cons_succ]
      refine wpAnyH_takeL (i := 9) (d := some 64) (v := .pointer (some ⟨b, 0, none⟩)) rfl rfl (by kernel_rfl) (by kernel_rfl) (by kernel_rfl) (fun _ _ _ h => h) (Or.inl ⟨by rfl, ?_⟩) hHeld ?_
      · intro w hSw; (try dsimp only at hSw); go_simp
      try simp only [Act.put, List.setIfInBounds_toArray, List.set_cons_zero, List.set_cons_succ]
      refine wpAnyH_takeL (i := 10) (d := some 65) (v := .pointer (some ⟨b, 4, none⟩)) rfl rfl (by kernel_rfl) (by kernel_rfl) (by kernel_rfl) (fun _ _ _ h => h) (Or.inl ⟨by rfl, ?_⟩) hHeld ?_
      · intro w hSw; (try dsimp only at hSw); go_simp
      try simp only [Act.put, List.setIfInBounds_toArray, List.set_cons_zero, List.set_cons_succ]
      refine wpAnyH_ready (rs := [11]) (by kernel_rfl) (by simp) ?_
      refine AllReadyH.cons rfl (fun K hK => ?_) AllReadyH.nil
      refine rd_cell rfl 40 _ _ rfl none rfl b 4 (.slice B910 (S.length + 1) m910) rfl rfl e910_k (by rw [kA_size]; decide) (new := kA ⟨⟨(S.length : Int) + 1, A9, n0 + 1, c9, 9⟩, (h : Int), B910, S.length + 1, m910, A2, h, c2, A3, S.length, c3⟩) (kA_1 _ _ _ _) one_ss rfl rfl ?_
      refine ⟨fun V912 n912 k912 => ?_⟩
      have m912_s := k912.on e910_s (Ne.symm ne_k_s)
      have m912_o5 := k912.on e910_o5 (Ne.symm ne_k_o5)
      have m912_p6 := k912.on e910_p6 (Ne.symm ne_k_p6)
      have m912_z := k912.on e910_z (Ne.symm ne905_k)
      have m912_s9 := SO.wr e910_s9 k912 no_s9_k
      have m912_s2 := SO.wr e910_s2 k912 no_s2_k
      have m912_s3 := SO.wr e910_s3 k912 no_s3_k
      have m912_s1 := SO.wr so910 k912 na910_k
      have o912 := k912.bel _ _ lw910 hge
      clear k912
      clear e910_k e910_s e910_o5 e910_p6 e910_z e910_s9 e910_s2 e910_s3 so910 lw910
      have y913 := Lib.hid (show (fun V : World => CB V g1 45 (sA ⟨kd, x, at_⟩)) V912 from m912_s)
      refine hK.out _ _ y913.out (fun hHeld => ?_)
      clear hK K y913
      try simp only [Act.put, List.setIfInBounds_toArray, List.set_cons_zero, List.set_cons_succ]
      refine wpAnyH_done (by kernel_rfl) ?_ _
      go_wp2_with fail
      have y914 := Lib.hid (show (fun V : World => CB V g6 30 (pA ⟨(S.length : Int), x⟩)) V912.drew from CB.drew m912_p6)
      refine wp_region_held_drew (S := (fun V : World => CB V g6 30 (pA ⟨(S.length : Int), x⟩))) (by kernel_rfl) y914.out (fun hHeld => ?_)
      obtain ⟨D914, hD914⟩ : ∃ V, V912.drew = V := ⟨_, rfl⟩
      have b914 : Below V912.heap.size V912 D914 := by rw [← hD914]; exact le_dr (Below.refl _ _)
      rw [hD914] at hHeld ⊢
      clear hD914
      have r915_s9 := SO.on m912_s9 b914
      have r915_s2 := SO.on m912_s2 b914
      have r915_s3 := SO.on m912_s3 b914
      have r915_s1 := SO.on m912_s1 b914
      have r916_k := le_on n912 b914
      have r916_s := le_on m912_s b914
      have r916_o5 := le_on m912_o5 b914
      have r916_p6 := le_on m912_p6 b914
      have r916_z := le_on m912_z b914
      have l916 := le_tr o912 b914
      clear n912 m912_s m912_o5 m912_p6 m912_z o912
      clear m912_s9 m912_s2 m912_s3 m912_s1
      clear b914
      refine wpAnyH_takeL (i := 0) (d := some 66) (v := .pointer (some ⟨b, 0, none⟩)) rfl rfl (by kernel_rfl) (by kernel_rfl) (by kernel_rfl) (fun _ _ _ h => h) (Or.inl ⟨by rfl, ?_⟩) hHeld ?_
      · intro w hSw; (try dsimp only at hSw); go_simp
      try simp only [Act.put, List.setIfInBounds_toArray, List.set_cons_zero, List.set_cons_succ]
      refine wpAnyH_takeL (i := 1) (d := some 67) (v := .pointer (some ⟨b, 0, none⟩)) rfl rfl (by kernel_rfl) (by kernel_rfl) (by kernel_rfl) (fun _ _ _ h => h) (Or.inl ⟨by rfl, ?_⟩) hHeld ?_
      · intro w hSw; (try dsimp only at hSw); go_simp
      try simp only [Act.put, List.setIfInBounds_toArray, List.set_cons_zero, List.set_cons_succ]
      refine wpAnyH_takeL (i := 2) (d := some 68) (v := .pointer (some ⟨b, 0, none⟩)) rfl rfl (by kernel_rfl) (by kernel_rfl) (by kernel_rfl) (fun _ _ _ h => h) (Or.inl ⟨by rfl, ?_⟩) hHeld ?_
      · intro w hSw; (try dsimp only at hSw); go_simp
      try simp only [Act.put, List.setIfInBounds_toArray, List.set_cons_zero, List.set_cons_succ]
      refine wpAnyH_takeL (i := 3) (d := some 69) (v := .pointer (some ⟨b, 6, none⟩)) rfl rfl (by kernel_rfl) (by kernel_rfl) (by kernel_rfl) (fun _ _ _ h => h) (Or.inl ⟨by rfl, ?_⟩) hHeld ?_
      · intro w hSw; (try dsimp only at hSw); go_simp
      try simp only [Act.put, List.setIfInBounds_toArray, List.set_cons_zero, List.set_cons_succ]
      refine wpAnyH_takeL (i := 5) (d := some 71) (v := .agg (pA ⟨(S.length : Int), x⟩)) rfl rfl (by kernel_rfl) (by kernel_rfl) (by kernel_rfl) (fun _ _ _ h => h) (Or.inl ⟨by rfl, ?_⟩) hHeld ?_
      · intro w hSw; exact yl_whole 30 _ g6 rfl hSw Try.underlying30 rfl Try.zPk
      try simp only [Act.put, List.setIfInBounds_toArray, List.set_cons_zero, List.set_cons_succ]
      refine wpAnyH_ready (rs := [4, 6]) (by kernel_rfl) (by simp) ?_
      refine AllReadyH.cons rfl (fun K hK => ?_) (AllReadyH.cons rfl (fun K hK => ?_) AllReadyH.nil)
      · skip
        refine rd_load rfl 37 _ rfl (some 70) rfl (.slice A3 S.length c3) b (6) rfl (ld_pp (CB.cell r916_k 6)) ?_
        refine ⟨?_⟩
        have y917 := Lib.hid (show (fun V : World => CB V g6 30 (pA ⟨(S.length : Int), x⟩)) D914 from r916_p6)
        refine hK.out _ _ y917.out (fun hHeld => ?_)
        clear hK K y917
        try simp only [Act.put, List.setIfInBounds_toArray, List.set_cons_zero, List.set_cons_succ]
        refine wpAnyH_ready (rs := [6]) (by kernel_rfl) (by simp) ?_
        refine AllReadyH.cons rfl (fun K hK => ?_) AllReadyH.nil
        refine rd_litv rfl 37 30 _ rfl (some 72) rfl (.agg (pA ⟨(S.length : Int), x⟩)) (pA ⟨(S.length : Int), x⟩) rfl rfl Try.underlying37 Try.infoP2 rfl (by decide) (by decide) ?_
        refine ⟨fun V918 g918 n918 f918 => ?_⟩
        have ne918_k := f918.ne r916_k
        have ne918_s := f918.ne r916_s
        have ne918_o5 := f918.ne r916_o5
        have ne918_p6 := f918.ne r916_p6
        have ne918_z := f918.ne r916_z
        have no918_s9 := SO.fresh r915_s9 (Nat.le_of_eq f918.at_)
        have no918_s2 := SO.fresh r915_s2 (Nat.le_of_eq f918.at_)
        have no918_s3 := SO.fresh r915_s3 (Nat.le_of_eq f918.at_)
        have no918_s1 := SO.fresh r915_s1 (Nat.le_of_eq f918.at_)
        have up918 : w.heap.size ≤ g918 := f918.up l916
        have bl918 := f918.bel
        clear f918
        have r919_s9 := SO.on r915_s9 bl918
        have r919_s2 := SO.on r915_s2 bl918
        have r919_s3 := SO.on r915_s3 bl918
        have r919_s1 := SO.on r915_s1 bl918
        have r920_k := le_on r916_k bl918
        have r920_s := le_on r916_s bl918
        have r920_o5 := le_on r916_o5 bl918
        have r920_p6 := le_on r916_p6 bl918
        have r920_z := le_on r916_z bl918
        have l920 := le_tr l916 bl918
        clear r916_k r916_s r916_o5 r916_p6 r916_z l916
        clear r915_s9 r915_s2 r915_s3 r915_s1
        clear bl918
        have y921 := Lib.hid (show (fun V : World => CB V g6 30 (pA ⟨(S.length : Int), x⟩)) V918 from r920_p6)
        refine hK.out _ _ y921.out (fun hHeld => ?_)
        clear hK K y921
        try simp only [Act.put, List.setIfInBounds_toArray, List.set_cons_zero, List.set_cons_succ]
        refine wpAnyH_ready (rs := [7]) (by kernel_rfl) (by simp) ?_
        refine AllReadyH.cons rfl (fun K hK => ?_) AllReadyH.nil
        refine rd_app rfl (.tmp 70) (.tmp 72) 37 rfl (some 73) rfl 30 Try.underlying37 Try.infoP rfl (by decide) (A := A3) (n := S.length) (c := c3) (G := G3) rfl r919_s3.seg (As := (some ⟨g918, 0, none⟩)) (m := 1) (k := 1) rfl (Src.box n918 rfl) (all_list (pA_one _)) (by simp only [maxLen]; omega) (by omega) (S.length + 1) (by omega) ?_
        refine ⟨fun B922 m922 q922 w922 s922 h922 k922 => ?_⟩
        have s922 : Seg w922 30 2 B922 (S.length + 1) m922 (rc pcl (pkF S 0 ++ [⟨(S.length : Int), x⟩])) q922 := by rw [← rc_snoc]; exact s922
        have hg922 : ∀ g, G3 = some g → w.heap.size ≤ g := fun g e => r919_s3.hi g e
        have so922 : SO w.heap.size w922 30 pcl 2 B922 (S.length + 1) m922 (pkF S 0 ++ [⟨(S.length : Int), x⟩]) q922 := ⟨s922, k922.ge (l920).size hg922⟩
        have e922_k := CB.same r920_k (h922.block _ (CB.lt r920_k) (fun e => no_s3_k _ e.symm rfl))
        have na922_k := moved_ne k922 (CB.lt r920_k) no_s3_k
        have e922_s := CB.same r920_s (h922.block _ (CB.lt r920_s) (fun e => no_s3_s _ e.symm rfl))
        have na922_s := moved_ne k922 (CB.lt r920_s) no_s3_s
        have e922_o5 := CB.same r920_o5 (h922.block _ (CB.lt r920_o5) (fun e => no_s3_o5 _ e.symm rfl))
        have na922_o5 := moved_ne k922 (CB.lt r920_o5) no_s3_o5
        have e922_p6 := CB.same r920_p6 (h922.block _ (CB.lt r920_p6) (fun e => na3 _ e.symm rfl))
        have na922_p6 := moved_ne k922 (CB.lt r920_p6) na3
        have e922_z := CB.same r920_z (h922.block _ (CB.lt r920_z) (fun e => no905_s3 _ e.symm rfl))
        have na922_z := moved_ne k922 (CB.lt r920_z) no905_s3
        have e922_y := CB.same n918 (h922.block _ (CB.lt n918) (fun e => no918_s3 _ e.symm rfl))
        have na922_y := moved_ne k922 (CB.lt n918) no918_s3
        have e922_s9 := SO.grow r919_s9 h922 ap9
        have ap922_s9 := ap_moved r919_s9 ap9 k922
        have e922_s2 := SO.grow r919_s2 h922 (SO.apT r919_s2 r919_s3 (by decide))
        have e922_s1 := SO.grow r919_s1 h922 (SO.apT r919_s1 r919_s3 (by decide))
        have lw922 := (l920).grown h922 (l920).size hg922
        clear h922 k922 s922 hg922 r919_s3 r920_k no_s3_k r920_s no_s3_s r920_o5 no_s3_o5 r920_p6 na3 r920_z no905_s3 n918 no918_s3 r919_s9 r919_s2 r919_s1 l920
        have y923 := Lib.hid (show (fun V : World => CB V g6 30 (pA ⟨(S.length : Int), x⟩)) w922 from e922_p6)
        refine hK.out _ _ y923.out (fun hHeld => ?_)
        clear hK K y923
        try simp only [Act.put, List.setIfInBounds_toArray, List.set_cons_zero, List.set_cons_succ]
        refine wpAnyH_takeL (i := 8) (d := some 74) (v := .pointer (some ⟨b, 0, none⟩)) rfl rfl (by kernel_rfl) (by kernel_rfl) (by kernel_rfl) (fun _ _ _ h => h) (Or.inl ⟨by rfl, ?_⟩) hHeld ?_
        · intro w hSw; (try dsimp only at hSw); go_simp
        try simp only [Act.put, List.setIfInBounds_toArray, List.set_cons_zero, List.set_cons_succ]
        refine wpAnyH_takeL (i := 9) (d := some 75) (v := .pointer (some ⟨b, 6, none⟩)) rfl rfl (by kernel_rfl) (by kernel_rfl) (by kernel_rfl) (fun _ _ _ h => h) (Or.inl ⟨by rfl, ?_⟩) hHeld ?_
        · intro w hSw; (try dsimp only at hSw); go_simp
        try simp only [Act.put, List.setIfInBounds_toArray, List.set_cons_zero, List.set_cons_succ]
        refine wpAnyH_ready (rs := [10]) (by kernel_rfl) (by simp) ?_
        refine AllReadyH.cons rfl (fun K hK => ?_) AllReadyH.nil
        refine rd_cell rfl 37 _ _ rfl none rfl b 6 (.slice B922 (S.length + 1) m922) rfl rfl e922_k (by rw [kA_size]; decide) (new := kA ⟨⟨(S.length : Int) + 1, A9, n0 + 1, c9, 9⟩, (h : Int), B910, S.length + 1, m910, A2, h, c2, B922, S.length + 1, m922⟩) (kA_3 _ _ _ _) one_pp rfl rfl ?_
        refine ⟨fun V924 n924 k924 => ?_⟩
        have m924_s := k924.on e922_s (Ne.symm ne_k_s)
        have m924_o5 := k924.on e922_o5 (Ne.symm ne_k_o5)
        have m924_p6 := k924.on e922_p6 (Ne.symm ne_k_p6)
        have m924_z := k924.on e922_z (Ne.symm ne905_k)
        have m924_y := k924.on e922_y (Ne.symm ne918_k)
        have m924_s9 := SO.wr e922_s9 k924 no_s9_k
        have m924_s2 := SO.wr e922_s2 k924 no_s2_k
        have m924_s1 := SO.wr e922_s1 k924 na910_k
        have m924_s3 := SO.wr so922 k924 na922_k
        have o924 := k924.bel _ _ lw922 hge
        clear k924
        clear e922_k e922_s e922_o5 e922_p6 e922_z e922_y e922_s9 e922_s2 e922_s1 so922 lw922
        have y925 := Lib.hid (show (fun V : World => CB V g6 30 (pA ⟨(S.length : Int), x⟩)) V924 from m924_p6)
        refine hK.out _ _ y925.out (fun hHeld => ?_)
        clear hK K y925
        try simp only [Act.put, List.setIfInBounds_toArray, List.set_cons_zero, List.set_cons_succ]
        refine wpAnyH_done (by kernel_rfl) ?_ _
        go_wp2_with fail
        go_ret
        exact ⟨rfl, ⟨S ++ [x], a, h⟩, ⟨⟨⟨(S.length : Int) + 1, A9, n0 + 1, c9, 9⟩, (h : Int), B910, S.length + 1, m910, A2, h, c2, B922, S.length + 1, m922⟩, G9, q910, G2, q922, n924, by simp, rfl, rfl, (by rw [← pkF_snoc (Nat.le_trans ok1 ok2)]; exact m924_s9), m924_s1, (by rw [List.take_append_of_le_length ok2]; exact m924_s2), (by rw [← pkF_snoc (Nat.zero_le _)]; exact m924_s3), ap922_s9, (ap_flip ap910_s2), o924, hge⟩, HK.out, by simp, fun e => by rw [Hm.out] at e; cases e⟩
      · skip
        refine rd_litv rfl 37 30 _ rfl (some 72) rfl (.agg (pA ⟨(S.length : Int), x⟩)) (pA ⟨(S.length : Int), x⟩) rfl rfl Try.underlying37 Try.infoP2 rfl (by decide) (by decide) ?_
        refine ⟨fun V917 g917 n917 f917 => ?_⟩
        have ne917_k := f917.ne r916_k
        have ne917_s := f917.ne r916_s
        have ne917_o5 := f917.ne r916_o5
        have ne917_p6 := f917.ne r916_p6
        have ne917_z := f917.ne r916_z
        have no917_s9 := SO.fresh r915_s9 (Nat.le_of_eq f917.at_)
        have no917_s2 := SO.fresh r915_s2 (Nat.le_of_eq f917.at_)
        have no917_s3 := SO.fresh r915_s3 (Nat.le_of_eq f917.at_)
        have no917_s1 := SO.fresh r915_s1 (Nat.le_of_eq f917.at_)
        have up917 : w.heap.size ≤ g917 := f917.up l916
        have bl917 := f917.bel
        clear f917
        have r918_s9 := SO.on r915_s9 bl917
        have r918_s2 := SO.on r915_s2 bl917
        have r918_s3 := SO.on r915_s3 bl917
        have r918_s1 := SO.on r915_s1 bl917
        have r919_k := le_on r916_k bl917
        have r919_s := le_on r916_s bl917
        have r919_o5 := le_on r916_o5 bl917
        have r919_p6 := le_on r916_p6 bl917
        have r919_z := le_on r916_z bl917
        have l919 := le_tr l916 bl917
        clear r916_k r916_s r916_o5 r916_p6 r916_z l916
        clear r915_s9 r915_s2 r915_s3 r915_s1
        clear bl917
        have y920 := Lib.hid (show (fun V : World => CB V g6 30 (pA ⟨(S.length : Int), x⟩)) V917 from r919_p6)
        refine hK.out _ _ y920.out (fun hHeld => ?_)
        clear hK K y920
        try simp only [Act.put, List.setIfInBounds_toArray, List.set_cons_zero, List.set_cons_succ]
        refine wpAnyH_ready (rs := [4]) (by kernel_rfl) (by simp) ?_
        refine AllReadyH.cons rfl (fun K hK => ?_) AllReadyH.nil
        refine rd_load rfl 37 _ rfl (some 70) rfl (.slice A3 S.length c3) b (6) rfl (ld_pp (CB.cell r919_k 6)) ?_
        refine ⟨?_⟩
        have y921 := Lib.hid (show (fun V : World => CB V g6 30 (pA ⟨(S.length : Int), x⟩)) V917 from r919_p6)
        refine hK.out _ _ y921.out (fun hHeld => ?_)
        clear hK K y921
        try simp only [Act.put, List.setIfInBounds_toArray, List.set_cons_zero, List.set_cons_succ]
        refine wpAnyH_ready (rs := [7]) (by kernel_rfl) (by simp) ?_
        refine AllReadyH.cons rfl (fun K hK => ?_) AllReadyH.nil
        refine rd_app rfl (.tmp 70) (.tmp 72) 37 rfl (some 73) rfl 30 Try.underlying37 Try.infoP rfl (by decide) (A := A3) (n := S.length) (c := c3) (G := G3) rfl r918_s3.seg (As := (some ⟨g917, 0, none⟩)) (m := 1) (k := 1) rfl (Src.box n917 rfl) (all_list (pA_one _)) (by simp only [maxLen]; omega) (by omega) (S.length + 1) (by omega) ?_
        refine ⟨fun B922 m922 q922 w922 s922 h922 k922 => ?_⟩
        have s922 : Seg w922 30 2 B922 (S.length + 1) m922 (rc pcl (pkF S 0 ++ [⟨(S.length : Int), x⟩])) q922 := by rw [← rc_snoc]; exact s922
        have hg922 : ∀ g, G3 = some g → w.heap.size ≤ g := fun g e => r918_s3.hi g e
        have so922 : SO w.heap.size w922 30 pcl 2 B922 (S.length + 1) m922 (pkF S 0 ++ [⟨(S.length : Int), x⟩]) q922 := ⟨s922, k922.ge (l919).size hg922⟩
        have e922_k := CB.same r919_k (h922.block _ (CB.lt r919_k) (fun e => no_s3_k _ e.symm rfl))
        have na922_k := moved_ne k922 (CB.lt r919_k) no_s3_k
        have e922_s := CB.same r919_s (h922.block _ (CB.lt r919_s) (fun e => no_s3_s _ e.symm rfl))
        have na922_s := moved_ne k922 (CB.lt r919_s) no_s3_s
        have e922_o5 := CB.same r919_o5 (h922.block _ (CB.lt r919_o5) (fun e => no_s3_o5 _ e.symm rfl))
        have na922_o5 := moved_ne k922 (CB.lt r919_o5) no_s3_o5
        have e922_p6 := CB.same r919_p6 (h922.block _ (CB.lt r919_p6) (fun e => na3 _ e.symm rfl))
        have na922_p6 := moved_ne k922 (CB.lt r919_p6) na3
        have e922_z := CB.same r919_z (h922.block _ (CB.lt r919_z) (fun e => no905_s3 _ e.symm rfl))
        have na922_z := moved_ne k922 (CB.lt r919_z) no905_s3
        have e922_y := CB.same n917 (h922.block _ (CB.lt n917) (fun e => no917_s3 _ e.symm rfl))
        have na922_y := moved_ne k922 (CB.lt n917) no917_s3
        have e922_s9 := SO.grow r918_s9 h922 ap9
        have ap922_s9 := ap_moved r918_s9 ap9 k922
        have e922_s2 := SO.grow r918_s2 h922 (SO.apT r918_s2 r918_s3 (by decide))
        have e922_s1 := SO.grow r918_s1 h922 (SO.apT r918_s1 r918_s3 (by decide))
        have lw922 := (l919).grown h922 (l919).size hg922
        clear h922 k922 s922 hg922 r918_s3 r919_k no_s3_k r919_s no_s3_s r919_o5 no_s3_o5 r919_p6 na3 r919_z no905_s3 n917 no917_s3 r918_s9 r918_s2 r918_s1 l919
        have y923 := Lib.hid (show (fun V : World => CB V g6 30 (pA ⟨(S.length : Int), x⟩)) w922 from e922_p6)
        refine hK.out _ _ y923.out (fun hHeld => ?_)
        clear hK K y923
        try simp only [Act.put, List.setIfInBounds_toArray, List.set_cons_zero, List.set_cons_succ]
        refine wpAnyH_takeL (i := 8) (d := some 74) (v := .pointer (some ⟨b, 0, none⟩)) rfl rfl (by kernel_rfl) (by kernel_rfl) (by kernel_rfl) (fun _ _ _ h => h) (Or.inl ⟨by rfl, ?_⟩) hHeld ?_
        · intro w hSw; (try dsimp only at hSw); go_simp
        try simp only [Act.put, List.setIfInBounds_toArray, List.set_cons_zero, List.set_cons_succ]
        refine wpAnyH_takeL (i := 9) (d := some 75) (v := .pointer (some ⟨b, 6, none⟩)) rfl rfl (by kernel_rfl) (by kernel_rfl) (by kernel_rfl) (fun _ _ _ h => h) (Or.inl ⟨by rfl, ?_⟩) hHeld ?_
        · intro w hSw; (try dsimp only at hSw); go_simp
        try simp only [Act.put, List.setIfInBounds_toArray, List.set_cons_zero, List.set_cons_succ]
        refine wpAnyH_ready (rs := [10]) (by kernel_rfl) (by simp) ?_
        refine AllReadyH.cons rfl (fun K hK => ?_) AllReadyH.nil
        refine rd_cell rfl 37 _ _ rfl none rfl b 6 (.slice B922 (S.length + 1) m922) rfl rfl e922_k (by rw [kA_size]; decide) (new := kA ⟨⟨(S.length : Int) + 1, A9, n0 + 1, c9, 9⟩, (h : Int), B910, S.length + 1, m910, A2, h, c2, B922, S.length + 1, m922⟩) (kA_3 _ _ _ _) one_pp rfl rfl ?_
        refine ⟨fun V924 n924 k924 => ?_⟩
        have m924_s := k924.on e922_s (Ne.symm ne_k_s)
        have m924_o5 := k924.on e922_o5 (Ne.symm ne_k_o5)
        have m924_p6 := k924.on e922_p6 (Ne.symm ne_k_p6)
        have m924_z := k924.on e922_z (Ne.symm ne905_k)
        have m924_y := k924.on e922_y (Ne.symm ne917_k)
        have m924_s9 := SO.wr e922_s9 k924 no_s9_k
        have m924_s2 := SO.wr e922_s2 k924 no_s2_k
        have m924_s1 := SO.wr e922_s1 k924 na910_k
        have m924_s3 := SO.wr so922 k924 na922_k
        have o924 := k924.bel _ _ lw922 hge
        clear k924
        clear e922_k e922_s e922_o5 e922_p6 e922_z e922_y e922_s9 e922_s2 e922_s1 so922 lw922
        have y925 := Lib.hid (show (fun V : World => CB V g6 30 (pA ⟨(S.length : Int), x⟩)) V924 from m924_p6)
        refine hK.out _ _ y925.out (fun hHeld => ?_)
        clear hK K y925
        try simp only [Act.put, List.setIfInBounds_toArray, List.set_cons_zero, List.set_cons_succ]
        refine wpAnyH_done (by kernel_rfl) ?_ _
        go_wp2_with fail
        go_ret
        exact ⟨rfl, ⟨S ++ [x], a, h⟩, ⟨⟨⟨(S.length : Int) + 1, A9, n0 + 1, c9, 9⟩, (h : Int), B910, S.length + 1, m910, A2, h, c2, B922, S.length + 1, m922⟩, G9, q910, G2, q922, n924, by simp, rfl, rfl, (by rw [← pkF_snoc (Nat.le_trans ok1 ok2)]; exact m924_s9), m924_s1, (by rw [List.take_append_of_le_length ok2]; exact m924_s2), (by rw [← pkF_snoc (Nat.zero_le _)]; exact m924_s3), ap922_s9, (ap_flip ap910_s2), o924, hge⟩, HK.out, by simp, fun e => by rw [Hm.out] at e; cases e⟩
end Go.Proofs.Ytemhfaodgofcpaa
