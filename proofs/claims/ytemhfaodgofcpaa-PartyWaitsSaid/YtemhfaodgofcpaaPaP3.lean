/-
  Layer 16: step of two that talk, what is heard is told back. Condition: the talk is as it may be.
-/
import Derived.Test.YtemhfaodgofcpaaPaP0
set_option linter.unusedVariables false
set_option linter.unusedSimpArgs false
namespace Go.Proofs.Ytemhfaodgofcpaa
open Go.RowKit

set_option maxRecDepth 100000 in
set_option maxHeartbeats 8000000 in
theorem step_ack (w W : World) (b : Nat) (t : Tk) (h : TX w W b t) (ok : OkT 9 t) (hl : t.S.length < 1000) (s : Sp) (hkd : s.kd < 256) (hat : s.at_ < 65536) (hm : s.kd % 4 = 3) : Calls Try.prog 11 #[.pointer (some ⟨b, 0, none⟩), .agg (sA s)] W (fun e w' => e = .returned (.bool true) ∧ ∃ t', TX w w' b t' ∧ OkT 9 t' ∧ t'.S.length ≤ t.S.length + 1 ∧ (s.kd % 4 = 3 → t' = ⟨t.S, t.h, t.h⟩)) := by
  obtain ⟨⟨⟨nx, A0, n0, c0, rm⟩, h', A1, n1, c1, A2, n2, c2, A3, n3, c3⟩, G0, G1, G2, G3, ht⟩ := h
  obtain ⟨S, a, h⟩ := t
  obtain ⟨hcb, e1, e2, e3, s0, s1, s2, s3, a03, a12, hlow, hge⟩ := ht
  simp only at e1 e2 e3 s0 s1 s2 s3
  subst e1 e2 e3
  have ok0 := ok
  obtain ⟨ok1, ok2, ok3, ok4⟩ := ok
  simp only at ok1 ok2 ok3 ok4
  have l1 := s1.len
  subst l1
  have l2 := s2.len
  rw [List.length_take, Nat.min_eq_left ok2] at l2
  subst l2
  have l3 := s3.len
  rw [pkF_len, Nat.sub_zero] at l3
  subst l3
  have l0 := s0.len
  rw [pkF_len] at l0
  obtain ⟨kd, x, at_⟩ := s
  simp only at hl hkd hat ok0 hm
  have HR := Lib.hid (okT_right (r := 9) (by omega) (by simp only; omega) ok0)
  unfold ouT at HR
  simp only at HR
  have no0 := SO.noT s0 hcb (by decide)
  have no1 := SO.noT s1 hcb (by decide)
  have no2 := SO.noT s2 hcb (by decide)
  have no3 := SO.noT s3 hcb (by decide)
  have qm : (kd : Int).tmod 4 = 3 := (tmod_nat kd 4).trans (by rw [hm]; rfl)
  have Hm := Lib.hid hm
  clear hm
  have hM : (pkF S a).filter (fun p => decide ((h : Int) ≤ p.seq)) = pkF S h := by rw [pkF_ack (Nat.le_trans ok1 ok2), Nat.max_eq_right ok1]
  have K1 := fun V (z : RR V pcl 2 A0 n0 c0 (pkF S a)) => ack_y (S.length : Int) A0 n0 c0 (pkF S a) 9 (h : Int) V z HR.out (by omega) (by omega) (pkF S h) hM
  obtain ⟨n9, hn9⟩ : ∃ n9, (pkF S h).length = n9 := ⟨_, rfl⟩
  rw [hn9] at K1
  have HK := Lib.hid (ack_T (r := 9) (by omega) (by simp only; omega) ok0).2.2
  clear hM hn9
  go_enter Try.func11, Try.ntmps11
  go_wp2_with (first | ((with_reducible refine st_box 45 _ (sA ⟨kd, x, at_⟩) ?_ ?_); exact rfl))
  refine ⟨fun V1 g1 n1 f1 => ?_⟩
  have ne1_k := f1.ne hcb
  have no1_s0 := SO.fresh s0 (Nat.le_of_eq f1.at_)
  have no1_s1 := SO.fresh s1 (Nat.le_of_eq f1.at_)
  have no1_s2 := SO.fresh s2 (Nat.le_of_eq f1.at_)
  have no1_s3 := SO.fresh s3 (Nat.le_of_eq f1.at_)
  have up1 : w.heap.size ≤ g1 := f1.up hlow
  have bl1 := f1.bel
  clear f1
  have r2_s0 := SO.on s0 bl1
  have r2_s1 := SO.on s1 bl1
  have r2_s2 := SO.on s2 bl1
  have r2_s3 := SO.on s3 bl1
  have r3_k := le_on hcb bl1
  have l3 := le_tr hlow bl1
  clear hcb hlow
  clear s0 s1 s2 s3
  clear bl1
  have c4 : V1.cell? ⟨g1, 0, none⟩ = some (.int .u8 (kd : Int)) := CB.cell n1 0
  go_wp2_with fail
  clear c4
  have y5 := Lib.hid (show (fun V : World => CB V b 42 (kA ⟨⟨(S.length : Int), A0, n0, c0, 9⟩, (h : Int), A1, S.length, c1, A2, h, c2, A3, S.length, c3⟩)) V1.drew from CB.drew r3_k)
  refine wp_region_held_drew (S := (fun V : World => CB V b 42 (kA ⟨⟨(S.length : Int), A0, n0, c0, 9⟩, (h : Int), A1, S.length, c1, A2, h, c2, A3, S.length, c3⟩))) (by kernel_rfl) y5.out (fun hHeld => ?_)
  obtain ⟨D5, hD5⟩ : ∃ V, V1.drew = V := ⟨_, rfl⟩
  have b5 : Below V1.heap.size V1 D5 := by rw [← hD5]; exact le_dr (Below.refl _ _)
  rw [hD5] at hHeld ⊢
  clear hD5
  have r6_s0 := SO.on r2_s0 b5
  have r6_s1 := SO.on r2_s1 b5
  have r6_s2 := SO.on r2_s2 b5
  have r6_s3 := SO.on r2_s3 b5
  have r7_k := le_on r3_k b5
  have r7_s := le_on n1 b5
  have l7 := le_tr l3 b5
  clear r3_k n1 l3
  clear r2_s0 r2_s1 r2_s2 r2_s3
  clear b5
  refine wpAnyH_takeL (i := 0) (d := some 79) (v := .pointer (some ⟨b, 0, none⟩)) rfl rfl (by kernel_rfl) (by kernel_rfl) (by kernel_rfl) (fun _ _ _ h => h) (Or.inl ⟨by rfl, ?_⟩) hHeld ?_
  · intro w hSw; (try dsimp only at hSw); go_simp
  try simp only [Act.put, List.setIfInBounds_toArray, List.set_cons_zero, List.set_cons_succ]
  refine wpAnyH_takeL (i := 1) (d := some 80) (v := .pointer (some ⟨b, 0, none⟩)) rfl rfl (by kernel_rfl) (by kernel_rfl) (by kernel_rfl) (fun _ _ _ h => h) (Or.inl ⟨by rfl, ?_⟩) hHeld ?_
  · intro w hSw; (try dsimp only at hSw); go_simp
  try simp only [Act.put, List.setIfInBounds_toArray, List.set_cons_zero, List.set_cons_succ]
  refine wpAnyH_takeL (i := 2) (d := some 81) (v := .pointer (some ⟨b, 0, none⟩)) rfl rfl (by kernel_rfl) (by kernel_rfl) (by kernel_rfl) (fun _ _ _ h => h) (Or.inl ⟨by rfl, ?_⟩) hHeld ?_
  · intro w hSw; (try dsimp only at hSw); go_simp
  try simp only [Act.put, List.setIfInBounds_toArray, List.set_cons_zero, List.set_cons_succ]
  refine wpAnyH_takeL (i := 3) (d := some 82) (v := .agg (oA ⟨(S.length : Int), A0, n0, c0, 9⟩)) rfl rfl (by kernel_rfl) (by kernel_rfl) (by kernel_rfl) (fun _ _ _ h => h) (Or.inl ⟨by rfl, ?_⟩) hHeld ?_
  · intro w hSw; exact yl_part 39 _ b 0 rfl (pt := oA ⟨(S.length : Int), A0, n0, c0, 9⟩) hSw (kA_po _) Try.underlying39 rfl Try.zOu
  try simp only [Act.put, List.setIfInBounds_toArray, List.set_cons_zero, List.set_cons_succ]
  refine wpAnyH_takeL (i := 4) (d := some 83) (v := .pointer (some ⟨b, 0, none⟩)) rfl rfl (by kernel_rfl) (by kernel_rfl) (by kernel_rfl) (fun _ _ _ h => h) (Or.inl ⟨by rfl, ?_⟩) hHeld ?_
  · intro w hSw; (try dsimp only at hSw); go_simp
  try simp only [Act.put, List.setIfInBounds_toArray, List.set_cons_zero, List.set_cons_succ]
  refine wpAnyH_takeL (i := 5) (d := some 84) (v := .pointer (some ⟨b, 0, none⟩)) rfl rfl (by kernel_rfl) (by kernel_rfl) (by kernel_rfl) (fun _ _ _ h => h) (Or.inl ⟨by rfl, ?_⟩) hHeld ?_
  · intro w hSw; (try dsimp only at hSw); go_simp
  try simp only [Act.put, List.setIfInBounds_toArray, List.set_cons_zero, List.set_cons_succ]
  refine wpAnyH_takeL (i := 6) (d := some 85) (v := .pointer (some ⟨b, 3, none⟩)) rfl rfl (by kernel_rfl) (by kernel_rfl) (by kernel_rfl) (fun _ _ _ h => h) (Or.inl ⟨by rfl, ?_⟩) hHeld ?_
  · intro w hSw; (try dsimp only at hSw); go_simp
  try simp only [Act.put, List.setIfInBounds_toArray, List.set_cons_zero, List.set_cons_succ]
  refine wpAnyH_takeL (i := 7) (d := some 86) (v := .pointer (some ⟨b, 3, none⟩)) rfl rfl (by kernel_rfl) (by kernel_rfl) (by kernel_rfl) (fun _ _ _ h => h) (Or.inl ⟨by rfl, ?_⟩) hHeld ?_
  · intro w hSw; (try dsimp only at hSw); go_simp
  try simp only [Act.put, List.setIfInBounds_toArray, List.set_cons_zero, List.set_cons_succ]
  refine wpAnyH_takeL (i := 8) (d := some 87) (v := .int .i64 (h : Int)) rfl rfl (by kernel_rfl) (by kernel_rfl) (by kernel_rfl) (fun _ _ _ h => h) (Or.inl ⟨by rfl, ?_⟩) hHeld ?_
  · intro w hSw; (try dsimp only at hSw); have hcc : w.cell? ⟨b, 3, none⟩ = some (.int .i64 (h : Int)) := CB.cell hSw 3; go_simp
  try simp only [Act.put, List.setIfInBounds_toArray, List.set_cons_zero, List.set_cons_succ]
  refine wpAnyH_ready (rs := [9, 13]) (by kernel_rfl) (by simp) ?_
  refine AllReadyH.cons rfl (fun K hK => ?_) (AllReadyH.cons rfl (fun K hK => ?_) AllReadyH.nil)
  · skip
    go_simp
    have lt8_k := CB.lt r7_k
    have lt8_s := CB.lt r7_s
    have lb8 : w.heap.size ≤ D5.heap.size := Below.size (B := w.heap.size) l7
    have lu8_s0 : ∀ g, G0 = some g → g < D5.heap.size := fun g e => r6_s0.seg.lt g e
    have lu8_s3 : ∀ g, G3 = some g → g < D5.heap.size := fun g e => r6_s3.seg.lt g e
    (with_reducible refine (K1 _ (r6_s0).rr).mono ?_)
    rintro e u8 ⟨A9, c9, G9, rfl, so9, b8⟩
    have r9_s0 := SO.on r6_s0 b8
    have r9_s1 := SO.on r6_s1 b8
    have r9_s2 := SO.on r6_s2 b8
    have r9_s3 := SO.on r6_s3 b8
    have r10_k := le_on r7_k b8
    have r10_s := le_on r7_s b8
    have l10 := le_tr l7 b8
    clear r7_k r7_s l7
    clear r6_s0 r6_s1 r6_s2 r6_s3
    clear b8
    have na11 := SO.above so9 lt8_k
    have na12 := SO.above so9 lt8_s
    have ap8_s0 := ap_new so9 lu8_s0
    have ap8_s3 := ap_new so9 lu8_s3
    have sm8_s9 := SO.mono so9 lb8
    clear so9
    clear lb8 lt8_k lt8_s lu8_s0 lu8_s3
    go_wp2_with fail
    have y13 := Lib.hid (show (fun V : World => CB V b 42 (kA ⟨⟨(S.length : Int), A0, n0, c0, 9⟩, (h : Int), A1, S.length, c1, A2, h, c2, A3, S.length, c3⟩)) u8 from r10_k)
    refine hK.out _ _ y13.out (fun hHeld => ?_)
    clear hK K y13
    try simp only [Act.put, List.setIfInBounds_toArray, List.set_cons_zero, List.set_cons_succ]
    refine wpAnyH_takeL (i := 10) (d := some 78) (v := .tuple #[.agg (oA ⟨(S.length : Int), A9, n9, c9, 9⟩), .int .i64 0]) rfl rfl (by kernel_rfl) (by kernel_rfl) (by kernel_rfl) (fun _ _ _ h => h) (Or.inl ⟨by rfl, ?_⟩) hHeld ?_
    · intro w hSw; (try dsimp only at hSw); go_simp
    try simp only [Act.put, List.setIfInBounds_toArray, List.set_cons_zero, List.set_cons_succ]
    refine wpAnyH_takeL (i := 11) (d := some 89) (v := .agg (oA ⟨(S.length : Int), A9, n9, c9, 9⟩)) rfl rfl (by kernel_rfl) (by kernel_rfl) (by kernel_rfl) (fun _ _ _ h => h) (Or.inl ⟨by rfl, ?_⟩) hHeld ?_
    · intro w hSw; (try dsimp only at hSw); go_simp
    try simp only [Act.put, List.setIfInBounds_toArray, List.set_cons_zero, List.set_cons_succ]
    refine wpAnyH_takeL (i := 12) (d := some 90) (v := .int .i64 0) rfl rfl (by kernel_rfl) (by kernel_rfl) (by kernel_rfl) (fun _ _ _ h => h) (Or.inl ⟨by rfl, ?_⟩) hHeld ?_
    · intro w hSw; (try dsimp only at hSw); go_simp
    try simp only [Act.put, List.setIfInBounds_toArray, List.set_cons_zero, List.set_cons_succ]
    refine wpAnyH_ready (rs := [13]) (by kernel_rfl) (by simp) ?_
    refine AllReadyH.cons rfl (fun K hK => ?_) AllReadyH.nil
    refine rd_alloc rfl 39 rfl (some 8) rfl (oA zeroO) zero_ou ?_
    refine ⟨fun V14 g14 n14 f14 => ?_⟩
    have ne14_k := f14.ne r10_k
    have ne14_s := f14.ne r10_s
    have no14_s0 := SO.fresh r9_s0 (Nat.le_of_eq f14.at_)
    have no14_s1 := SO.fresh r9_s1 (Nat.le_of_eq f14.at_)
    have no14_s2 := SO.fresh r9_s2 (Nat.le_of_eq f14.at_)
    have no14_s3 := SO.fresh r9_s3 (Nat.le_of_eq f14.at_)
    have no14_s9 := SO.fresh sm8_s9 (Nat.le_of_eq f14.at_)
    have up14 : w.heap.size ≤ g14 := f14.up l10
    have bl14 := f14.bel
    clear f14
    have r15_s0 := SO.on r9_s0 bl14
    have r15_s1 := SO.on r9_s1 bl14
    have r15_s2 := SO.on r9_s2 bl14
    have r15_s3 := SO.on r9_s3 bl14
    have r15_s9 := SO.on sm8_s9 bl14
    have r16_k := le_on r10_k bl14
    have r16_s := le_on r10_s bl14
    have l16 := le_tr l10 bl14
    clear r10_k r10_s l10
    clear r9_s0 r9_s1 r9_s2 r9_s3 sm8_s9
    clear bl14
    have y17 := Lib.hid (show (fun V : World => CB V b 42 (kA ⟨⟨(S.length : Int), A0, n0, c0, 9⟩, (h : Int), A1, S.length, c1, A2, h, c2, A3, S.length, c3⟩)) V14 from r16_k)
    refine hK.out _ _ y17.out (fun hHeld => ?_)
    clear hK K y17
    try simp only [Act.put, List.setIfInBounds_toArray, List.set_cons_zero, List.set_cons_succ]
    refine wpAnyH_ready (rs := [14]) (by kernel_rfl) (by simp) ?_
    refine AllReadyH.cons rfl (fun K hK => ?_) AllReadyH.nil
    refine rd_store rfl 39 _ _ rfl none rfl g14 (oA ⟨(S.length : Int), A9, n9, c9, 9⟩) rfl rfl n14 Try.zOu rfl (oA_one _) ?_
    refine ⟨fun V18 n18 k18 => ?_⟩
    have m18_k := k18.on r16_k ne14_k
    have m18_s := k18.on r16_s ne14_s
    have m18_s0 := SO.wr r15_s0 k18 no14_s0
    have m18_s1 := SO.wr r15_s1 k18 no14_s1
    have m18_s2 := SO.wr r15_s2 k18 no14_s2
    have m18_s3 := SO.wr r15_s3 k18 no14_s3
    have m18_s9 := SO.wr r15_s9 k18 no14_s9
    have o18 := k18.bel _ _ l16 up14
    clear k18
    clear n14 r16_k r16_s r15_s0 r15_s1 r15_s2 r15_s3 r15_s9 l16
    have y19 := Lib.hid (show (fun V : World => CB V b 42 (kA ⟨⟨(S.length : Int), A0, n0, c0, 9⟩, (h : Int), A1, S.length, c1, A2, h, c2, A3, S.length, c3⟩)) V18 from m18_k)
    refine hK.out _ _ y19.out (fun hHeld => ?_)
    clear hK K y19
    try simp only [Act.put, List.setIfInBounds_toArray, List.set_cons_zero, List.set_cons_succ]
    refine wpAnyH_takeL (i := 15) (d := some 9) (v := .int .i64 0) rfl rfl (by kernel_rfl) (by kernel_rfl) (by kernel_rfl) (fun _ _ _ h => h) (Or.inl ⟨by rfl, ?_⟩) hHeld ?_
    · intro w hSw; (try dsimp only at hSw); go_simp
    try simp only [Act.put, List.setIfInBounds_toArray, List.set_cons_zero, List.set_cons_succ]
    refine wpAnyH_done (by kernel_rfl) ?_ _
    go_wp2_with (first | ((with_reducible refine st_load 39 _ g14 ?_ n18 Try.underlying39 ?_ ?_ ?_); exact rfl; exact rfl; exact Try.zOu) | ((with_reducible refine st_mid 39 _ _ b 0 (oA ⟨(S.length : Int), A9, n9, c9, 9⟩) ?_ ?_ m18_k ?_ (new := kA ⟨⟨(S.length : Int), A9, n9, c9, 9⟩, (h : Int), A1, S.length, c1, A2, h, c2, A3, S.length, c3⟩) ?_ ?_ ?_ ?_); exact rfl; exact rfl; exact (by decide : 0 + 3 ≤ 7); exact kA_o _ _; exact Try.zOu; exact oA_one _))
    refine ⟨fun V20 n20 k20 => ?_⟩
    have m20_s := k20.on m18_s (Ne.symm ne1_k)
    have m20_o8 := k20.on n18 (Ne.symm ne14_k)
    have m20_s0 := SO.wr m18_s0 k20 no0
    have m20_s1 := SO.wr m18_s1 k20 no1
    have m20_s2 := SO.wr m18_s2 k20 no2
    have m20_s3 := SO.wr m18_s3 k20 no3
    have m20_s9 := SO.wr m18_s9 k20 na11
    have o20 := k20.bel _ _ o18 hge
    clear k20
    clear m18_k m18_s n18 m18_s0 m18_s1 m18_s2 m18_s3 m18_s9 o18
    go_wp2_with fail
    go_ret
    exact ⟨rfl, ⟨S, h, h⟩, ⟨⟨⟨(S.length : Int), A9, n9, c9, 9⟩, (h : Int), A1, S.length, c1, A2, h, c2, A3, S.length, c3⟩, G9, G1, G2, G3, n20, rfl, rfl, rfl, m20_s9, m20_s1, m20_s2, m20_s3, ap8_s3, a12, o20, hge⟩, HK.out, by simp, fun e => rfl⟩
  · skip
    refine rd_alloc rfl 39 rfl (some 8) rfl (oA zeroO) zero_ou ?_
    refine ⟨fun V8 g8 n8 f8 => ?_⟩
    have ne8_k := f8.ne r7_k
    have ne8_s := f8.ne r7_s
    have no8_s0 := SO.fresh r6_s0 (Nat.le_of_eq f8.at_)
    have no8_s1 := SO.fresh r6_s1 (Nat.le_of_eq f8.at_)
    have no8_s2 := SO.fresh r6_s2 (Nat.le_of_eq f8.at_)
    have no8_s3 := SO.fresh r6_s3 (Nat.le_of_eq f8.at_)
    have up8 : w.heap.size ≤ g8 := f8.up l7
    have bl8 := f8.bel
    clear f8
    have r9_s0 := SO.on r6_s0 bl8
    have r9_s1 := SO.on r6_s1 bl8
    have r9_s2 := SO.on r6_s2 bl8
    have r9_s3 := SO.on r6_s3 bl8
    have r10_k := le_on r7_k bl8
    have r10_s := le_on r7_s bl8
    have l10 := le_tr l7 bl8
    clear r7_k r7_s l7
    clear r6_s0 r6_s1 r6_s2 r6_s3
    clear bl8
    have y11 := Lib.hid (show (fun V : World => CB V b 42 (kA ⟨⟨(S.length : Int), A0, n0, c0, 9⟩, (h : Int), A1, S.length, c1, A2, h, c2, A3, S.length, c3⟩)) V8 from r10_k)
    refine hK.out _ _ y11.out (fun hHeld => ?_)
    clear hK K y11
    try simp only [Act.put, List.setIfInBounds_toArray, List.set_cons_zero, List.set_cons_succ]
    refine wpAnyH_ready (rs := [9]) (by kernel_rfl) (by simp) ?_
    refine AllReadyH.cons rfl (fun K hK => ?_) AllReadyH.nil
    go_simp
    have lt12_k := CB.lt r10_k
    have lt12_s := CB.lt r10_s
    have lt12_o8 := CB.lt n8
    have lb12 : w.heap.size ≤ V8.heap.size := Below.size (B := w.heap.size) l10
    have lu12_s0 : ∀ g, G0 = some g → g < V8.heap.size := fun g e => r9_s0.seg.lt g e
    have lu12_s3 : ∀ g, G3 = some g → g < V8.heap.size := fun g e => r9_s3.seg.lt g e
    (with_reducible refine (K1 _ (r9_s0).rr).mono ?_)
    rintro e u12 ⟨A9, c9, G9, rfl, so9, b12⟩
    have r13_s0 := SO.on r9_s0 b12
    have r13_s1 := SO.on r9_s1 b12
    have r13_s2 := SO.on r9_s2 b12
    have r13_s3 := SO.on r9_s3 b12
    have r14_k := le_on r10_k b12
    have r14_s := le_on r10_s b12
    have r14_o8 := le_on n8 b12
    have l14 := le_tr l10 b12
    clear r10_k r10_s n8 l10
    clear r9_s0 r9_s1 r9_s2 r9_s3
    clear b12
    have na15 := SO.above so9 lt12_k
    have na16 := SO.above so9 lt12_s
    have na17 := SO.above so9 lt12_o8
    have ap12_s0 := ap_new so9 lu12_s0
    have ap12_s3 := ap_new so9 lu12_s3
    have sm12_s9 := SO.mono so9 lb12
    clear so9
    clear lb12 lt12_k lt12_s lt12_o8 lu12_s0 lu12_s3
    go_wp2_with fail
    have y18 := Lib.hid (show (fun V : World => CB V b 42 (kA ⟨⟨(S.length : Int), A0, n0, c0, 9⟩, (h : Int), A1, S.length, c1, A2, h, c2, A3, S.length, c3⟩)) u12 from r14_k)
    refine hK.out _ _ y18.out (fun hHeld => ?_)
    clear hK K y18
    try simp only [Act.put, List.setIfInBounds_toArray, List.set_cons_zero, List.set_cons_succ]
    refine wpAnyH_takeL (i := 10) (d := some 78) (v := .tuple #[.agg (oA ⟨(S.length : Int), A9, n9, c9, 9⟩), .int .i64 0]) rfl rfl (by kernel_rfl) (by kernel_rfl) (by kernel_rfl) (fun _ _ _ h => h) (Or.inl ⟨by rfl, ?_⟩) hHeld ?_
    · intro w hSw; (try dsimp only at hSw); go_simp
    try simp only [Act.put, List.setIfInBounds_toArray, List.set_cons_zero, List.set_cons_succ]
    refine wpAnyH_takeL (i := 11) (d := some 89) (v := .agg (oA ⟨(S.length : Int), A9, n9, c9, 9⟩)) rfl rfl (by kernel_rfl) (by kernel_rfl) (by kernel_rfl) (fun _ _ _ h => h) (Or.inl ⟨by rfl, ?_⟩) hHeld ?_
    · intro w hSw; (try dsimp only at hSw); go_simp
    try simp only [Act.put, List.setIfInBounds_toArray, List.set_cons_zero, List.set_cons_succ]
    refine wpAnyH_takeL (i := 12) (d := some 90) (v := .int .i64 0) rfl rfl (by kernel_rfl) (by kernel_rfl) (by kernel_rfl) (fun _ _ _ h => h) (Or.inl ⟨by rfl, ?_⟩) hHeld ?_
    · intro w hSw; (try dsimp only at hSw); go_simp
    try simp only [Act.put, List.setIfInBounds_toArray, List.set_cons_zero, List.set_cons_succ]
    refine wpAnyH_ready (rs := [14]) (by kernel_rfl) (by simp) ?_
    refine AllReadyH.cons rfl (fun K hK => ?_) AllReadyH.nil
    refine rd_store rfl 39 _ _ rfl none rfl g8 (oA ⟨(S.length : Int), A9, n9, c9, 9⟩) rfl rfl r14_o8 Try.zOu rfl (oA_one _) ?_
    refine ⟨fun V19 n19 k19 => ?_⟩
    have m19_k := k19.on r14_k ne8_k
    have m19_s := k19.on r14_s ne8_s
    have m19_s0 := SO.wr r13_s0 k19 no8_s0
    have m19_s1 := SO.wr r13_s1 k19 no8_s1
    have m19_s2 := SO.wr r13_s2 k19 no8_s2
    have m19_s3 := SO.wr r13_s3 k19 no8_s3
    have m19_s9 := SO.wr sm12_s9 k19 na17
    have o19 := k19.bel _ _ l14 up8
    clear k19
    clear r14_o8 r14_k r14_s r13_s0 r13_s1 r13_s2 r13_s3 sm12_s9 l14
    have y20 := Lib.hid (show (fun V : World => CB V b 42 (kA ⟨⟨(S.length : Int), A0, n0, c0, 9⟩, (h : Int), A1, S.length, c1, A2, h, c2, A3, S.length, c3⟩)) V19 from m19_k)
    refine hK.out _ _ y20.out (fun hHeld => ?_)
    clear hK K y20
    try simp only [Act.put, List.setIfInBounds_toArray, List.set_cons_zero, List.set_cons_succ]
    refine wpAnyH_takeL (i := 15) (d := some 9) (v := .int .i64 0) rfl rfl (by kernel_rfl) (by kernel_rfl) (by kernel_rfl) (fun _ _ _ h => h) (Or.inl ⟨by rfl, ?_⟩) hHeld ?_
    · intro w hSw; (try dsimp only at hSw); go_simp
    try simp only [Act.put, List.setIfInBounds_toArray, List.set_cons_zero, List.set_cons_succ]
    refine wpAnyH_done (by kernel_rfl) ?_ _
    go_wp2_with (first | ((with_reducible refine st_load 39 _ g8 ?_ n19 Try.underlying39 ?_ ?_ ?_); exact rfl; exact rfl; exact Try.zOu) | ((with_reducible refine st_mid 39 _ _ b 0 (oA ⟨(S.length : Int), A9, n9, c9, 9⟩) ?_ ?_ m19_k ?_ (new := kA ⟨⟨(S.length : Int), A9, n9, c9, 9⟩, (h : Int), A1, S.length, c1, A2, h, c2, A3, S.length, c3⟩) ?_ ?_ ?_ ?_); exact rfl; exact rfl; exact (by decide : 0 + 3 ≤ 7); exact kA_o _ _; exact Try.zOu; exact oA_one _))
    refine ⟨fun V21 n21 k21 => ?_⟩
    have m21_s := k21.on m19_s (Ne.symm ne1_k)
    have m21_o8 := k21.on n19 (Ne.symm ne8_k)
    have m21_s0 := SO.wr m19_s0 k21 no0
    have m21_s1 := SO.wr m19_s1 k21 no1
    have m21_s2 := SO.wr m19_s2 k21 no2
    have m21_s3 := SO.wr m19_s3 k21 no3
    have m21_s9 := SO.wr m19_s9 k21 na15
    have o21 := k21.bel _ _ o19 hge
    clear k21
    clear m19_k m19_s n19 m19_s0 m19_s1 m19_s2 m19_s3 m19_s9 o19
    go_wp2_with fail
    go_ret
    exact ⟨rfl, ⟨S, h, h⟩, ⟨⟨⟨(S.length : Int), A9, n9, c9, 9⟩, (h : Int), A1, S.length, c1, A2, h, c2, A3, S.length, c3⟩, G9, G1, G2, G3, n21, rfl, rfl, rfl, m21_s9, m21_s1, m21_s2, m21_s3, ap12_s3, a12, o21, hge⟩, HK.out, by simp, fun e => rfl⟩
end Go.Proofs.Ytemhfaodgofcpaa
