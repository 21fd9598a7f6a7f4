/-
  Layer 16: step of two that talk, a packet comes. Condition: the talk is as it may be.
-/
import Derived.Test.YtemhfaodgofcpaaPaP0
set_option linter.unusedVariables false
set_option linter.unusedSimpArgs false
namespace Go.Proofs.Ytemhfaodgofcpaa
open Go.RowKit

set_option maxRecDepth 100000 in
set_option maxHeartbeats 8000000 in
theorem step_pkt (w W : World) (b : Nat) (t : Tk) (h : TX w W b t) (ok : OkT 9 t) (hl : t.S.length < 1000) (s : Sp) (hkd : s.kd < 256) (hat : s.at_ < 65536) (hm : ¬ s.kd % 4 = 0 ∧ ¬ s.kd % 4 = 3) : Calls Try.prog 11 #[.pointer (some ⟨b, 0, none⟩), .agg (sA s)] W (fun e w' => e = .returned (.bool true) ∧ ∃ t', TX w w' b t' ∧ OkT 9 t' ∧ t'.S.length ≤ t.S.length + 1 ∧ (s.kd % 4 = 3 → t' = ⟨t.S, t.h, t.h⟩)) := by
  obtain ⟨⟨⟨nx, A0, n0, c0, rm⟩, h', A1, n1, c1, A2, n2, c2, A3, n3, c3⟩, G0, G1, G2, G3, ht⟩ := h
  obtain ⟨S, a, h⟩ := t
  obtain ⟨hcb, e1, e2, e3, s0, s1, s2, s3, a03, a12, hlow, hge⟩ := ht
  simp only at e1 e2 e3 s0 s1 s2 s3
  subst e1 e2 e3
  have ok0 := ok
  obtain ⟨ok1, ok2, ok3, ok4⟩ := ok
  simp only at ok1 ok2 ok3 ok4
  have l1 := s1.len
  subst l1
  have l2 := s2.len
  rw [List.length_take, Nat.min_eq_left ok2] at l2
  subst l2
  have l3 := s3.len
  rw [pkF_len, Nat.sub_zero] at l3
  subst l3
  have l0 := s0.len
  rw [pkF_len] at l0
  obtain ⟨kd, x, at_⟩ := s
  simp only at hl hkd hat ok0 hm
  have HR := Lib.hid (okT_right (r := 9) (by omega) (by simp only; omega) ok0)
  unfold ouT at HR
  simp only at HR
  have no0 := SO.noT s0 hcb (by decide)
  have no1 := SO.noT s1 hcb (by decide)
  have no2 := SO.noT s2 hcb (by decide)
  have no3 := SO.noT s3 hcb (by decide)
  generalize hN : S.length = N at hcb s1 s3 l0 ok2 ok4 hl
  obtain ⟨m, hmm⟩ : ∃ m, kd % 4 = m := ⟨_, rfl⟩
  rw [hmm] at hm
  obtain ⟨h0, h3⟩ := hm
  have qm : (kd : Int).tmod 4 = (m : Int) := (tmod_nat kd 4).trans (by rw [hmm])
  have Hm := Lib.hid hmm
  clear hmm
  have q0 : ((m : Int) == 0) = false := by simp [h0]
  have q3 : ((m : Int) == 3) = false := by simp; omega
  have HK := Lib.hid ok0
  have HM := Lib.hid h3
  have HN := Lib.hid hN
  by_cases hz : N = 0
  · have qz : decide ((N : Int) > 0) = false := by simp; omega
    have qz' : decide ((0 : Int) < (N : Int)) = false := by simp; omega
    have qz3 : decide (0 < N) = false := by simp; omega
    clear hz h0 h3 hN
    go_enter Try.func11, Try.ntmps11
    go_wp2_with (first | ((with_reducible refine st_box 45 _ (sA ⟨kd, x, at_⟩) ?_ ?_); exact rfl))
    refine ⟨fun V1 g1 n1 f1 => ?_⟩
    have ne1_k := f1.ne hcb
    have no1_s0 := SO.fresh s0 (Nat.le_of_eq f1.at_)
    have no1_s1 := SO.fresh s1 (Nat.le_of_eq f1.at_)
    have no1_s2 := SO.fresh s2 (Nat.le_of_eq f1.at_)
    have no1_s3 := SO.fresh s3 (Nat.le_of_eq f1.at_)
    have up1 : w.heap.size ≤ g1 := f1.up hlow
    have bl1 := f1.bel
    clear f1
    have r2_s0 := SO.on s0 bl1
    have r2_s1 := SO.on s1 bl1
    have r2_s2 := SO.on s2 bl1
    have r2_s3 := SO.on s3 bl1
    have r3_k := le_on hcb bl1
    have l3 := le_tr hlow bl1
    clear hcb hlow
    clear s0 s1 s2 s3
    clear bl1
    have c4 : V1.cell? ⟨g1, 0, none⟩ = some (.int .u8 (kd : Int)) := CB.cell n1 0
    have c5 : V1.cell? ⟨b, 6, none⟩ = some (.slice A3 N c3) := CB.cell r3_k 6
    go_wp2_with fail
    go_ret
    exact ⟨rfl, ⟨S, a, h⟩, ⟨⟨⟨(N : Int), A0, n0, c0, 9⟩, (h : Int), A1, N, c1, A2, h, c2, A3, N, c3⟩, G0, G1, G2, G3, r3_k, (by rw [HN.out]), rfl, rfl, r2_s0, r2_s1, r2_s2, r2_s3, a03, a12, l3, hge⟩, HK.out, Nat.le_trans (Nat.le_of_eq HN.out) (Nat.le_succ _), fun e => by rw [Hm.out] at e; exact absurd e HM.out⟩
  obtain ⟨j, hj⟩ : ∃ j, at_ % N = j := ⟨_, rfl⟩
  have hjl : j < N := by rw [← hj]; exact Nat.mod_lt _ (by omega)
  have qj : (at_ : Int).tmod (N : Int) = (j : Int) := by rw [tmod_nat, hj]
  have qz : decide ((N : Int) > 0) = true := by simp; omega
  have qz' : decide ((0 : Int) < (N : Int)) = true := by simp; omega
  have qn : ¬ (N : Int) = 0 := by omega
  have qn2 : ¬ N = 0 := hz
  have qz3 : decide (0 < N) = true := by simp; omega
  have qw : IntKind.i64.wrap (at_ : Int) = (at_ : Int) := IntWalk.i64_in _ (by omega)
  have j1 : (j : Int) < (N : Int) := by omega
  have j2 : (0 : Int) ≤ (j : Int) := by omega
  obtain ⟨y, hy⟩ : ∃ y, S[j]? = some y := ⟨S[j]'(by rw [hN]; exact hjl), List.getElem?_eq_getElem _⟩
  have hel : (pkF S 0)[j]? = some ⟨(j : Int), y⟩ := by rw [pkF_at, Nat.zero_add, hy]; rfl
  obtain ⟨g3, o3, y0, _, hA3, _⟩ := s3.rr.elem hjl
  subst hA3
  clear hz h0 h3 hj hN
  go_enter Try.func11, Try.ntmps11
  go_wp2_with (first | ((with_reducible refine st_box 45 _ (sA ⟨kd, x, at_⟩) ?_ ?_); exact rfl))
  refine ⟨fun V1 g1 n1 f1 => ?_⟩
  have ne1_k := f1.ne hcb
  have no1_s0 := SO.fresh s0 (Nat.le_of_eq f1.at_)
  have no1_s1 := SO.fresh s1 (Nat.le_of_eq f1.at_)
  have no1_s2 := SO.fresh s2 (Nat.le_of_eq f1.at_)
  have no1_s3 := SO.fresh s3 (Nat.le_of_eq f1.at_)
  have up1 : w.heap.size ≤ g1 := f1.up hlow
  have bl1 := f1.bel
  clear f1
  have r2_s0 := SO.on s0 bl1
  have r2_s1 := SO.on s1 bl1
  have r2_s2 := SO.on s2 bl1
  have r2_s3 := SO.on s3 bl1
  have r3_k := le_on hcb bl1
  have l3 := le_tr hlow bl1
  clear hcb hlow
  clear s0 s1 s2 s3
  clear bl1
  have c4 : V1.cell? ⟨g1, 0, none⟩ = some (.int .u8 (kd : Int)) := CB.cell n1 0
  have c5 : V1.cell? ⟨b, 6, none⟩ = some (.slice (some ⟨g3, o3, none⟩) N c3) := CB.cell r3_k 6
  go_wp2_with fail
  clear c4 c5
  have y6 := Lib.hid (show (fun V : World => True) V1.drew from trivial)
  refine wp_region_held_drew (S := (fun V : World => True)) (by kernel_rfl) y6.out (fun hHeld => ?_)
  obtain ⟨D6, hD6⟩ : ∃ V, V1.drew = V := ⟨_, rfl⟩
  have b6 : Below V1.heap.size V1 D6 := by rw [← hD6]; exact le_dr (Below.refl _ _)
  rw [hD6]
  clear hD6
  have r7_s0 := SO.on r2_s0 b6
  have r7_s1 := SO.on r2_s1 b6
  have r7_s2 := SO.on r2_s2 b6
  have r7_s3 := SO.on r2_s3 b6
  have r8_k := le_on r3_k b6
  have r8_s := le_on n1 b6
  have l8 := le_tr l3 b6
  clear r3_k n1 l3
  clear r2_s0 r2_s1 r2_s2 r2_s3
  clear b6
  refine wpAnyH_takeL (i := 0) (d := some 19) (v := .pointer (some ⟨b, 0, none⟩)) rfl rfl (by kernel_rfl) (by kernel_rfl) (by kernel_rfl) (fun _ _ _ h => h) (Or.inl ⟨by rfl, ?_⟩) hHeld ?_
  · intro w hSw; (try dsimp only at hSw); go_simp
  try simp only [Act.put, List.setIfInBounds_toArray, List.set_cons_zero, List.set_cons_succ]
  refine wpAnyH_takeL (i := 1) (d := some 20) (v := .pointer (some ⟨b, 0, none⟩)) rfl rfl (by kernel_rfl) (by kernel_rfl) (by kernel_rfl) (fun _ _ _ h => h) (Or.inl ⟨by rfl, ?_⟩) hHeld ?_
  · intro w hSw; (try dsimp only at hSw); go_simp
  try simp only [Act.put, List.setIfInBounds_toArray, List.set_cons_zero, List.set_cons_succ]
  refine wpAnyH_takeL (i := 2) (d := some 21) (v := .pointer (some ⟨b, 0, none⟩)) rfl rfl (by kernel_rfl) (by kernel_rfl) (by kernel_rfl) (fun _ _ _ h => h) (Or.inl ⟨by rfl, ?_⟩) hHeld ?_
  · intro w hSw; (try dsimp only at hSw); go_simp
  try simp only [Act.put, List.setIfInBounds_toArray, List.set_cons_zero, List.set_cons_succ]
  refine wpAnyH_takeL (i := 3) (d := some 22) (v := .pointer (some ⟨b, 6, none⟩)) rfl rfl (by kernel_rfl) (by kernel_rfl) (by kernel_rfl) (fun _ _ _ h => h) (Or.inl ⟨by rfl, ?_⟩) hHeld ?_
  · intro w hSw; (try dsimp only at hSw); go_simp
  try simp only [Act.put, List.setIfInBounds_toArray, List.set_cons_zero, List.set_cons_succ]
  refine wpAnyH_takeL (i := 5) (d := some 24) (v := .pointer (some ⟨g1, 2, none⟩)) rfl rfl (by kernel_rfl) (by kernel_rfl) (by kernel_rfl) (fun _ _ _ h => h) (Or.inl ⟨by rfl, ?_⟩) hHeld ?_
  · intro w hSw; (try dsimp only at hSw); go_simp
  try simp only [Act.put, List.setIfInBounds_toArray, List.set_cons_zero, List.set_cons_succ]
  refine wpAnyH_takeL (i := 8) (d := some 27) (v := .pointer (some ⟨b, 0, none⟩)) rfl rfl (by kernel_rfl) (by kernel_rfl) (by kernel_rfl) (fun _ _ _ h => h) (Or.inl ⟨by rfl, ?_⟩) hHeld ?_
  · intro w hSw; (try dsimp only at hSw); go_simp
  try simp only [Act.put, List.setIfInBounds_toArray, List.set_cons_zero, List.set_cons_succ]
  refine wpAnyH_takeL (i := 9) (d := some 28) (v := .pointer (some ⟨b, 0, none⟩)) rfl rfl (by kernel_rfl) (by kernel_rfl) (by kernel_rfl) (fun _ _ _ h => h) (Or.inl ⟨by rfl, ?_⟩) hHeld ?_
  · intro w hSw; (try dsimp only at hSw); go_simp
  try simp only [Act.put, List.setIfInBounds_toArray, List.set_cons_zero, List.set_cons_succ]
  refine wpAnyH_takeL (i := 10) (d := some 29) (v := .pointer (some ⟨b, 6, none⟩)) rfl rfl (by kernel_rfl) (by kernel_rfl) (by kernel_rfl) (fun _ _ _ h => h) (Or.inl ⟨by rfl, ?_⟩) hHeld ?_
  · intro w hSw; (try dsimp only at hSw); go_simp
  try simp only [Act.put, List.setIfInBounds_toArray, List.set_cons_zero, List.set_cons_succ]
  refine wpAnyH_ready (rs := [4, 6, 11]) (by kernel_rfl) (by simp) ?_
  refine AllReadyH.cons rfl (fun K hK => ?_) (AllReadyH.cons rfl (fun K hK => ?_) (AllReadyH.cons rfl (fun K hK => ?_) AllReadyH.nil))
  · skip
    refine rd_load rfl 37 _ rfl (some 23) rfl (.slice (some ⟨g3, o3, none⟩) N c3) b (6) rfl (ld_pp (CB.cell r8_k 6)) ?_
    refine ⟨?_⟩
    have y9 := Lib.hid (show (fun V : World => True) D6 from trivial)
    refine hK.out _ _ y9.out (fun hHeld => ?_)
    clear hK K y9
    try simp only [Act.put, List.setIfInBounds_toArray, List.set_cons_zero, List.set_cons_succ]
    refine wpAnyH_ready (rs := [6, 11]) (by kernel_rfl) (by simp) ?_
    refine AllReadyH.cons rfl (fun K hK => ?_) (AllReadyH.cons rfl (fun K hK => ?_) AllReadyH.nil)
    · skip
      refine rd_load rfl 43 _ rfl (some 25) rfl (.int .u16 (at_ : Int)) g1 (2) rfl (ld_u16 (CB.cell r8_s 2)) ?_
      refine ⟨?_⟩
      have y10 := Lib.hid (show (fun V : World => True) D6 from trivial)
      refine hK.out _ _ y10.out (fun hHeld => ?_)
      clear hK K y10
      try simp only [Act.put, List.setIfInBounds_toArray, List.set_cons_zero, List.set_cons_succ]
      refine wpAnyH_takeL (i := 7) (d := some 26) (v := .int .i64 (at_ : Int)) rfl rfl (by kernel_rfl) (by kernel_rfl) (by kernel_rfl) (fun _ _ _ h => h) (Or.inl ⟨by rfl, ?_⟩) hHeld ?_
      · intro w hSw; (try dsimp only at hSw); go_simp
      try simp only [Act.put, List.setIfInBounds_toArray, List.set_cons_zero, List.set_cons_succ]
      refine wpAnyH_ready (rs := [11]) (by kernel_rfl) (by simp) ?_
      refine AllReadyH.cons rfl (fun K hK => ?_) AllReadyH.nil
      refine rd_load rfl 37 _ rfl (some 30) rfl (.slice (some ⟨g3, o3, none⟩) N c3) b (6) rfl (ld_pp (CB.cell r8_k 6)) ?_
      refine ⟨?_⟩
      have y11 := Lib.hid (show (fun V : World => True) D6 from trivial)
      refine hK.out _ _ y11.out (fun hHeld => ?_)
      clear hK K y11
      try simp only [Act.put, List.setIfInBounds_toArray, List.set_cons_zero, List.set_cons_succ]
      refine wpAnyH_takeL (i := 12) (d := some 31) (v := .int .i64 (N : Int)) rfl rfl (by kernel_rfl) (by kernel_rfl) (by kernel_rfl) (fun _ _ _ h => h) (Or.inl ⟨by rfl, ?_⟩) hHeld ?_
      · intro w hSw; (try dsimp only at hSw); go_simp
      try simp only [Act.put, List.setIfInBounds_toArray, List.set_cons_zero, List.set_cons_succ]
      refine wpAnyH_takeL (i := 13) (d := some 32) (v := .int .i64 (j : Int)) rfl rfl (by kernel_rfl) (by kernel_rfl) (by kernel_rfl) (fun _ _ _ h => h) (Or.inl ⟨by rfl, ?_⟩) hHeld ?_
      · intro w hSw; (try dsimp only at hSw); go_simp
      try simp only [Act.put, List.setIfInBounds_toArray, List.set_cons_zero, List.set_cons_succ]
      refine wpAnyH_takeL (i := 14) (d := some 33) (v := .pointer (some ⟨g3, o3 + j * 2, none⟩)) rfl rfl (by kernel_rfl) (by kernel_rfl) (by kernel_rfl) (fun _ _ _ h => h) (Or.inl ⟨by rfl, ?_⟩) hHeld ?_
      · intro w hSw; (try dsimp only at hSw); go_simp
      try simp only [Act.put, List.setIfInBounds_toArray, List.set_cons_zero, List.set_cons_succ]
      refine wpAnyH_ready (rs := [15]) (by kernel_rfl) (by simp) ?_
      refine AllReadyH.cons rfl (fun K hK => ?_) AllReadyH.nil
      refine rd_load rfl 30 _ rfl (some 34) rfl (.agg (pA ⟨(j : Int), y⟩)) g3 (o3 + j * 2) rfl (ld_el 30 g3 (o3 + j * 2) (pA ⟨(j : Int), y⟩) (r7_s3.rr.elemAt hel rfl) Try.underlying30 rfl Try.zPk) ?_
      refine ⟨?_⟩
      have y12 := Lib.hid (show (fun V : World => True) D6 from trivial)
      refine hK.out _ _ y12.out (fun hHeld => ?_)
      clear hK K y12
      try simp only [Act.put, List.setIfInBounds_toArray, List.set_cons_zero, List.set_cons_succ]
      refine wpAnyH_ready (rs := [16]) (by kernel_rfl) (by simp) ?_
      refine AllReadyH.cons rfl (fun K hK => ?_) AllReadyH.nil
      go_simp
      have tx13 : TX w D6 b ⟨S, a, h⟩ := ⟨⟨⟨(N : Int), A0, n0, c0, 9⟩, (h : Int), A1, N, c1, A2, h, c2, (some ⟨g3, o3, none⟩), N, c3⟩, G0, G1, G2, G3, r8_k, (by rw [HN.out]), rfl, rfl, r7_s0, r7_s1, r7_s2, r7_s3, a03, a12, l8, hge⟩
      have hl9 : ({ S := S, a := a, h := h } : Tk).S.length ≤ 1000 := by rw [HN.out]; omega
      (with_reducible refine (hear_k w D6 b ⟨S, a, h⟩ tx13 HK.out hl9 j y hy).mono ?_)
      rintro e u13 ⟨rfl, hx13, hp13⟩
      clear hp13
      go_wp2_with fail
      have y14 := Lib.hid (show (fun V : World => True) u13 from trivial)
      refine hK.out _ _ y14.out (fun hHeld => ?_)
      clear hK K y14
      try simp only [Act.put, List.setIfInBounds_toArray, List.set_cons_zero, List.set_cons_succ]
      refine wpAnyH_done (by kernel_rfl) ?_ _
      go_wp2_with fail
      go_ret
      exact ⟨rfl, _, hx13, heT_ok HK.out (by rw [HN.out]; exact hjl), by rw [heT_S]; exact Nat.le_trans (Nat.le_of_eq HN.out) (Nat.le_succ _), fun e => by rw [Hm.out] at e; exact absurd e HM.out⟩
    · skip
      refine rd_load rfl 37 _ rfl (some 30) rfl (.slice (some ⟨g3, o3, none⟩) N c3) b (6) rfl (ld_pp (CB.cell r8_k 6)) ?_
      refine ⟨?_⟩
      have y10 := Lib.hid (show (fun V : World => True) D6 from trivial)
      refine hK.out _ _ y10.out (fun hHeld => ?_)
      clear hK K y10
      try simp only [Act.put, List.setIfInBounds_toArray, List.set_cons_zero, List.set_cons_succ]
      refine wpAnyH_takeL (i := 12) (d := some 31) (v := .int .i64 (N : Int)) rfl rfl (by kernel_rfl) (by kernel_rfl) (by kernel_rfl) (fun _ _ _ h => h) (Or.inl ⟨by rfl, ?_⟩) hHeld ?_
      · intro w hSw; (try dsimp only at hSw); go_simp
      try simp only [Act.put, List.setIfInBounds_toArray, List.set_cons_zero, List.set_cons_succ]
      refine wpAnyH_ready (rs := [6]) (by kernel_rfl) (by simp) ?_
      refine AllReadyH.cons rfl (fun K hK => ?_) AllReadyH.nil
      refine rd_load rfl 43 _ rfl (some 25) rfl (.int .u16 (at_ : Int)) g1 (2) rfl (ld_u16 (CB.cell r8_s 2)) ?_
      refine ⟨?_⟩
      have y11 := Lib.hid (show (fun V : World => True) D6 from trivial)
      refine hK.out _ _ y11.out (fun hHeld => ?_)
      clear hK K y11
      try simp only [Act.put, List.setIfInBounds_toArray, List.set_cons_zero, List.set_cons_succ]
      refine wpAnyH_takeL (i := 7) (d := some 26) (v := .int .i64 (at_ : Int)) rfl rfl (by kernel_rfl) (by kernel_rfl) (by kernel_rfl) (fun _ _ _ h => h) (Or.inl ⟨by rfl, ?_⟩) hHeld ?_
      · intro w hSw; (try dsimp only at hSw); go_simp
      try simp only [Act.put, List.setIfInBounds_toArray, List.set_cons_zero, List.set_cons_succ]
      refine wpAnyH_takeL (i := 13) (d := some 32) (v := .int .i64 (j : Int)) rfl rfl (by kernel_rfl) (by kernel_rfl) (by kernel_rfl) (fun _ _ _ h => h) (Or.inl ⟨by rfl, ?_⟩) hHeld ?_
      · intro w hSw; (try dsimp only at hSw); go_simp
      try simp only [Act.put, List.setIfInBounds_toArray, List.set_cons_zero, List.set_cons_succ]
      refine wpAnyH_takeL (i := 14) (d := some 33) (v := .pointer (some ⟨g3, o3 + j * 2, none⟩)) rfl rfl (by kernel_rfl) (by kernel_rfl) (by kernel_rfl) (fun _ _ _ h => h) (Or.inl ⟨by rfl, ?_⟩) hHeld ?_
      · intro w hSw; (try dsimp only at hSw); go_simp
      try simp only [Act.put, List.setIfInBounds_toArray, List.set_cons_zero, List.set_cons_succ]
      refine wpAnyH_ready (rs := [15]) (by kernel_rfl) (by simp) ?_
      refine AllReadyH.cons rfl (fun K hK => ?_) AllReadyH.nil
      refine rd_load rfl 30 _ rfl (some 34) rfl (.agg (pA ⟨(j : Int), y⟩)) g3 (o3 + j * 2) rfl (ld_el 30 g3 (o3 + j * 2) (pA ⟨(j : Int), y⟩) (r7_s3.rr.elemAt hel rfl) Try.underlying30 rfl Try.zPk) ?_
      refine ⟨?_⟩
      have y12 := Lib.hid (show (fun V : World => True) D6 from trivial)
      refine hK.out _ _ y12.out (fun hHeld => ?_)
      clear hK K y12
      try simp only [Act.put, List.setIfInBounds_toArray, List.set_cons_zero, List.set_cons_succ]
      refine wpAnyH_ready (rs := [16]) (by kernel_rfl) (by simp) ?_
      refine AllReadyH.cons rfl (fun K hK => ?_) AllReadyH.nil
      go_simp
      have tx13 : TX w D6 b ⟨S, a, h⟩ := ⟨⟨⟨(N : Int), A0, n0, c0, 9⟩, (h : Int), A1, N, c1, A2, h, c2, (some ⟨g3, o3, none⟩), N, c3⟩, G0, G1, G2, G3, r8_k, (by rw [HN.out]), rfl, rfl, r7_s0, r7_s1, r7_s2, r7_s3, a03, a12, l8, hge⟩
      have hl9 : ({ S := S, a := a, h := h } : Tk).S.length ≤ 1000 := by rw [HN.out]; omega
      (with_reducible refine (hear_k w D6 b ⟨S, a, h⟩ tx13 HK.out hl9 j y hy).mono ?_)
      rintro e u13 ⟨rfl, hx13, hp13⟩
      clear hp13
      go_wp2_with fail
      have y14 := Lib.hid (show (fun V : World => True) u13 from trivial)
      refine hK.out _ _ y14.out (fun hHeld => ?_)
      clear hK K y14
      try simp only [Act.put, List.setIfInBounds_toArray, List.set_cons_zero, List.set_cons_succ]
      refine wpAnyH_done (by kernel_rfl) ?_ _
      go_wp2_with fail
      go_ret
      exact ⟨rfl, _, hx13, heT_ok HK.out (by rw [HN.out]; exact hjl), by rw [heT_S]; exact Nat.le_trans (Nat.le_of_eq HN.out) (Nat.le_succ _), fun e => by rw [Hm.out] at e; exact absurd e HM.out⟩
  · skip
    refine rd_load rfl 43 _ rfl (some 25) rfl (.int .u16 (at_ : Int)) g1 (2) rfl (ld_u16 (CB.cell r8_s 2)) ?_
    refine ⟨?_⟩
    have y9 := Lib.hid (show (fun V : World => True) D6 from trivial)
    refine hK.out _ _ y9.out (fun hHeld => ?_)
    clear hK K y9
    try simp only [Act.put, List.setIfInBounds_toArray, List.set_cons_zero, List.set_cons_succ]
    refine wpAnyH_takeL (i := 7) (d := some 26) (v := .int .i64 (at_ : Int)) rfl rfl (by kernel_rfl) (by kernel_rfl) (by kernel_rfl) (fun _ _ _ h => h) (Or.inl ⟨by rfl, ?_⟩) hHeld ?_
    · intro w hSw; (try dsimp only at hSw); go_simp
    try simp only [Act.put, List.setIfInBounds_toArray, List.set_cons_zero, List.set_cons_succ]
    refine wpAnyH_ready (rs := [4, 11]) (by kernel_rfl) (by simp) ?_
    refine AllReadyH.cons rfl (fun K hK => ?_) (AllReadyH.cons rfl (fun K hK => ?_) AllReadyH.nil)
    · skip
      refine rd_load rfl 37 _ rfl (some 23) rfl (.slice (some ⟨g3, o3, none⟩) N c3) b (6) rfl (ld_pp (CB.cell r8_k 6)) ?_
      refine ⟨?_⟩
      have y10 := Lib.hid (show (fun V : World => True) D6 from trivial)
      refine hK.out _ _ y10.out (fun hHeld => ?_)
      clear hK K y10
      try simp only [Act.put, List.setIfInBounds_toArray, List.set_cons_zero, List.set_cons_succ]
      refine wpAnyH_ready (rs := [11]) (by kernel_rfl) (by simp) ?_
      refine AllReadyH.cons rfl (fun K hK => ?_) AllReadyH.nil
      refine rd_load rfl 37 _ rfl (some 30) rfl (.slice (some ⟨g3, o3, none⟩) N c3) b (6) rfl (ld_pp (CB.cell r8_k 6)) ?_
      refine ⟨?_⟩
      have y11 := Lib.hid (show (fun V : World => True) D6 from trivial)
      refine hK.out _ _ y11.out (fun hHeld => ?_)
      clear hK K y11
      try simp only [Act.put, List.setIfInBounds_toArray, List.set_cons_zero, List.set_cons_succ]
      refine wpAnyH_takeL (i := 12) (d := some 31) (v := .int .i64 (N : Int)) rfl rfl (by kernel_rfl) (by kernel_rfl) (by kernel_rfl) (fun _ _ _ h => h) (Or.inl ⟨by rfl, ?_⟩) hHeld ?_
      · intro w hSw; (try dsimp only at hSw); go_simp
      try simp only [Act.put, List.setIfInBounds_toArray, List.set_cons_zero, List.set_cons_succ]
      refine wpAnyH_takeL (i := 13) (d := some 32) (v := .int .i64 (j : Int)) rfl rfl (by kernel_rfl) (by kernel_rfl) (by kernel_rfl) (fun _ _ _ h => h) (Or.inl ⟨by rfl, ?_⟩) hHeld ?_
      · intro w hSw; (try dsimp only at hSw); go_simp
      try simp only [Act.put, List.setIfInBounds_toArray, List.set_cons_zero, List.set_cons_succ]
      refine wpAnyH_takeL (i := 14) (d := some 33) (v := .pointer (some ⟨g3, o3 + j * 2, none⟩)) rfl rfl (by kernel_rfl) (by kernel_rfl) (by kernel_rfl) (fun _ _ _ h => h) (Or.inl ⟨by rfl, ?_⟩) hHeld ?_
      · intro w hSw; (try dsimp only at hSw); go_simp
      try simp only [Act.put, List.setIfInBounds_toArray, List.set_cons_zero, List.set_cons_succ]
      refine wpAnyH_ready (rs := [15]) (by kernel_rfl) (by simp) ?_
      refine AllReadyH.cons rfl (fun K hK => ?_) AllReadyH.nil
      refine rd_load rfl 30 _ rfl (some 34) rfl (.agg (pA ⟨(j : Int), y⟩)) g3 (o3 + j * 2) rfl (ld_el 30 g3 (o3 + j * 2) (pA ⟨(j : Int), y⟩) (r7_s3.rr.elemAt hel rfl) Try.underlying30 rfl Try.zPk) ?_
      refine ⟨?_⟩
      have y12 := Lib.hid (show (fun V : World => True) D6 from trivial)
      refine hK.out _ _ y12.out (fun hHeld => ?_)
      clear hK K y12
      try simp only [Act.put, List.setIfInBounds_toArray, List.set_cons_zero, List.set_cons_succ]
      refine wpAnyH_ready (rs := [16]) (by kernel_rfl) (by simp) ?_
      refine AllReadyH.cons rfl (fun K hK => ?_) AllReadyH.nil
      go_simp
      have tx13 : TX w D6 b ⟨S, a, h⟩ := ⟨⟨⟨(N : Int), A0, n0, c0, 9⟩, (h : Int), A1, N, c1, A2, h, c2, (some ⟨g3, o3, none⟩), N, c3⟩, G0, G1, G2, G3, r8_k, (by rw [HN.out]), rfl, rfl, r7_s0, r7_s1, r7_s2, r7_s3, a03, a12, l8, hge⟩
      have hl9 : ({ S := S, a := a, h := h } : Tk).S.length ≤ 1000 := by rw [HN.out]; omega
      (with_reducible refine (hear_k w D6 b ⟨S, a, h⟩ tx13 HK.out hl9 j y hy).mono ?_)
      rintro e u13 ⟨rfl, hx13, hp13⟩
      clear hp13
      go_wp2_with fail
      have y14 := Lib.hid (show (fun V : World => True) u13 from trivial)
      refine hK.out _ _ y14.out (fun hHeld => ?_)
      clear hK K y14
      try simp only [Act.put, List.setIfInBounds_toArray, List.set_cons_zero, List.set_cons_succ]
      refine wpAnyH_done (by kernel_rfl) ?_ _
      go_wp2_with fail
      go_ret
      exact ⟨rfl, _, hx13, heT_ok HK.out (by rw [HN.out]; exact hjl), by rw [heT_S]; exact Nat.le_trans (Nat.le_of_eq HN.out) (Nat.le_succ _), fun e => by rw [Hm.out] at e; exact absurd e HM.out⟩
    · skip
      refine rd_load rfl 37 _ rfl (some 30) rfl (.slice (some ⟨g3, o3, none⟩) N c3) b (6) rfl (ld_pp (CB.cell r8_k 6)) ?_
      refine ⟨?_⟩
      have y10 := Lib.hid (show (fun V : World => True) D6 from trivial)
      refine hK.out _ _ y10.out (fun hHeld => ?_)
      clear hK K y10
      try simp only [Act.put, List.setIfInBounds_toArray, List.set_cons_zero, List.set_cons_succ]
      refine wpAnyH_takeL (i := 12) (d := some 31) (v := .int .i64 (N : Int)) rfl rfl (by kernel_rfl) (by kernel_rfl) (by kernel_rfl) (fun _ _ _ h => h) (Or.inl ⟨by rfl, ?_⟩) hHeld ?_
      · intro w hSw; (try dsimp only at hSw); go_simp
      try simp only [Act.put, List.setIfInBounds_toArray, List.set_cons_zero, List.set_cons_succ]
      refine wpAnyH_takeL (i := 13) (d := some 32) (v := .int .i64 (j : Int)) rfl rfl (by kernel_rfl) (by kernel_rfl) (by kernel_rfl) (fun _ _ _ h => h) (Or.inl ⟨by rfl, ?_⟩) hHeld ?_
      · intro w hSw; (try dsimp only at hSw); go_simp
      try simp only [Act.put, List.setIfInBounds_toArray, List.set_cons_zero, List.set_cons_succ]
      refine wpAnyH_ready (rs := [4]) (by kernel_rfl) (by simp) ?_
      refine AllReadyH.cons rfl (fun K hK => ?_) AllReadyH.nil
      refine rd_load rfl 37 _ rfl (some 23) rfl (.slice (some ⟨g3, o3, none⟩) N c3) b (6) rfl (ld_pp (CB.cell r8_k 6)) ?_
      refine ⟨?_⟩
      have y11 := Lib.hid (show (fun V : World => True) D6 from trivial)
      refine hK.out _ _ y11.out (fun hHeld => ?_)
      clear hK K y11
      try simp only [Act.put, List.setIfInBounds_toArray, List.set_cons_zero, List.set_cons_succ]
      refine wpAnyH_takeL (i := 14) (d := some 33) (v := .pointer (some ⟨g3, o3 + j * 2, none⟩)) rfl rfl (by kernel_rfl) (by kernel_rfl) (by kernel_rfl) (fun _ _ _ h => h) (Or.inl ⟨by rfl, ?_⟩) hHeld ?_
      · intro w hSw; (try dsimp only at hSw); go_simp
      try simp only [Act.put, List.setIfInBounds_toArray, List.set_cons_zero, List.set_cons_succ]
      refine wpAnyH_ready (rs := [15]) (by kernel_rfl) (by simp) ?_
      refine AllReadyH.cons rfl (fun K hK => ?_) AllReadyH.nil
      refine rd_load rfl 30 _ rfl (some 34) rfl (.agg (pA ⟨(j : Int), y⟩)) g3 (o3 + j * 2) rfl (ld_el 30 g3 (o3 + j * 2) (pA ⟨(j : Int), y⟩) (r7_s3.rr.elemAt hel rfl) Try.underlying30 rfl Try.zPk) ?_
      refine ⟨?_⟩
      have y12 := Lib.hid (show (fun V : World => True) D6 from trivial)
      refine hK.out _ _ y12.out (fun hHeld => ?_)
      clear hK K y12
      try simp only [Act.put, List.setIfInBounds_toArray, List.set_cons_zero, List.set_cons_succ]
      refine wpAnyH_ready (rs := [16]) (by kernel_rfl) (by simp) ?_
      refine AllReadyH.cons rfl (fun K hK => ?_) AllReadyH.nil
      go_simp
      have tx13 : TX w D6 b ⟨S, a, h⟩ := ⟨⟨⟨(N : Int), A0, n0, c0, 9⟩, (h : Int), A1, N, c1, A2, h, c2, (some ⟨g3, o3, none⟩), N, c3⟩, G0, G1, G2, G3, r8_k, (by rw [HN.out]), rfl, rfl, r7_s0, r7_s1, r7_s2, r7_s3, a03, a12, l8, hge⟩
      have hl9 : ({ S := S, a := a, h := h } : Tk).S.length ≤ 1000 := by rw [HN.out]; omega
      (with_reducible refine (hear_k w D6 b ⟨S, a, h⟩ tx13 HK.out hl9 j y hy).mono ?_)
      rintro e u13 ⟨rfl, hx13, hp13⟩
      clear hp13
      go_wp2_with fail
      have y14 := Lib.hid (show (fun V : World => True) u13 from trivial)
      refine hK.out _ _ y14.out (fun hHeld => ?_)
      clear hK K y14
      try simp only [Act.put, List.setIfInBounds_toArray, List.set_cons_zero, List.set_cons_succ]
      refine wpAnyH_done (by kernel_rfl) ?_ _
      go_wp2_with fail
      go_ret
      exact ⟨rfl, _, hx13, heT_ok HK.out (by rw [HN.out]; exact hjl), by rw [heT_S]; exact Nat.le_trans (Nat.le_of_eq HN.out) (Nat.le_succ _), fun e => by rw [Hm.out] at e; exact absurd e HM.out⟩
  · skip
    refine rd_load rfl 37 _ rfl (some 30) rfl (.slice (some ⟨g3, o3, none⟩) N c3) b (6) rfl (ld_pp (CB.cell r8_k 6)) ?_
    refine ⟨?_⟩
    have y9 := Lib.hid (show (fun V : World => True) D6 from trivial)
    refine hK.out _ _ y9.out (fun hHeld => ?_)
    clear hK K y9
    try simp only [Act.put, List.setIfInBounds_toArray, List.set_cons_zero, List.set_cons_succ]
    refine wpAnyH_takeL (i := 12) (d := some 31) (v := .int .i64 (N : Int)) rfl rfl (by kernel_rfl) (by kernel_rfl) (by kernel_rfl) (fun _ _ _ h => h) (Or.inl ⟨by rfl, ?_⟩) hHeld ?_
    · intro w hSw; (try dsimp only at hSw); go_simp
    try simp only [Act.put, List.setIfInBounds_toArray, List.set_cons_zero, List.set_cons_succ]
    refine wpAnyH_ready (rs := [4, 6]) (by kernel_rfl) (by simp) ?_
    refine AllReadyH.cons rfl (fun K hK => ?_) (AllReadyH.cons rfl (fun K hK => ?_) AllReadyH.nil)
    · skip
      refine rd_load rfl 37 _ rfl (some 23) rfl (.slice (some ⟨g3, o3, none⟩) N c3) b (6) rfl (ld_pp (CB.cell r8_k 6)) ?_
      refine ⟨?_⟩
      have y10 := Lib.hid (show (fun V : World => True) D6 from trivial)
      refine hK.out _ _ y10.out (fun hHeld => ?_)
      clear hK K y10
      try simp only [Act.put, List.setIfInBounds_toArray, List.set_cons_zero, List.set_cons_succ]
      refine wpAnyH_ready (rs := [6]) (by kernel_rfl) (by simp) ?_
      refine AllReadyH.cons rfl (fun K hK => ?_) AllReadyH.nil
      refine rd_load rfl 43 _ rfl (some 25) rfl (.int .u16 (at_ : Int)) g1 (2) rfl (ld_u16 (CB.cell r8_s 2)) ?_
      refine ⟨?_⟩
      have y11 := Lib.hid (show (fun V : World => True) D6 from trivial)
      refine hK.out _ _ y11.out (fun hHeld => ?_)
      clear hK K y11
      try simp only [Act.put, List.setIfInBounds_toArray, List.set_cons_zero, List.set_cons_succ]
      refine wpAnyH_takeL (i := 7) (d := some 26) (v := .int .i64 (at_ : Int)) rfl rfl (by kernel_rfl) (by kernel_rfl) (by kernel_rfl) (fun _ _ _ h => h) (Or.inl ⟨by rfl, ?_⟩) hHeld ?_
      · intro w hSw; (try dsimp only at hSw); go_simp
      try simp only [Act.put, List.setIfInBounds_toArray, List.set_cons_zero, List.set_cons_succ]
      refine wpAnyH_takeL (i := 13) (d := some 32) (v := .int .i64 (j : Int)) rfl rfl (by kernel_rfl) (by kernel_rfl) (by kernel_rfl) (fun _ _ _ h => h) (Or.inl ⟨by rfl, ?_⟩) hHeld ?_
      · intro w hSw; (try dsimp only at hSw); go_simp
      try simp only [Act.put, List.setIfInBounds_toArray, List.set_cons_zero, List.set_cons_succ]
      refine wpAnyH_takeL (i := 14) (d := some 33) (v := .pointer (some ⟨g3, o3 + j * 2, none⟩)) rfl rfl (by kernel_rfl) (by kernel_rfl) (by kernel_rfl) (fun _ _ _ h => h) (Or.inl ⟨by rfl, ?_⟩) hHeld ?_
      · intro w hSw; (try dsimp only at hSw); go_simp
      try simp only [Act.put, List.setIfInBounds_toArray, List.set_cons_zero, List.set_cons_succ]
      refine wpAnyH_ready (rs := [15]) (by kernel_rfl) (by simp) ?_
      refine AllReadyH.cons rfl (fun K hK => ?_) AllReadyH.nil
      refine rd_load rfl 30 _ rfl (some 34) rfl (.agg (pA ⟨(j : Int), y⟩)) g3 (o3 + j * 2) rfl (ld_el 30 g3 (o3 + j * 2) (pA ⟨(j : Int), y⟩) (r7_s3.rr.elemAt hel rfl) Try.underlying30 rfl Try.zPk) ?_
      refine ⟨?_⟩
      have y12 := Lib.hid (show (fun V : World => True) D6 from trivial)
      refine hK.out _ _ y12.out (fun hHeld => ?_)
      clear hK K y12
      try simp only [Act.put, List.setIfInBounds_toArray, List.set_cons_zero, List.set_cons_succ]
      refine wpAnyH_ready (rs := [16]) (by kernel_rfl) (by simp) ?_
      refine AllReadyH.cons rfl (fun K hK => ?_) AllReadyH.nil
      go_simp
      have tx13 : TX w D6 b ⟨S, a, h⟩ := ⟨⟨⟨(N : Int), A0, n0, c0, 9⟩, (h : Int), A1, N, c1, A2, h, c2, (some ⟨g3, o3, none⟩), N, c3⟩, G0, G1, G2, G3, r8_k, (by rw [HN.out]), rfl, rfl, r7_s0, r7_s1, r7_s2, r7_s3, a03, a12, l8, hge⟩
      have hl9 : ({ S := S, a := a, h := h } : Tk).S.length ≤ 1000 := by rw [HN.out]; omega
      (with_reducible refine (hear_k w D6 b ⟨S, a, h⟩ tx13 HK.out hl9 j y hy).mono ?_)
      rintro e u13 ⟨rfl, hx13, hp13⟩
      clear hp13
      go_wp2_with fail
      have y14 := Lib.hid (show (fun V : World => True) u13 from trivial)
      refine hK.out _ _ y14.out (fun hHeld => ?_)
      clear hK K y14
      try simp only [Act.put, List.setIfInBounds_toArray, List.set_cons_zero, List.set_cons_succ]
      refine wpAnyH_done (by kernel_rfl) ?_ _
      go_wp2_with fail
      go_ret
      exact ⟨rfl, _, hx13, heT_ok HK.out (by rw [HN.out]; exact hjl), by rw [heT_S]; exact Nat.le_trans (Nat.le_of_eq HN.out) (Nat.le_succ _), fun e => by rw [Hm.out] at e; exact absurd e HM.out⟩
    · skip
      refine rd_load rfl 43 _ rfl (some 25) rfl (.int .u16 (at_ : Int)) g1 (2) rfl (ld_u16 (CB.cell r8_s 2)) ?_
      refine ⟨?_⟩
      have y10 := Lib.hid (show (fun V : World => True) D6 from trivial)
      refine hK.out _ _ y10.out (fun hHeld => ?_)
      clear hK K y10
      try simp only [Act.put, List.setIfInBounds_toArray, List.set_cons_zero, List.set_cons_succ]
      refine wpAnyH_takeL (i := 7) (d := some 26) (v := .int .i64 (at_ : Int)) rfl rfl (by kernel_rfl) (by kernel_rfl) (by kernel_rfl) (fun _ _ _ h => h) (Or.inl ⟨by rfl, ?_⟩) hHeld ?_
      · intro w hSw; (try dsimp only at hSw); go_simp
      try simp only [Act.put, List.setIfInBounds_toArray, List.set_cons_zero, List.set_cons_succ]
      refine wpAnyH_takeL (i := 13) (d := some 32) (v := .int .i64 (j : Int)) rfl rfl (by kernel_rfl) (by kernel_rfl) (by kernel_rfl) (fun _ _ _ h => h) (Or.inl ⟨by rfl, ?_⟩) hHeld ?_
      · intro w hSw; (try dsimp only at hSw); go_simp
      try simp only [Act.put, List.setIfInBounds_toArray, List.set_cons_zero, List.set_cons_succ]
      refine wpAnyH_ready (rs := [4]) (by kernel_rfl) (by simp) ?_
      refine AllReadyH.cons rfl (fun K hK => ?_) AllReadyH.nil
      refine rd_load rfl 37 _ rfl (some 23) rfl (.slice (some ⟨g3, o3, none⟩) N c3) b (6) rfl (ld_pp (CB.cell r8_k 6)) ?_
      refine ⟨?_⟩
      have y11 := Lib.hid (show (fun V : World => True) D6 from trivial)
      refine hK.out _ _ y11.out (fun hHeld => ?_)
      clear hK K y11
      try simp only [Act.put, List.setIfInBounds_toArray, List.set_cons_zero, List.set_cons_succ]
      refine wpAnyH_takeL (i := 14) (d := some 33) (v := .pointer (some ⟨g3, o3 + j * 2, none⟩)) rfl rfl (by kernel_rfl) (by kernel_rfl) (by kernel_rfl) (fun _ _ _ h => h) (Or.inl ⟨by rfl, ?_⟩) hHeld ?_
      · intro w hSw; (try dsimp only at hSw); go_simp
      try simp only [Act.put, List.setIfInBounds_toArray, List.set_cons_zero, List.set_cons_succ]
      refine wpAnyH_ready (rs := [15]) (by kernel_rfl) (by simp) ?_
      refine AllReadyH.cons rfl (fun K hK => ?_) AllReadyH.nil
      refine rd_load rfl 30 _ rfl (some 34) rfl (.agg (pA ⟨(j : Int), y⟩)) g3 (o3 + j * 2) rfl (ld_el 30 g3 (o3 + j * 2) (pA ⟨(j : Int), y⟩) (r7_s3.rr.elemAt hel rfl) Try.underlying30 rfl Try.zPk) ?_
      refine ⟨?_⟩
      have y12 := Lib.hid (show (fun V : World => True) D6 from trivial)
      refine hK.out _ _ y12.out (fun hHeld => ?_)
      clear hK K y12
      try simp only [Act.put, List.setIfInBounds_toArray, List.set_cons_zero, List.set_cons_succ]
      refine wpAnyH_ready (rs := [16]) (by kernel_rfl) (by simp) ?_
      refine AllReadyH.cons rfl (fun K hK => ?_) AllReadyH.nil
      go_simp
      have tx13 : TX w D6 b ⟨S, a, h⟩ := ⟨⟨⟨(N : Int), A0, n0, c0, 9⟩, (h : Int), A1, N, c1, A2, h, c2, (some ⟨g3, o3, none⟩), N, c3⟩, G0, G1, G2, G3, r8_k, (by rw [HN.out]), rfl, rfl, r7_s0, r7_s1, r7_s2, r7_s3, a03, a12, l8, hge⟩
      have hl9 : ({ S := S, a := a, h := h } : Tk).S.length ≤ 1000 := by rw [HN.out]; omega
      (with_reducible refine (hear_k w D6 b ⟨S, a, h⟩ tx13 HK.out hl9 j y hy).mono ?_)
      rintro e u13 ⟨rfl, hx13, hp13⟩
      clear hp13
      go_wp2_with fail
      have y14 := Lib.hid (show (fun V : World => True) u13 from trivial)
      refine hK.out _ _ y14.out (fun hHeld => ?_)
      clear hK K y14
      try simp only [Act.put, List.setIfInBounds_toArray, List.set_cons_zero, List.set_cons_succ]
      refine wpAnyH_done (by kernel_rfl) ?_ _
      go_wp2_with fail
      go_ret
      exact ⟨rfl, _, hx13, heT_ok HK.out (by rw [HN.out]; exact hjl), by rw [heT_S]; exact Nat.le_trans (Nat.le_of_eq HN.out) (Nat.le_succ _), fun e => by rw [Hm.out] at e; exact absurd e HM.out⟩
end Go.Proofs.Ytemhfaodgofcpaa
