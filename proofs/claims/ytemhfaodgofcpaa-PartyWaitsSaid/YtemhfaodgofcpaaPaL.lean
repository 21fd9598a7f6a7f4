/-
  Layer 16: begins and hear of two that talk. Condition: the talk is as it may be.
-/
import Derived.Test.YtemhfaodgofcpaaPaK
set_option linter.unusedVariables false
set_option linter.unusedSimpArgs false
namespace Go.Proofs.Ytemhfaodgofcpaa
open Go.RowKit

set_option maxRecDepth 100000 in
set_option maxHeartbeats 4000000 in
theorem begins_c (w W : World) (b : Nat) (t : Tk) (h : TX w W b t) (ok : OkT 9 t) : Calls Try.prog 12 #[.pointer (some ⟨b, 0, none⟩)] W fun e w' => e = .returned (.bool true) ∧ Below W.heap.size W w' := by
  obtain ⟨⟨⟨nx, A0, n0, c0, rm⟩, h', A1, n1, c1, A2, n2, c2, A3, n3, c3⟩, G0, G1, G2, G3, ht⟩ := h
  obtain ⟨S, a, h⟩ := t
  obtain ⟨hcb, e1, e2, e3, s0, s1, s2, s3, a03, a12, hlow, hge⟩ := ht
  simp only at e1 e2 e3 s0 s1 s2 s3
  subst e1 e2 e3
  obtain ⟨ok1, ok2, ok3, ok4⟩ := ok
  simp only at ok1 ok2 ok3 ok4
  have l1 := s1.len
  subst l1
  have l2 := s2.len
  rw [List.length_take, Nat.min_eq_left ok2] at l2
  subst l2
  have l3 := s3.len
  rw [pkF_len, Nat.sub_zero] at l3
  subst l3
  have l0 := s0.len
  rw [pkF_len] at l0
  have hm1 := s1.max
  have r1 := s1.rr
  have hm1 := s1.max
  have r2 := s2.rr
  have q1 : decide ((S.length : Int) < (h : Int)) = false := by simp; omega
  have q1' : decide ((h : Int) > (S.length : Int)) = false := by simp; omega
  have q2 : ((h : Int) != (h : Int)) = false := by simp
  clear s0 s1 s2 s3 a03 a12 hlow l0 ok1 ok3 ok4
  go_enter Try.func12, Try.ntmps12
  go_wp2_with fail
  have y1 := Lib.hid (show (fun V : World => CB V b 42 (kA ⟨⟨(S.length : Int), A0, n0, c0, 9⟩, (h : Int), A1, S.length, c1, A2, h, c2, A3, S.length, c3⟩)) W.drew from CB.drew hcb)
  refine wp_region_held_drew (S := (fun V : World => CB V b 42 (kA ⟨⟨(S.length : Int), A0, n0, c0, 9⟩, (h : Int), A1, S.length, c1, A2, h, c2, A3, S.length, c3⟩))) (by kernel_rfl) y1.out (fun hHeld => ?_)
  obtain ⟨D1, hD1⟩ : ∃ V, W.drew = V := ⟨_, rfl⟩
  have b1 : Below W.heap.size W D1 := by rw [← hD1]; exact le_dr (Below.refl _ _)
  rw [hD1] at hHeld ⊢
  clear hD1
  have r3_k := le_on hcb b1
  have r3_r1 := (r1).on b1
  have r3_r2 := (r2).on b1
  have l3 := le_tr (Below.refl _ _) b1
  clear hcb r1 r2
  clear b1
  refine wpAnyH_takeL (i := 0) (d := some 5) (v := .pointer (some ⟨b, 0, none⟩)) rfl rfl (by kernel_rfl) (by kernel_rfl) (by kernel_rfl) (fun _ _ _ h => h) (Or.inl ⟨by rfl, ?_⟩) hHeld ?_
  · intro w hSw; (try dsimp only at hSw); go_simp
  try simp only [Act.put, List.setIfInBounds_toArray, List.set_cons_zero, List.set_cons_succ]
  refine wpAnyH_takeL (i := 1) (d := some 6) (v := .pointer (some ⟨b, 0, none⟩)) rfl rfl (by kernel_rfl) (by kernel_rfl) (by kernel_rfl) (fun _ _ _ h => h) (Or.inl ⟨by rfl, ?_⟩) hHeld ?_
  · intro w hSw; (try dsimp only at hSw); go_simp
  try simp only [Act.put, List.setIfInBounds_toArray, List.set_cons_zero, List.set_cons_succ]
  refine wpAnyH_takeL (i := 2) (d := some 7) (v := .pointer (some ⟨b, 5, none⟩)) rfl rfl (by kernel_rfl) (by kernel_rfl) (by kernel_rfl) (fun _ _ _ h => h) (Or.inl ⟨by rfl, ?_⟩) hHeld ?_
  · intro w hSw; (try dsimp only at hSw); go_simp
  try simp only [Act.put, List.setIfInBounds_toArray, List.set_cons_zero, List.set_cons_succ]
  refine wpAnyH_takeL (i := 3) (d := some 8) (v := .slice A2 h c2) rfl rfl (by kernel_rfl) (by kernel_rfl) (by kernel_rfl) (fun _ _ _ h => h) (Or.inl ⟨by rfl, ?_⟩) hHeld ?_
  · intro w hSw; (try dsimp only at hSw); have hcc : w.cell? ⟨b, 5, none⟩ = some (.slice A2 h c2) := CB.cell hSw 5; go_simp
  try simp only [Act.put, List.setIfInBounds_toArray, List.set_cons_zero, List.set_cons_succ]
  refine wpAnyH_takeL (i := 4) (d := some 9) (v := .int .i64 (h : Int)) rfl rfl (by kernel_rfl) (by kernel_rfl) (by kernel_rfl) (fun _ _ _ h => h) (Or.inl ⟨by rfl, ?_⟩) hHeld ?_
  · intro w hSw; (try dsimp only at hSw); go_simp
  try simp only [Act.put, List.setIfInBounds_toArray, List.set_cons_zero, List.set_cons_succ]
  refine wpAnyH_takeL (i := 5) (d := some 10) (v := .pointer (some ⟨b, 0, none⟩)) rfl rfl (by kernel_rfl) (by kernel_rfl) (by kernel_rfl) (fun _ _ _ h => h) (Or.inl ⟨by rfl, ?_⟩) hHeld ?_
  · intro w hSw; (try dsimp only at hSw); go_simp
  try simp only [Act.put, List.setIfInBounds_toArray, List.set_cons_zero, List.set_cons_succ]
  refine wpAnyH_takeL (i := 6) (d := some 11) (v := .pointer (some ⟨b, 0, none⟩)) rfl rfl (by kernel_rfl) (by kernel_rfl) (by kernel_rfl) (fun _ _ _ h => h) (Or.inl ⟨by rfl, ?_⟩) hHeld ?_
  · intro w hSw; (try dsimp only at hSw); go_simp
  try simp only [Act.put, List.setIfInBounds_toArray, List.set_cons_zero, List.set_cons_succ]
  refine wpAnyH_takeL (i := 7) (d := some 12) (v := .pointer (some ⟨b, 4, none⟩)) rfl rfl (by kernel_rfl) (by kernel_rfl) (by kernel_rfl) (fun _ _ _ h => h) (Or.inl ⟨by rfl, ?_⟩) hHeld ?_
  · intro w hSw; (try dsimp only at hSw); go_simp
  try simp only [Act.put, List.setIfInBounds_toArray, List.set_cons_zero, List.set_cons_succ]
  refine wpAnyH_takeL (i := 8) (d := some 13) (v := .slice A1 (S.length) c1) rfl rfl (by kernel_rfl) (by kernel_rfl) (by kernel_rfl) (fun _ _ _ h => h) (Or.inl ⟨by rfl, ?_⟩) hHeld ?_
  · intro w hSw; (try dsimp only at hSw); have hcc : w.cell? ⟨b, 4, none⟩ = some (.slice A1 (S.length) c1) := CB.cell hSw 4; go_simp
  try simp only [Act.put, List.setIfInBounds_toArray, List.set_cons_zero, List.set_cons_succ]
  refine wpAnyH_takeL (i := 9) (d := some 14) (v := .int .i64 (S.length : Int)) rfl rfl (by kernel_rfl) (by kernel_rfl) (by kernel_rfl) (fun _ _ _ h => h) (Or.inl ⟨by rfl, ?_⟩) hHeld ?_
  · intro w hSw; (try dsimp only at hSw); go_simp
  try simp only [Act.put, List.setIfInBounds_toArray, List.set_cons_zero, List.set_cons_succ]
  refine wpAnyH_takeL (i := 10) (d := some 15) (v := .bool false) rfl rfl (by kernel_rfl) (by kernel_rfl) (by kernel_rfl) (fun _ _ _ h => h) (Or.inl ⟨by rfl, ?_⟩) hHeld ?_
  · intro w hSw; (try dsimp only at hSw); go_simp
  try simp only [Act.put, List.setIfInBounds_toArray, List.set_cons_zero, List.set_cons_succ]
  refine wpAnyH_takeL (i := 11) (d := some 16) (v := .bool false) rfl rfl (by kernel_rfl) (by kernel_rfl) (by kernel_rfl) (fun _ _ _ h => h) (Or.inl ⟨by rfl, ?_⟩) hHeld ?_
  · intro w hSw; (try dsimp only at hSw); go_simp
  try simp only [Act.put, List.setIfInBounds_toArray, List.set_cons_zero, List.set_cons_succ]
  refine wpAnyH_takeL (i := 12) (d := some 17) (v := .pointer (some ⟨b, 0, none⟩)) rfl rfl (by kernel_rfl) (by kernel_rfl) (by kernel_rfl) (fun _ _ _ h => h) (Or.inl ⟨by rfl, ?_⟩) hHeld ?_
  · intro w hSw; (try dsimp only at hSw); go_simp
  try simp only [Act.put, List.setIfInBounds_toArray, List.set_cons_zero, List.set_cons_succ]
  refine wpAnyH_takeL (i := 13) (d := some 18) (v := .pointer (some ⟨b, 0, none⟩)) rfl rfl (by kernel_rfl) (by kernel_rfl) (by kernel_rfl) (fun _ _ _ h => h) (Or.inl ⟨by rfl, ?_⟩) hHeld ?_
  · intro w hSw; (try dsimp only at hSw); go_simp
  try simp only [Act.put, List.setIfInBounds_toArray, List.set_cons_zero, List.set_cons_succ]
  refine wpAnyH_takeL (i := 14) (d := some 19) (v := .pointer (some ⟨b, 3, none⟩)) rfl rfl (by kernel_rfl) (by kernel_rfl) (by kernel_rfl) (fun _ _ _ h => h) (Or.inl ⟨by rfl, ?_⟩) hHeld ?_
  · intro w hSw; (try dsimp only at hSw); go_simp
  try simp only [Act.put, List.setIfInBounds_toArray, List.set_cons_zero, List.set_cons_succ]
  refine wpAnyH_takeL (i := 15) (d := some 20) (v := .pointer (some ⟨b, 3, none⟩)) rfl rfl (by kernel_rfl) (by kernel_rfl) (by kernel_rfl) (fun _ _ _ h => h) (Or.inl ⟨by rfl, ?_⟩) hHeld ?_
  · intro w hSw; (try dsimp only at hSw); go_simp
  try simp only [Act.put, List.setIfInBounds_toArray, List.set_cons_zero, List.set_cons_succ]
  refine wpAnyH_takeL (i := 16) (d := some 21) (v := .int .i64 (h : Int)) rfl rfl (by kernel_rfl) (by kernel_rfl) (by kernel_rfl) (fun _ _ _ h => h) (Or.inl ⟨by rfl, ?_⟩) hHeld ?_
  · intro w hSw; (try dsimp only at hSw); have hcc : w.cell? ⟨b, 3, none⟩ = some (.int .i64 (h : Int)) := CB.cell hSw 3; go_simp
  try simp only [Act.put, List.setIfInBounds_toArray, List.set_cons_zero, List.set_cons_succ]
  refine wpAnyH_takeL (i := 17) (d := some 22) (v := .pointer (some ⟨b, 0, none⟩)) rfl rfl (by kernel_rfl) (by kernel_rfl) (by kernel_rfl) (fun _ _ _ h => h) (Or.inl ⟨by rfl, ?_⟩) hHeld ?_
  · intro w hSw; (try dsimp only at hSw); go_simp
  try simp only [Act.put, List.setIfInBounds_toArray, List.set_cons_zero, List.set_cons_succ]
  refine wpAnyH_takeL (i := 18) (d := some 23) (v := .pointer (some ⟨b, 0, none⟩)) rfl rfl (by kernel_rfl) (by kernel_rfl) (by kernel_rfl) (fun _ _ _ h => h) (Or.inl ⟨by rfl, ?_⟩) hHeld ?_
  · intro w hSw; (try dsimp only at hSw); go_simp
  try simp only [Act.put, List.setIfInBounds_toArray, List.set_cons_zero, List.set_cons_succ]
  refine wpAnyH_takeL (i := 19) (d := some 24) (v := .pointer (some ⟨b, 5, none⟩)) rfl rfl (by kernel_rfl) (by kernel_rfl) (by kernel_rfl) (fun _ _ _ h => h) (Or.inl ⟨by rfl, ?_⟩) hHeld ?_
  · intro w hSw; (try dsimp only at hSw); go_simp
  try simp only [Act.put, List.setIfInBounds_toArray, List.set_cons_zero, List.set_cons_succ]
  refine wpAnyH_takeL (i := 20) (d := some 25) (v := .slice A2 h c2) rfl rfl (by kernel_rfl) (by kernel_rfl) (by kernel_rfl) (fun _ _ _ h => h) (Or.inl ⟨by rfl, ?_⟩) hHeld ?_
  · intro w hSw; (try dsimp only at hSw); have hcc : w.cell? ⟨b, 5, none⟩ = some (.slice A2 h c2) := CB.cell hSw 5; go_simp
  try simp only [Act.put, List.setIfInBounds_toArray, List.set_cons_zero, List.set_cons_succ]
  refine wpAnyH_takeL (i := 21) (d := some 26) (v := .int .i64 (h : Int)) rfl rfl (by kernel_rfl) (by kernel_rfl) (by kernel_rfl) (fun _ _ _ h => h) (Or.inl ⟨by rfl, ?_⟩) hHeld ?_
  · intro w hSw; (try dsimp only at hSw); go_simp
  try simp only [Act.put, List.setIfInBounds_toArray, List.set_cons_zero, List.set_cons_succ]
  refine wpAnyH_takeL (i := 22) (d := some 27) (v := .bool false) rfl rfl (by kernel_rfl) (by kernel_rfl) (by kernel_rfl) (fun _ _ _ h => h) (Or.inl ⟨by rfl, ?_⟩) hHeld ?_
  · intro w hSw; (try dsimp only at hSw); go_simp
  try simp only [Act.put, List.setIfInBounds_toArray, List.set_cons_zero, List.set_cons_succ]
  refine wpAnyH_takeL (i := 23) (d := some 28) (v := .bool false) rfl rfl (by kernel_rfl) (by kernel_rfl) (by kernel_rfl) (fun _ _ _ h => h) (Or.inl ⟨by rfl, ?_⟩) hHeld ?_
  · intro w hSw; (try dsimp only at hSw); go_simp
  try simp only [Act.put, List.setIfInBounds_toArray, List.set_cons_zero, List.set_cons_succ]
  refine wpAnyH_done (by kernel_rfl) ?_ _
  have c4 : D1.cell? ⟨b, 5, none⟩ = some (.slice A2 h c2) := CB.cell r3_k 5
  have c5 : D1.cell? ⟨b, 4, none⟩ = some (.slice A1 (S.length) c1) := CB.cell r3_k 4
  go_wp2_with fail
  clear c4 c5
  go_loopw [34] (fun iv wr => ∃ j : Nat, j ≤ h ∧ iv = .int .i64 j ∧ CB wr b 42 (kA ⟨⟨(S.length : Int), A0, n0, c0, 9⟩, (h : Int), A1, S.length, c1, A2, h, c2, A3, S.length, c3⟩) ∧ RR wr scl 1 A1 S.length c1 S ∧ RR wr scl 1 A2 h c2 (S.take h) ∧ Below W.heap.size W wr) (fun iv _ => h - (intOf iv).toNat)
  case atStart => exact ⟨0, by omega, rfl, r3_k, r3_r1, r3_r2, l3⟩
  case round =>
    clear r3_k r3_r1 r3_r2 l3
    obtain ⟨j, hj, rfl, hk, z1, z2, hb⟩ := hrel
    by_cases hlt : j < h
    · obtain ⟨g2, o2, x, hx, rfl, f2⟩ := z2.st hlt
      obtain ⟨g1, o1, x', hx', rfl, f1⟩ := z1.st (show j < S.length by omega)
      rw [List.getElem?_take, if_pos hlt] at hx
      rw [hx] at hx'
      cases hx'
      have l1 : (j : Int) < h := by omega
      have l2 : (0 : Int) ≤ (j : Int) := by omega
      have l3 : (j : Int) < (S.length : Int) := by omega
      have qx : (x.toList == x.toList) = true := beq_self_eq_true _
      have qy : (x.toList != x.toList) = false := by simp
      clear hx
      have c501 : wr.cell? ⟨b, 4, none⟩ = some (.slice (some ⟨g1, o1, none⟩) (S.length) c1) := CB.cell hk 4
      go_wp2_with fail
      go_roundw
      case rel => exact ⟨j + 1, by omega, by go_num, hk, z1, z2, hb⟩
      case measure => simp [intOf]; omega
    obtain rfl : j = h := by omega
    go_wp2_with fail
    go_ret
    exact ⟨rfl, hb⟩
set_option maxRecDepth 100000 in
set_option maxHeartbeats 4000000 in
theorem hear_k (w W : World) (b : Nat) (t : Tk) (h : TX w W b t) (ok : OkT 9 t) (hl : t.S.length ≤ 1000) (i : Nat) (x : ByteArray) (hk : t.S[i]? = some x) : Calls Try.prog 14 #[.pointer (some ⟨b, 0, none⟩), .agg (pA ⟨(i : Int), x⟩)] W fun e w' => e = .returned (.tuple #[]) ∧ TX w w' b (heT t i) ∧ PS W w' := by
  obtain ⟨⟨⟨nx, A0, n0, c0, rm⟩, h', A1, n1, c1, A2, n2, c2, A3, n3, c3⟩, G0, G1, G2, G3, ht⟩ := h
  obtain ⟨S, a, h⟩ := t
  obtain ⟨hcb, e1, e2, e3, s0, s1, s2, s3, a03, a12, hlow, hge⟩ := ht
  simp only at e1 e2 e3 s0 s1 s2 s3
  subst e1 e2 e3
  obtain ⟨ok1, ok2, ok3, ok4⟩ := ok
  simp only at ok1 ok2 ok3 ok4
  have l1 := s1.len
  subst l1
  have l2 := s2.len
  rw [List.length_take, Nat.min_eq_left ok2] at l2
  subst l2
  have l3 := s3.len
  rw [pkF_len, Nat.sub_zero] at l3
  subst l3
  have l0 := s0.len
  rw [pkF_len] at l0
  simp only at hl hk
  clear l0
  have hlt : i < S.length := (List.getElem?_eq_some_iff.1 hk).1
  have hps := PS.refl W
  have no0 := SO.noT s0 hcb (by decide)
  have no1 := SO.noT s1 hcb (by decide)
  have no2 := SO.noT s2 hcb (by decide)
  have no3 := SO.noT s3 hcb (by decide)
  by_cases e : i = h
  · subst e
    have H1 : ∀ V, Calls Try.prog 9 #[.agg (hA (i : Int)), .agg (pA ⟨(i : Int), x⟩)] V (fun e w' => e = .returned (.tuple #[.agg (hA ((i + 1 : Nat) : Int)), .string x, .int .i64 0]) ∧ Below V.heap.size V w') := fun V => hear_y (i : Int) ⟨(i : Int), x⟩ V (hea_ok (by omega) (by omega) rfl (ok3 x (List.mem_of_getElem? hk)))
    have HT := Lib.hid (show S.take (i + 1) = S.take i ++ [x] by rw [List.take_add_one, hk]; rfl)
    have ht9 : heT ⟨S, a, i⟩ i = ⟨S, a, i + 1⟩ := by unfold heT; rw [if_pos rfl]
    clear hk ok4
    go_enter Try.func14, Try.ntmps14
    go_wp2_with (first | ((with_reducible refine st_box 30 _ (pA ⟨(i : Int), x⟩) ?_ ?_); exact rfl))
    refine ⟨fun V1 g1 n1 f1 => ?_⟩
    have ne1_k := f1.ne hcb
    have no1_s0 := SO.fresh s0 (Nat.le_of_eq f1.at_)
    have no1_s1 := SO.fresh s1 (Nat.le_of_eq f1.at_)
    have no1_s2 := SO.fresh s2 (Nat.le_of_eq f1.at_)
    have no1_s3 := SO.fresh s3 (Nat.le_of_eq f1.at_)
    have up1 : w.heap.size ≤ g1 := f1.up hlow
    have bl1 := f1.bel
    clear f1
    have r2_s0 := SO.on s0 bl1
    have r2_s1 := SO.on s1 bl1
    have r2_s2 := SO.on s2 bl1
    have r2_s3 := SO.on s3 bl1
    have r3_k := le_on hcb bl1
    have r3_ps := (hps).on bl1
    have l3 := le_tr hlow bl1
    clear hcb hps hlow
    clear s0 s1 s2 s3
    clear bl1
    go_wp2_with fail
    have y4 := Lib.hid (show (fun V : World => CB V b 42 (kA ⟨⟨(S.length : Int), A0, n0, c0, 9⟩, (i : Int), A1, S.length, c1, A2, i, c2, A3, S.length, c3⟩) ∧ CB V g1 30 (pA ⟨(i : Int), x⟩)) V1.drew from ⟨CB.drew r3_k, CB.drew n1⟩)
    refine wp_region_held_drew (S := (fun V : World => CB V b 42 (kA ⟨⟨(S.length : Int), A0, n0, c0, 9⟩, (i : Int), A1, S.length, c1, A2, i, c2, A3, S.length, c3⟩) ∧ CB V g1 30 (pA ⟨(i : Int), x⟩))) (by kernel_rfl) y4.out (fun hHeld => ?_)
    obtain ⟨D4, hD4⟩ : ∃ V, V1.drew = V := ⟨_, rfl⟩
    have b4 : Below V1.heap.size V1 D4 := by rw [← hD4]; exact le_dr (Below.refl _ _)
    rw [hD4] at hHeld ⊢
    clear hD4
    have r5_s0 := SO.on r2_s0 b4
    have r5_s1 := SO.on r2_s1 b4
    have r5_s2 := SO.on r2_s2 b4
    have r5_s3 := SO.on r2_s3 b4
    have r6_k := le_on r3_k b4
    have r6_p := le_on n1 b4
    have r6_ps := (r3_ps).on b4
    have l6 := le_tr l3 b4
    clear r3_k n1 r3_ps l3
    clear r2_s0 r2_s1 r2_s2 r2_s3
    clear b4
    refine wpAnyH_takeL (i := 0) (d := some 8) (v := .pointer (some ⟨b, 0, none⟩)) rfl rfl (by kernel_rfl) (by kernel_rfl) (by kernel_rfl) (fun _ _ _ h => h) (Or.inl ⟨by rfl, ?_⟩) hHeld ?_
    · intro w hSw; (try dsimp only at hSw); go_simp
    try simp only [Act.put, List.setIfInBounds_toArray, List.set_cons_zero, List.set_cons_succ]
    refine wpAnyH_takeL (i := 1) (d := some 9) (v := .pointer (some ⟨b, 0, none⟩)) rfl rfl (by kernel_rfl) (by kernel_rfl) (by kernel_rfl) (fun _ _ _ h => h) (Or.inl ⟨by rfl, ?_⟩) hHeld ?_
    · intro w hSw; (try dsimp only at hSw); go_simp
    try simp only [Act.put, List.setIfInBounds_toArray, List.set_cons_zero, List.set_cons_succ]
    refine wpAnyH_takeL (i := 2) (d := some 10) (v := .pointer (some ⟨b, 3, none⟩)) rfl rfl (by kernel_rfl) (by kernel_rfl) (by kernel_rfl) (fun _ _ _ h => h) (Or.inl ⟨by rfl, ?_⟩) hHeld ?_
    · intro w hSw; (try dsimp only at hSw); go_simp
    try simp only [Act.put, List.setIfInBounds_toArray, List.set_cons_zero, List.set_cons_succ]
    refine wpAnyH_takeL (i := 3) (d := some 11) (v := .agg (hA (i : Int))) rfl rfl (by kernel_rfl) (by kernel_rfl) (by kernel_rfl) (fun _ _ _ h => h) (Or.inl ⟨by rfl, ?_⟩) hHeld ?_
    · intro w hSw; exact yl_part 26 _ b 3 rfl (pt := hA (i : Int)) hSw.1 (kA_pi _) Try.underlying26 rfl Try.zIn
    try simp only [Act.put, List.setIfInBounds_toArray, List.set_cons_zero, List.set_cons_succ]
    refine wpAnyH_takeL (i := 4) (d := some 12) (v := .agg (pA ⟨(i : Int), x⟩)) rfl rfl (by kernel_rfl) (by kernel_rfl) (by kernel_rfl) (fun _ _ _ h => h) (Or.inl ⟨by rfl, ?_⟩) hHeld ?_
    · intro w hSw; exact yl_whole 30 _ g1 rfl hSw.2 Try.underlying30 rfl Try.zPk
    try simp only [Act.put, List.setIfInBounds_toArray, List.set_cons_zero, List.set_cons_succ]
    refine wpAnyH_ready (rs := [5, 10]) (by kernel_rfl) (by simp) ?_
    refine AllReadyH.cons rfl (fun K hK => ?_) (AllReadyH.cons rfl (fun K hK => ?_) AllReadyH.nil)
    · skip
      go_simp
      (with_reducible refine (H1 _).mono ?_)
      rintro e u7 ⟨rfl, b7⟩
      have r8_s0 := SO.on r5_s0 b7
      have r8_s1 := SO.on r5_s1 b7
      have r8_s2 := SO.on r5_s2 b7
      have r8_s3 := SO.on r5_s3 b7
      have r9_k := le_on r6_k b7
      have r9_p := le_on r6_p b7
      have r9_ps := (r6_ps).on b7
      have l9 := le_tr l6 b7
      clear r6_k r6_p r6_ps l6
      clear r5_s0 r5_s1 r5_s2 r5_s3
      clear b7
      go_wp2_with fail
      have y10 := Lib.hid (show (fun V : World => CB V b 42 (kA ⟨⟨(S.length : Int), A0, n0, c0, 9⟩, (i : Int), A1, S.length, c1, A2, i, c2, A3, S.length, c3⟩) ∧ CB V g1 30 (pA ⟨(i : Int), x⟩)) u7 from ⟨r9_k, r9_p⟩)
      refine hK.out _ _ y10.out (fun hHeld => ?_)
      clear hK K y10
      try simp only [Act.put, List.setIfInBounds_toArray, List.set_cons_zero, List.set_cons_succ]
      refine wpAnyH_takeL (i := 6) (d := some 7) (v := .tuple #[.agg (hA ((i + 1 : Nat) : Int)), .string x, .int .i64 (0)]) rfl rfl (by kernel_rfl) (by kernel_rfl) (by kernel_rfl) (fun _ _ _ h => h) (Or.inl ⟨by rfl, ?_⟩) hHeld ?_
      · intro w hSw; (try dsimp only at hSw); go_simp
      try simp only [Act.put, List.setIfInBounds_toArray, List.set_cons_zero, List.set_cons_succ]
      refine wpAnyH_takeL (i := 7) (d := some 14) (v := .agg (hA ((i + 1 : Nat) : Int))) rfl rfl (by kernel_rfl) (by kernel_rfl) (by kernel_rfl) (fun _ _ _ h => h) (Or.inl ⟨by rfl, ?_⟩) hHeld ?_
      · intro w hSw; (try dsimp only at hSw); go_simp
      try simp only [Act.put, List.setIfInBounds_toArray, List.set_cons_zero, List.set_cons_succ]
      refine wpAnyH_takeL (i := 8) (d := some 15) (v := .string x) rfl rfl (by kernel_rfl) (by kernel_rfl) (by kernel_rfl) (fun _ _ _ h => h) (Or.inl ⟨by rfl, ?_⟩) hHeld ?_
      · intro w hSw; (try dsimp only at hSw); go_simp
      try simp only [Act.put, List.setIfInBounds_toArray, List.set_cons_zero, List.set_cons_succ]
      refine wpAnyH_takeL (i := 9) (d := some 16) (v := .int .i64 (0)) rfl rfl (by kernel_rfl) (by kernel_rfl) (by kernel_rfl) (fun _ _ _ h => h) (Or.inl ⟨by rfl, ?_⟩) hHeld ?_
      · intro w hSw; (try dsimp only at hSw); go_simp
      try simp only [Act.put, List.setIfInBounds_toArray, List.set_cons_zero, List.set_cons_succ]
      refine wpAnyH_ready (rs := [10]) (by kernel_rfl) (by simp) ?_
      refine AllReadyH.cons rfl (fun K hK => ?_) AllReadyH.nil
      refine rd_alloc rfl 26 rfl (some 4) rfl (hA (0)) zero_in ?_
      refine ⟨fun V11 g11 n11 f11 => ?_⟩
      have ne11_k := f11.ne r9_k
      have ne11_p := f11.ne r9_p
      have no11_s0 := SO.fresh r8_s0 (Nat.le_of_eq f11.at_)
      have no11_s1 := SO.fresh r8_s1 (Nat.le_of_eq f11.at_)
      have no11_s2 := SO.fresh r8_s2 (Nat.le_of_eq f11.at_)
      have no11_s3 := SO.fresh r8_s3 (Nat.le_of_eq f11.at_)
      have up11 : w.heap.size ≤ g11 := f11.up l9
      have bl11 := f11.bel
      clear f11
      have r12_s0 := SO.on r8_s0 bl11
      have r12_s1 := SO.on r8_s1 bl11
      have r12_s2 := SO.on r8_s2 bl11
      have r12_s3 := SO.on r8_s3 bl11
      have r13_k := le_on r9_k bl11
      have r13_p := le_on r9_p bl11
      have r13_ps := (r9_ps).on bl11
      have l13 := le_tr l9 bl11
      clear r9_k r9_p r9_ps l9
      clear r8_s0 r8_s1 r8_s2 r8_s3
      clear bl11
      have y14 := Lib.hid (show (fun V : World => CB V b 42 (kA ⟨⟨(S.length : Int), A0, n0, c0, 9⟩, (i : Int), A1, S.length, c1, A2, i, c2, A3, S.length, c3⟩) ∧ CB V g1 30 (pA ⟨(i : Int), x⟩)) V11 from ⟨r13_k, r13_p⟩)
      refine hK.out _ _ y14.out (fun hHeld => ?_)
      clear hK K y14
      try simp only [Act.put, List.setIfInBounds_toArray, List.set_cons_zero, List.set_cons_succ]
      refine wpAnyH_ready (rs := [11]) (by kernel_rfl) (by simp) ?_
      refine AllReadyH.cons rfl (fun K hK => ?_) AllReadyH.nil
      refine rd_store rfl 26 _ _ rfl none rfl g11 (hA ((i + 1 : Nat) : Int)) rfl rfl n11 Try.zIn rfl (hA_one _) ?_
      refine ⟨fun V15 n15 k15 => ?_⟩
      have m15_k := k15.on r13_k ne11_k
      have m15_p := k15.on r13_p ne11_p
      have m15_ps := PS.wr r13_ps k15 n11 (by decide)
      have m15_s0 := SO.wr r12_s0 k15 no11_s0
      have m15_s1 := SO.wr r12_s1 k15 no11_s1
      have m15_s2 := SO.wr r12_s2 k15 no11_s2
      have m15_s3 := SO.wr r12_s3 k15 no11_s3
      have o15 := k15.bel _ _ l13 up11
      clear k15
      clear n11 r13_k r13_p r13_ps r12_s0 r12_s1 r12_s2 r12_s3 l13
      have y16 := Lib.hid (show (fun V : World => CB V b 42 (kA ⟨⟨(S.length : Int), A0, n0, c0, 9⟩, (i : Int), A1, S.length, c1, A2, i, c2, A3, S.length, c3⟩) ∧ CB V g1 30 (pA ⟨(i : Int), x⟩)) V15 from ⟨m15_k, m15_p⟩)
      refine hK.out _ _ y16.out (fun hHeld => ?_)
      clear hK K y16
      try simp only [Act.put, List.setIfInBounds_toArray, List.set_cons_zero, List.set_cons_succ]
      refine wpAnyH_takeL (i := 12) (d := some 5) (v := .string x) rfl rfl (by kernel_rfl) (by kernel_rfl) (by kernel_rfl) (fun _ _ _ h => h) (Or.inl ⟨by rfl, ?_⟩) hHeld ?_
      · intro w hSw; (try dsimp only at hSw); go_simp
      try simp only [Act.put, List.setIfInBounds_toArray, List.set_cons_zero, List.set_cons_succ]
      refine wpAnyH_takeL (i := 13) (d := some 6) (v := .int .i64 (0)) rfl rfl (by kernel_rfl) (by kernel_rfl) (by kernel_rfl) (fun _ _ _ h => h) (Or.inl ⟨by rfl, ?_⟩) hHeld ?_
      · intro w hSw; (try dsimp only at hSw); go_simp
      try simp only [Act.put, List.setIfInBounds_toArray, List.set_cons_zero, List.set_cons_succ]
      refine wpAnyH_done (by kernel_rfl) ?_ _
      go_wp2_with (first | ((with_reducible refine st_load 26 _ g11 ?_ n15 Try.underlying26 ?_ ?_ ?_); exact rfl; exact rfl; exact Try.zIn) | ((with_reducible refine st_mid 26 _ _ b 3 (hA ((i + 1 : Nat) : Int)) ?_ ?_ m15_k ?_ (new := kA ⟨⟨(S.length : Int), A0, n0, c0, 9⟩, ((i + 1 : Nat) : Int), A1, S.length, c1, A2, i, c2, A3, S.length, c3⟩) ?_ ?_ ?_ ?_); exact rfl; exact rfl; exact (by decide : 3 + 1 ≤ 7); exact kA_i _ _; exact Try.zIn; exact hA_one _))
      refine ⟨fun V17 n17 k17 => ?_⟩
      have m17_p := k17.on m15_p (Ne.symm ne1_k)
      have m17_i := k17.on n15 (Ne.symm ne11_k)
      have m17_ps := PS.wr m15_ps k17 m15_k (by decide)
      have m17_s0 := SO.wr m15_s0 k17 no0
      have m17_s1 := SO.wr m15_s1 k17 no1
      have m17_s2 := SO.wr m15_s2 k17 no2
      have m17_s3 := SO.wr m15_s3 k17 no3
      have o17 := k17.bel _ _ o15 hge
      clear k17
      clear m15_k m15_p n15 m15_ps m15_s0 m15_s1 m15_s2 m15_s3 o15
      have c18 : V17.cell? ⟨b, 5, none⟩ = some (.slice A2 i c2) := CB.cell n17 5
      go_wp2_with (first | ((with_reducible refine st_litv 40 9 _ (.string x) (zA x) ?_ rfl Try.underlying40 Try.infoS2 rfl (by decide) (by decide) ?_); exact rfl))
      refine ⟨fun V19 g19 n19 f19 => ?_⟩
      clear c18
      have ne19_k := f19.ne n17
      have ne19_p := f19.ne m17_p
      have ne19_i := f19.ne m17_i
      have no19_s0 := SO.fresh m17_s0 (Nat.le_of_eq f19.at_)
      have no19_s1 := SO.fresh m17_s1 (Nat.le_of_eq f19.at_)
      have no19_s2 := SO.fresh m17_s2 (Nat.le_of_eq f19.at_)
      have no19_s3 := SO.fresh m17_s3 (Nat.le_of_eq f19.at_)
      have up19 : w.heap.size ≤ g19 := f19.up o17
      have bl19 := f19.bel
      clear f19
      have r20_s0 := SO.on m17_s0 bl19
      have r20_s1 := SO.on m17_s1 bl19
      have r20_s2 := SO.on m17_s2 bl19
      have r20_s3 := SO.on m17_s3 bl19
      have r21_k := le_on n17 bl19
      have r21_p := le_on m17_p bl19
      have r21_i := le_on m17_i bl19
      have r21_ps := (m17_ps).on bl19
      have l21 := le_tr o17 bl19
      clear n17 m17_p m17_i m17_ps o17
      clear m17_s0 m17_s1 m17_s2 m17_s3
      clear bl19
      go_wp2_with (first | ((with_reducible refine st_app (.tmp 27) (.tmp 29) 40 9 Try.underlying40 Try.infoS rfl (by decide) (A := A2) (n := i) (c := c2) (G := G2) rfl r20_s2.seg (As := (some ⟨g19, 0, none⟩)) (m := 1) (k := 1) rfl (Src.box n19 rfl) (all_list (zA_one _)) (by simp only [maxLen]; omega) (by omega) (i + 1) (by omega) ?_)))
      refine ⟨fun B22 m22 q22 w22 s22 h22 k22 => ?_⟩
      have s22 : Seg w22 9 1 B22 (i + 1) m22 (rc scl (S.take (i + 1))) q22 := by rw [HT.out, ← rc_snoc]; exact s22
      have hg22 : ∀ g, G2 = some g → w.heap.size ≤ g := fun g e => r20_s2.hi g e
      have so22 : SO w.heap.size w22 9 scl 1 B22 (i + 1) m22 (S.take (i + 1)) q22 := ⟨s22, k22.ge (l21).size hg22⟩
      have e22_k := CB.same r21_k (h22.block _ (CB.lt r21_k) (fun e => no2 _ e.symm rfl))
      have na22_k := moved_ne k22 (CB.lt r21_k) no2
      have e22_p := CB.same r21_p (h22.block _ (CB.lt r21_p) (fun e => no1_s2 _ e.symm rfl))
      have na22_p := moved_ne k22 (CB.lt r21_p) no1_s2
      have e22_i := CB.same r21_i (h22.block _ (CB.lt r21_i) (fun e => no11_s2 _ e.symm rfl))
      have na22_i := moved_ne k22 (CB.lt r21_i) no11_s2
      have e22_z := CB.same n19 (h22.block _ (CB.lt n19) (fun e => no19_s2 _ e.symm rfl))
      have na22_z := moved_ne k22 (CB.lt n19) no19_s2
      have e22_ps := PS.grow r21_ps h22 r20_s2.seg (by decide)
      have e22_s0 := SO.grow r20_s0 h22 (SO.apT r20_s0 r20_s2 (by decide))
      have e22_s1 := SO.grow r20_s1 h22 a12
      have ap22_s1 := ap_moved r20_s1 a12 k22
      have e22_s3 := SO.grow r20_s3 h22 (SO.apT r20_s3 r20_s2 (by decide))
      have lw22 := (l21).grown h22 (l21).size hg22
      clear h22 k22 s22 hg22 r20_s2 r21_k no2 r21_p no1_s2 r21_i no11_s2 n19 no19_s2 r21_ps r20_s0 r20_s1 r20_s3 l21
      go_wp2_with (first | ((with_reducible refine st_cell 40 _ _ b 5 (.slice B22 (i + 1) m22) ?_ ?_ e22_k (new := kA ⟨⟨(S.length : Int), A0, n0, c0, 9⟩, ((i + 1 : Nat) : Int), A1, S.length, c1, B22, i + 1, m22, A3, S.length, c3⟩) ?_ ?_ ?_ ?_ ?_ ?_); exact rfl; exact rfl; exact (by rw [kA_size]; decide); exact kA_2 _ _ _ _; exact one_ss; exact rfl; exact rfl))
      refine ⟨fun V23 n23 k23 => ?_⟩
      have m23_p := k23.on e22_p (Ne.symm ne1_k)
      have m23_i := k23.on e22_i (Ne.symm ne11_k)
      have m23_z := k23.on e22_z (Ne.symm ne19_k)
      have m23_ps := PS.wr e22_ps k23 e22_k (by decide)
      have m23_s0 := SO.wr e22_s0 k23 no0
      have m23_s1 := SO.wr e22_s1 k23 no1
      have m23_s3 := SO.wr e22_s3 k23 no3
      have m23_s2 := SO.wr so22 k23 na22_k
      have o23 := k23.bel _ _ lw22 hge
      clear k23
      clear e22_k e22_p e22_i e22_z e22_ps e22_s0 e22_s1 e22_s3 so22 lw22
      go_wp2_with fail
      exact bodyPost_end (v := .tuple #[]) (by simp [results, Try.results14, go_sem]) rfl ⟨rfl, by rw [ht9]; exact ⟨⟨⟨(S.length : Int), A0, n0, c0, 9⟩, ((i + 1 : Nat) : Int), A1, S.length, c1, B22, i + 1, m22, A3, S.length, c3⟩, G0, G1, q22, G3, n23, rfl, rfl, rfl, m23_s0, m23_s1, m23_s2, m23_s3, a03, ap22_s1, o23, hge⟩, m23_ps⟩
    · skip
      refine rd_alloc rfl 26 rfl (some 4) rfl (hA (0)) zero_in ?_
      refine ⟨fun V7 g7 n7 f7 => ?_⟩
      have ne7_k := f7.ne r6_k
      have ne7_p := f7.ne r6_p
      have no7_s0 := SO.fresh r5_s0 (Nat.le_of_eq f7.at_)
      have no7_s1 := SO.fresh r5_s1 (Nat.le_of_eq f7.at_)
      have no7_s2 := SO.fresh r5_s2 (Nat.le_of_eq f7.at_)
      have no7_s3 := SO.fresh r5_s3 (Nat.le_of_eq f7.at_)
      have up7 : w.heap.size ≤ g7 := f7.up l6
      have bl7 := f7.bel
      clear f7
      have r8_s0 := SO.on r5_s0 bl7
      have r8_s1 := SO.on r5_s1 bl7
      have r8_s2 := SO.on r5_s2 bl7
      have r8_s3 := SO.on r5_s3 bl7
      have r9_k := le_on r6_k bl7
      have r9_p := le_on r6_p bl7
      have r9_ps := (r6_ps).on bl7
      have l9 := le_tr l6 bl7
      clear r6_k r6_p r6_ps l6
      clear r5_s0 r5_s1 r5_s2 r5_s3
      clear bl7
      have y10 := Lib.hid (show (fun V : World => CB V b 42 (kA ⟨⟨(S.length : Int), A0, n0, c0, 9⟩, (i : Int), A1, S.length, c1, A2, i, c2, A3, S.length, c3⟩) ∧ CB V g1 30 (pA ⟨(i : Int), x⟩)) V7 from ⟨r9_k, r9_p⟩)
      refine hK.out _ _ y10.out (fun hHeld => ?_)
      clear hK K y10
      try simp only [Act.put, List.setIfInBounds_toArray, List.set_cons_zero, List.set_cons_succ]
      refine wpAnyH_ready (rs := [5]) (by kernel_rfl) (by simp) ?_
      refine AllReadyH.cons rfl (fun K hK => ?_) AllReadyH.nil
      go_simp
      (with_reducible refine (H1 _).mono ?_)
      rintro e u11 ⟨rfl, b11⟩
      have r12_s0 := SO.on r8_s0 b11
      have r12_s1 := SO.on r8_s1 b11
      have r12_s2 := SO.on r8_s2 b11
      have r12_s3 := SO.on r8_s3 b11
      have r13_k := le_on r9_k b11
      have r13_p := le_on r9_p b11
      have r13_i := le_on n7 b11
      have r13_ps := (r9_ps).on b11
      have l13 := le_tr l9 b11
      clear r9_k r9_p n7 r9_ps l9
      clear r8_s0 r8_s1 r8_s2 r8_s3
      clear b11
      go_wp2_with fail
      have y14 := Lib.hid (show (fun V : World => CB V b 42 (kA ⟨⟨(S.length : Int), A0, n0, c0, 9⟩, (i : Int), A1, S.length, c1, A2, i, c2, A3, S.length, c3⟩) ∧ CB V g1 30 (pA ⟨(i : Int), x⟩)) u11 from ⟨r13_k, r13_p⟩)
      refine hK.out _ _ y14.out (fun hHeld => ?_)
      clear hK K y14
      try simp only [Act.put, List.setIfInBounds_toArray, List.set_cons_zero, List.set_cons_succ]
      refine wpAnyH_takeL (i := 6) (d := some 7) (v := .tuple #[.agg (hA ((i + 1 : Nat) : Int)), .string x, .int .i64 (0)]) rfl rfl (by kernel_rfl) (by kernel_rfl) (by kernel_rfl) (fun _ _ _ h => h) (Or.inl ⟨by rfl, ?_⟩) hHeld ?_
      · intro w hSw; (try dsimp only at hSw); go_simp
      try simp only [Act.put, List.setIfInBounds_toArray, List.set_cons_zero, List.set_cons_succ]
      refine wpAnyH_takeL (i := 7) (d := some 14) (v := .agg (hA ((i + 1 : Nat) : Int))) rfl rfl (by kernel_rfl) (by kernel_rfl) (by kernel_rfl) (fun _ _ _ h => h) (Or.inl ⟨by rfl, ?_⟩) hHeld ?_
      · intro w hSw; (try dsimp only at hSw); go_simp
      try simp only [Act.put, List.setIfInBounds_toArray, List.set_cons_zero, List.set_cons_succ]
      refine wpAnyH_takeL (i := 8) (d := some 15) (v := .string x) rfl rfl (by kernel_rfl) (by kernel_rfl) (by kernel_rfl) (fun _ _ _ h => h) (Or.inl ⟨by rfl, ?_⟩) hHeld ?_
      · intro w hSw; (try dsimp only at hSw); go_simp
      try simp only [Act.put, List.setIfInBounds_toArray, List.set_cons_zero, List.set_cons_succ]
      refine wpAnyH_takeL (i := 9) (d := some 16) (v := .int .i64 (0)) rfl rfl (by kernel_rfl) (by kernel_rfl) (by kernel_rfl) (fun _ _ _ h => h) (Or.inl ⟨by rfl, ?_⟩) hHeld ?_
      · intro w hSw; (try dsimp only at hSw); go_simp
      try simp only [Act.put, List.setIfInBounds_toArray, List.set_cons_zero, List.set_cons_succ]
      refine wpAnyH_ready (rs := [11]) (by kernel_rfl) (by simp) ?_
      refine AllReadyH.cons rfl (fun K hK => ?_) AllReadyH.nil
      refine rd_store rfl 26 _ _ rfl none rfl g7 (hA ((i + 1 : Nat) : Int)) rfl rfl r13_i Try.zIn rfl (hA_one _) ?_
      refine ⟨fun V15 n15 k15 => ?_⟩
      have m15_k := k15.on r13_k ne7_k
      have m15_p := k15.on r13_p ne7_p
      have m15_ps := PS.wr r13_ps k15 r13_i (by decide)
      have m15_s0 := SO.wr r12_s0 k15 no7_s0
      have m15_s1 := SO.wr r12_s1 k15 no7_s1
      have m15_s2 := SO.wr r12_s2 k15 no7_s2
      have m15_s3 := SO.wr r12_s3 k15 no7_s3
      have o15 := k15.bel _ _ l13 up7
      clear k15
      clear r13_i r13_k r13_p r13_ps r12_s0 r12_s1 r12_s2 r12_s3 l13
      have y16 := Lib.hid (show (fun V : World => CB V b 42 (kA ⟨⟨(S.length : Int), A0, n0, c0, 9⟩, (i : Int), A1, S.length, c1, A2, i, c2, A3, S.length, c3⟩) ∧ CB V g1 30 (pA ⟨(i : Int), x⟩)) V15 from ⟨m15_k, m15_p⟩)
      refine hK.out _ _ y16.out (fun hHeld => ?_)
      clear hK K y16
      try simp only [Act.put, List.setIfInBounds_toArray, List.set_cons_zero, List.set_cons_succ]
      refine wpAnyH_takeL (i := 12) (d := some 5) (v := .string x) rfl rfl (by kernel_rfl) (by kernel_rfl) (by kernel_rfl) (fun _ _ _ h => h) (Or.inl ⟨by rfl, ?_⟩) hHeld ?_
      · intro w hSw; (try dsimp only at hSw); go_simp
      try simp only [Act.put, List.setIfInBounds_toArray, List.set_cons_zero, List.set_cons_succ]
      refine wpAnyH_takeL (i := 13) (d := some 6) (v := .int .i64 (0)) rfl rfl (by kernel_rfl) (by kernel_rfl) (by kernel_rfl) (fun _ _ _ h => h) (Or.inl ⟨by rfl, ?_⟩) hHeld ?_
      · intro w hSw; (try dsimp only at hSw); go_simp
      try simp only [Act.put, List.setIfInBounds_toArray, List.set_cons_zero, List.set_cons_succ]
      refine wpAnyH_done (by kernel_rfl) ?_ _
      go_wp2_with (first | ((with_reducible refine st_load 26 _ g7 ?_ n15 Try.underlying26 ?_ ?_ ?_); exact rfl; exact rfl; exact Try.zIn) | ((with_reducible refine st_mid 26 _ _ b 3 (hA ((i + 1 : Nat) : Int)) ?_ ?_ m15_k ?_ (new := kA ⟨⟨(S.length : Int), A0, n0, c0, 9⟩, ((i + 1 : Nat) : Int), A1, S.length, c1, A2, i, c2, A3, S.length, c3⟩) ?_ ?_ ?_ ?_); exact rfl; exact rfl; exact (by decide : 3 + 1 ≤ 7); exact kA_i _ _; exact Try.zIn; exact hA_one _))
      refine ⟨fun V17 n17 k17 => ?_⟩
      have m17_p := k17.on m15_p (Ne.symm ne1_k)
      have m17_i := k17.on n15 (Ne.symm ne7_k)
      have m17_ps := PS.wr m15_ps k17 m15_k (by decide)
      have m17_s0 := SO.wr m15_s0 k17 no0
      have m17_s1 := SO.wr m15_s1 k17 no1
      have m17_s2 := SO.wr m15_s2 k17 no2
      have m17_s3 := SO.wr m15_s3 k17 no3
      have o17 := k17.bel _ _ o15 hge
      clear k17
      clear m15_k m15_p n15 m15_ps m15_s0 m15_s1 m15_s2 m15_s3 o15
      have c18 : V17.cell? ⟨b, 5, none⟩ = some (.slice A2 i c2) := CB.cell n17 5
      go_wp2_with (first | ((with_reducible refine st_litv 40 9 _ (.string x) (zA x) ?_ rfl Try.underlying40 Try.infoS2 rfl (by decide) (by decide) ?_); exact rfl))
      refine ⟨fun V19 g19 n19 f19 => ?_⟩
      clear c18
      have ne19_k := f19.ne n17
      have ne19_p := f19.ne m17_p
      have ne19_i := f19.ne m17_i
      have no19_s0 := SO.fresh m17_s0 (Nat.le_of_eq f19.at_)
      have no19_s1 := SO.fresh m17_s1 (Nat.le_of_eq f19.at_)
      have no19_s2 := SO.fresh m17_s2 (Nat.le_of_eq f19.at_)
      have no19_s3 := SO.fresh m17_s3 (Nat.le_of_eq f19.at_)
      have up19 : w.heap.size ≤ g19 := f19.up o17
      have bl19 := f19.bel
      clear f19
      have r20_s0 := SO.on m17_s0 bl19
      have r20_s1 := SO.on m17_s1 bl19
      have r20_s2 := SO.on m17_s2 bl19
      have r20_s3 := SO.on m17_s3 bl19
      have r21_k := le_on n17 bl19
      have r21_p := le_on m17_p bl19
      have r21_i := le_on m17_i bl19
      have r21_ps := (m17_ps).on bl19
      have l21 := le_tr o17 bl19
      clear n17 m17_p m17_i m17_ps o17
      clear m17_s0 m17_s1 m17_s2 m17_s3
      clear bl19
      go_wp2_with (first | ((with_reducible refine st_app (.tmp 27) (.tmp 29) 40 9 Try.underlying40 Try.infoS rfl (by decide) (A := A2) (n := i) (c := c2) (G := G2) rfl r20_s2.seg (As := (some ⟨g19, 0, none⟩)) (m := 1) (k := 1) rfl (Src.box n19 rfl) (all_list (zA_one _)) (by simp only [maxLen]; omega) (by omega) (i + 1) (by omega) ?_)))
      refine ⟨fun B22 m22 q22 w22 s22 h22 k22 => ?_⟩
      have s22 : Seg w22 9 1 B22 (i + 1) m22 (rc scl (S.take (i + 1))) q22 := by rw [HT.out, ← rc_snoc]; exact s22
      have hg22 : ∀ g, G2 = some g → w.heap.size ≤ g := fun g e => r20_s2.hi g e
      have so22 : SO w.heap.size w22 9 scl 1 B22 (i + 1) m22 (S.take (i + 1)) q22 := ⟨s22, k22.ge (l21).size hg22⟩
      have e22_k := CB.same r21_k (h22.block _ (CB.lt r21_k) (fun e => no2 _ e.symm rfl))
      have na22_k := moved_ne k22 (CB.lt r21_k) no2
      have e22_p := CB.same r21_p (h22.block _ (CB.lt r21_p) (fun e => no1_s2 _ e.symm rfl))
      have na22_p := moved_ne k22 (CB.lt r21_p) no1_s2
      have e22_i := CB.same r21_i (h22.block _ (CB.lt r21_i) (fun e => no7_s2 _ e.symm rfl))
      have na22_i := moved_ne k22 (CB.lt r21_i) no7_s2
      have e22_z := CB.same n19 (h22.block _ (CB.lt n19) (fun e => no19_s2 _ e.symm rfl))
      have na22_z := moved_ne k22 (CB.lt n19) no19_s2
      have e22_ps := PS.grow r21_ps h22 r20_s2.seg (by decide)
      have e22_s0 := SO.grow r20_s0 h22 (SO.apT r20_s0 r20_s2 (by decide))
      have e22_s1 := SO.grow r20_s1 h22 a12
      have ap22_s1 := ap_moved r20_s1 a12 k22
      have e22_s3 := SO.grow r20_s3 h22 (SO.apT r20_s3 r20_s2 (by decide))
      have lw22 := (l21).grown h22 (l21).size hg22
      clear h22 k22 s22 hg22 r20_s2 r21_k no2 r21_p no1_s2 r21_i no7_s2 n19 no19_s2 r21_ps r20_s0 r20_s1 r20_s3 l21
      go_wp2_with (first | ((with_reducible refine st_cell 40 _ _ b 5 (.slice B22 (i + 1) m22) ?_ ?_ e22_k (new := kA ⟨⟨(S.length : Int), A0, n0, c0, 9⟩, ((i + 1 : Nat) : Int), A1, S.length, c1, B22, i + 1, m22, A3, S.length, c3⟩) ?_ ?_ ?_ ?_ ?_ ?_); exact rfl; exact rfl; exact (by rw [kA_size]; decide); exact kA_2 _ _ _ _; exact one_ss; exact rfl; exact rfl))
      refine ⟨fun V23 n23 k23 => ?_⟩
      have m23_p := k23.on e22_p (Ne.symm ne1_k)
      have m23_i := k23.on e22_i (Ne.symm ne7_k)
      have m23_z := k23.on e22_z (Ne.symm ne19_k)
      have m23_ps := PS.wr e22_ps k23 e22_k (by decide)
      have m23_s0 := SO.wr e22_s0 k23 no0
      have m23_s1 := SO.wr e22_s1 k23 no1
      have m23_s3 := SO.wr e22_s3 k23 no3
      have m23_s2 := SO.wr so22 k23 na22_k
      have o23 := k23.bel _ _ lw22 hge
      clear k23
      clear e22_k e22_p e22_i e22_z e22_ps e22_s0 e22_s1 e22_s3 so22 lw22
      go_wp2_with fail
      exact bodyPost_end (v := .tuple #[]) (by simp [results, Try.results14, go_sem]) rfl ⟨rfl, by rw [ht9]; exact ⟨⟨⟨(S.length : Int), A0, n0, c0, 9⟩, ((i + 1 : Nat) : Int), A1, S.length, c1, B22, i + 1, m22, A3, S.length, c3⟩, G0, G1, q22, G3, n23, rfl, rfl, rfl, m23_s0, m23_s1, m23_s2, m23_s3, a03, ap22_s1, o23, hge⟩, m23_ps⟩
  have hne : ¬ eHea (h : Int) ⟨(i : Int), x⟩ = 0 := hea_no (by simp only; omega)
  obtain ⟨k, hkk⟩ : ∃ k, eHea (h : Int) ⟨(i : Int), x⟩ = k := ⟨_, rfl⟩
  rw [hkk] at hne
  have H1 := fun V => hear_n (h : Int) ⟨(i : Int), x⟩ k V hkk hne
  have q5 : ((k : Int) == 0) = false := by simp [hne]
  have ht9 : heT ⟨S, a, h⟩ i = ⟨S, a, h⟩ := by unfold heT; rw [if_neg e]
  clear hk ok4 e hkk hne
  go_enter Try.func14, Try.ntmps14
  go_wp2_with (first | ((with_reducible refine st_box 30 _ (pA ⟨(i : Int), x⟩) ?_ ?_); exact rfl))
  refine ⟨fun V1 g1 n1 f1 => ?_⟩
  have ne1_k := f1.ne hcb
  have no1_s0 := SO.fresh s0 (Nat.le_of_eq f1.at_)
  have no1_s1 := SO.fresh s1 (Nat.le_of_eq f1.at_)
  have no1_s2 := SO.fresh s2 (Nat.le_of_eq f1.at_)
  have no1_s3 := SO.fresh s3 (Nat.le_of_eq f1.at_)
  have up1 : w.heap.size ≤ g1 := f1.up hlow
  have bl1 := f1.bel
  clear f1
  have r2_s0 := SO.on s0 bl1
  have r2_s1 := SO.on s1 bl1
  have r2_s2 := SO.on s2 bl1
  have r2_s3 := SO.on s3 bl1
  have r3_k := le_on hcb bl1
  have r3_ps := (hps).on bl1
  have l3 := le_tr hlow bl1
  clear hcb hps hlow
  clear s0 s1 s2 s3
  clear bl1
  go_wp2_with fail
  have y4 := Lib.hid (show (fun V : World => CB V b 42 (kA ⟨⟨(S.length : Int), A0, n0, c0, 9⟩, (h : Int), A1, S.length, c1, A2, h, c2, A3, S.length, c3⟩) ∧ CB V g1 30 (pA ⟨(i : Int), x⟩)) V1.drew from ⟨CB.drew r3_k, CB.drew n1⟩)
  refine wp_region_held_drew (S := (fun V : World => CB V b 42 (kA ⟨⟨(S.length : Int), A0, n0, c0, 9⟩, (h : Int), A1, S.length, c1, A2, h, c2, A3, S.length, c3⟩) ∧ CB V g1 30 (pA ⟨(i : Int), x⟩))) (by kernel_rfl) y4.out (fun hHeld => ?_)
  obtain ⟨D4, hD4⟩ : ∃ V, V1.drew = V := ⟨_, rfl⟩
  have b4 : Below V1.heap.size V1 D4 := by rw [← hD4]; exact le_dr (Below.refl _ _)
  rw [hD4] at hHeld ⊢
  clear hD4
  have r5_s0 := SO.on r2_s0 b4
  have r5_s1 := SO.on r2_s1 b4
  have r5_s2 := SO.on r2_s2 b4
  have r5_s3 := SO.on r2_s3 b4
  have r6_k := le_on r3_k b4
  have r6_p := le_on n1 b4
  have r6_ps := (r3_ps).on b4
  have l6 := le_tr l3 b4
  clear r3_k n1 r3_ps l3
  clear r2_s0 r2_s1 r2_s2 r2_s3
  clear b4
  refine wpAnyH_takeL (i := 0) (d := some 8) (v := .pointer (some ⟨b, 0, none⟩)) rfl rfl (by kernel_rfl) (by kernel_rfl) (by kernel_rfl) (fun _ _ _ h => h) (Or.inl ⟨by rfl, ?_⟩) hHeld ?_
  · intro w hSw; (try dsimp only at hSw); go_simp
  try simp only [Act.put, List.setIfInBounds_toArray, List.set_cons_zero, List.set_cons_succ]
  refine wpAnyH_takeL (i := 1) (d := some 9) (v := .pointer (some ⟨b, 0, none⟩)) rfl rfl (by kernel_rfl) (by kernel_rfl) (by kernel_rfl) (fun _ _ _ h => h) (Or.inl ⟨by rfl, ?_⟩) hHeld ?_
  · intro w hSw; (try dsimp only at hSw); go_simp
  try simp only [Act.put, List.setIfInBounds_toArray, List.set_cons_zero, List.set_cons_succ]
  refine wpAnyH_takeL (i := 2) (d := some 10) (v := .pointer (some ⟨b, 3, none⟩)) rfl rfl (by kernel_rfl) (by kernel_rfl) (by kernel_rfl) (fun _ _ _ h => h) (Or.inl ⟨by rfl, ?_⟩) hHeld ?_
  · intro w hSw; (try dsimp only at hSw); go_simp
  try simp only [Act.put, List.setIfInBounds_toArray, List.set_cons_zero, List.set_cons_succ]
  refine wpAnyH_takeL (i := 3) (d := some 11) (v := .agg (hA (h : Int))) rfl rfl (by kernel_rfl) (by kernel_rfl) (by kernel_rfl) (fun _ _ _ h => h) (Or.inl ⟨by rfl, ?_⟩) hHeld ?_
  · intro w hSw; exact yl_part 26 _ b 3 rfl (pt := hA (h : Int)) hSw.1 (kA_pi _) Try.underlying26 rfl Try.zIn
  try simp only [Act.put, List.setIfInBounds_toArray, List.set_cons_zero, List.set_cons_succ]
  refine wpAnyH_takeL (i := 4) (d := some 12) (v := .agg (pA ⟨(i : Int), x⟩)) rfl rfl (by kernel_rfl) (by kernel_rfl) (by kernel_rfl) (fun _ _ _ h => h) (Or.inl ⟨by rfl, ?_⟩) hHeld ?_
  · intro w hSw; exact yl_whole 30 _ g1 rfl hSw.2 Try.underlying30 rfl Try.zPk
  try simp only [Act.put, List.setIfInBounds_toArray, List.set_cons_zero, List.set_cons_succ]
  refine wpAnyH_ready (rs := [5, 10]) (by kernel_rfl) (by simp) ?_
  refine AllReadyH.cons rfl (fun K hK => ?_) (AllReadyH.cons rfl (fun K hK => ?_) AllReadyH.nil)
  · skip
    go_simp
    (with_reducible refine (H1 _).mono ?_)
    rintro e u7 ⟨rfl, b7⟩
    have r8_s0 := SO.on r5_s0 b7
    have r8_s1 := SO.on r5_s1 b7
    have r8_s2 := SO.on r5_s2 b7
    have r8_s3 := SO.on r5_s3 b7
    have r9_k := le_on r6_k b7
    have r9_p := le_on r6_p b7
    have r9_ps := (r6_ps).on b7
    have l9 := le_tr l6 b7
    clear r6_k r6_p r6_ps l6
    clear r5_s0 r5_s1 r5_s2 r5_s3
    clear b7
    go_wp2_with fail
    have y10 := Lib.hid (show (fun V : World => CB V b 42 (kA ⟨⟨(S.length : Int), A0, n0, c0, 9⟩, (h : Int), A1, S.length, c1, A2, h, c2, A3, S.length, c3⟩) ∧ CB V g1 30 (pA ⟨(i : Int), x⟩)) u7 from ⟨r9_k, r9_p⟩)
    refine hK.out _ _ y10.out (fun hHeld => ?_)
    clear hK K y10
    try simp only [Act.put, List.setIfInBounds_toArray, List.set_cons_zero, List.set_cons_succ]
    refine wpAnyH_takeL (i := 6) (d := some 7) (v := .tuple #[.agg (hA (h : Int)), .string (ByteArray.empty), .int .i64 (k : Int)]) rfl rfl (by kernel_rfl) (by kernel_rfl) (by kernel_rfl) (fun _ _ _ h => h) (Or.inl ⟨by rfl, ?_⟩) hHeld ?_
    · intro w hSw; (try dsimp only at hSw); go_simp
    try simp only [Act.put, List.setIfInBounds_toArray, List.set_cons_zero, List.set_cons_succ]
    refine wpAnyH_takeL (i := 7) (d := some 14) (v := .agg (hA (h : Int))) rfl rfl (by kernel_rfl) (by kernel_rfl) (by kernel_rfl) (fun _ _ _ h => h) (Or.inl ⟨by rfl, ?_⟩) hHeld ?_
    · intro w hSw; (try dsimp only at hSw); go_simp
    try simp only [Act.put, List.setIfInBounds_toArray, List.set_cons_zero, List.set_cons_succ]
    refine wpAnyH_takeL (i := 8) (d := some 15) (v := .string (ByteArray.empty)) rfl rfl (by kernel_rfl) (by kernel_rfl) (by kernel_rfl) (fun _ _ _ h => h) (Or.inl ⟨by rfl, ?_⟩) hHeld ?_
    · intro w hSw; (try dsimp only at hSw); go_simp
    try simp only [Act.put, List.setIfInBounds_toArray, List.set_cons_zero, List.set_cons_succ]
    refine wpAnyH_takeL (i := 9) (d := some 16) (v := .int .i64 (k : Int)) rfl rfl (by kernel_rfl) (by kernel_rfl) (by kernel_rfl) (fun _ _ _ h => h) (Or.inl ⟨by rfl, ?_⟩) hHeld ?_
    · intro w hSw; (try dsimp only at hSw); go_simp
    try simp only [Act.put, List.setIfInBounds_toArray, List.set_cons_zero, List.set_cons_succ]
    refine wpAnyH_ready (rs := [10]) (by kernel_rfl) (by simp) ?_
    refine AllReadyH.cons rfl (fun K hK => ?_) AllReadyH.nil
    refine rd_alloc rfl 26 rfl (some 4) rfl (hA (0)) zero_in ?_
    refine ⟨fun V11 g11 n11 f11 => ?_⟩
    have ne11_k := f11.ne r9_k
    have ne11_p := f11.ne r9_p
    have no11_s0 := SO.fresh r8_s0 (Nat.le_of_eq f11.at_)
    have no11_s1 := SO.fresh r8_s1 (Nat.le_of_eq f11.at_)
    have no11_s2 := SO.fresh r8_s2 (Nat.le_of_eq f11.at_)
    have no11_s3 := SO.fresh r8_s3 (Nat.le_of_eq f11.at_)
    have up11 : w.heap.size ≤ g11 := f11.up l9
    have bl11 := f11.bel
    clear f11
    have r12_s0 := SO.on r8_s0 bl11
    have r12_s1 := SO.on r8_s1 bl11
    have r12_s2 := SO.on r8_s2 bl11
    have r12_s3 := SO.on r8_s3 bl11
    have r13_k := le_on r9_k bl11
    have r13_p := le_on r9_p bl11
    have r13_ps := (r9_ps).on bl11
    have l13 := le_tr l9 bl11
    clear r9_k r9_p r9_ps l9
    clear r8_s0 r8_s1 r8_s2 r8_s3
    clear bl11
    have y14 := Lib.hid (show (fun V : World => CB V b 42 (kA ⟨⟨(S.length : Int), A0, n0, c0, 9⟩, (h : Int), A1, S.length, c1, A2, h, c2, A3, S.length, c3⟩) ∧ CB V g1 30 (pA ⟨(i : Int), x⟩)) V11 from ⟨r13_k, r13_p⟩)
    refine hK.out _ _ y14.out (fun hHeld => ?_)
    clear hK K y14
    try simp only [Act.put, List.setIfInBounds_toArray, List.set_cons_zero, List.set_cons_succ]
    refine wpAnyH_ready (rs := [11]) (by kernel_rfl) (by simp) ?_
    refine AllReadyH.cons rfl (fun K hK => ?_) AllReadyH.nil
    refine rd_store rfl 26 _ _ rfl none rfl g11 (hA (h : Int)) rfl rfl n11 Try.zIn rfl (hA_one _) ?_
    refine ⟨fun V15 n15 k15 => ?_⟩
    have m15_k := k15.on r13_k ne11_k
    have m15_p := k15.on r13_p ne11_p
    have m15_ps := PS.wr r13_ps k15 n11 (by decide)
    have m15_s0 := SO.wr r12_s0 k15 no11_s0
    have m15_s1 := SO.wr r12_s1 k15 no11_s1
    have m15_s2 := SO.wr r12_s2 k15 no11_s2
    have m15_s3 := SO.wr r12_s3 k15 no11_s3
    have o15 := k15.bel _ _ l13 up11
    clear k15
    clear n11 r13_k r13_p r13_ps r12_s0 r12_s1 r12_s2 r12_s3 l13
    have y16 := Lib.hid (show (fun V : World => CB V b 42 (kA ⟨⟨(S.length : Int), A0, n0, c0, 9⟩, (h : Int), A1, S.length, c1, A2, h, c2, A3, S.length, c3⟩) ∧ CB V g1 30 (pA ⟨(i : Int), x⟩)) V15 from ⟨m15_k, m15_p⟩)
    refine hK.out _ _ y16.out (fun hHeld => ?_)
    clear hK K y16
    try simp only [Act.put, List.setIfInBounds_toArray, List.set_cons_zero, List.set_cons_succ]
    refine wpAnyH_takeL (i := 12) (d := some 5) (v := .string (ByteArray.empty)) rfl rfl (by kernel_rfl) (by kernel_rfl) (by kernel_rfl) (fun _ _ _ h => h) (Or.inl ⟨by rfl, ?_⟩) hHeld ?_
    · intro w hSw; (try dsimp only at hSw); go_simp
    try simp only [Act.put, List.setIfInBounds_toArray, List.set_cons_zero, List.set_cons_succ]
    refine wpAnyH_takeL (i := 13) (d := some 6) (v := .int .i64 (k : Int)) rfl rfl (by kernel_rfl) (by kernel_rfl) (by kernel_rfl) (fun _ _ _ h => h) (Or.inl ⟨by rfl, ?_⟩) hHeld ?_
    · intro w hSw; (try dsimp only at hSw); go_simp
    try simp only [Act.put, List.setIfInBounds_toArray, List.set_cons_zero, List.set_cons_succ]
    refine wpAnyH_done (by kernel_rfl) ?_ _
    go_wp2_with (first | ((with_reducible refine st_load 26 _ g11 ?_ n15 Try.underlying26 ?_ ?_ ?_); exact rfl; exact rfl; exact Try.zIn) | ((with_reducible refine st_mid 26 _ _ b 3 (hA (h : Int)) ?_ ?_ m15_k ?_ (new := kA ⟨⟨(S.length : Int), A0, n0, c0, 9⟩, (h : Int), A1, S.length, c1, A2, h, c2, A3, S.length, c3⟩) ?_ ?_ ?_ ?_); exact rfl; exact rfl; exact (by decide : 3 + 1 ≤ 7); exact kA_i _ _; exact Try.zIn; exact hA_one _))
    refine ⟨fun V17 n17 k17 => ?_⟩
    have m17_p := k17.on m15_p (Ne.symm ne1_k)
    have m17_i := k17.on n15 (Ne.symm ne11_k)
    have m17_ps := PS.wr m15_ps k17 m15_k (by decide)
    have m17_s0 := SO.wr m15_s0 k17 no0
    have m17_s1 := SO.wr m15_s1 k17 no1
    have m17_s2 := SO.wr m15_s2 k17 no2
    have m17_s3 := SO.wr m15_s3 k17 no3
    have o17 := k17.bel _ _ o15 hge
    clear k17
    clear m15_k m15_p n15 m15_ps m15_s0 m15_s1 m15_s2 m15_s3 o15
    go_wp2_with fail
    exact bodyPost_end (v := .tuple #[]) (by simp [results, Try.results14, go_sem]) rfl ⟨rfl, by rw [ht9]; exact ⟨⟨⟨(S.length : Int), A0, n0, c0, 9⟩, (h : Int), A1, S.length, c1, A2, h, c2, A3, S.length, c3⟩, G0, G1, G2, G3, n17, rfl, rfl, rfl, m17_s0, m17_s1, m17_s2, m17_s3, a03, a12, o17, hge⟩, m17_ps⟩
  · skip
    refine rd_alloc rfl 26 rfl (some 4) rfl (hA (0)) zero_in ?_
    refine ⟨fun V7 g7 n7 f7 => ?_⟩
    have ne7_k := f7.ne r6_k
    have ne7_p := f7.ne r6_p
    have no7_s0 := SO.fresh r5_s0 (Nat.le_of_eq f7.at_)
    have no7_s1 := SO.fresh r5_s1 (Nat.le_of_eq f7.at_)
    have no7_s2 := SO.fresh r5_s2 (Nat.le_of_eq f7.at_)
    have no7_s3 := SO.fresh r5_s3 (Nat.le_of_eq f7.at_)
    have up7 : w.heap.size ≤ g7 := f7.up l6
    have bl7 := f7.bel
    clear f7
    have r8_s0 := SO.on r5_s0 bl7
    have r8_s1 := SO.on r5_s1 bl7
    have r8_s2 := SO.on r5_s2 bl7
    have r8_s3 := SO.on r5_s3 bl7
    have r9_k := le_on r6_k bl7
    have r9_p := le_on r6_p bl7
    have r9_ps := (r6_ps).on bl7
    have l9 := le_tr l6 bl7
    clear r6_k r6_p r6_ps l6
    clear r5_s0 r5_s1 r5_s2 r5_s3
    clear bl7
    have y10 := Lib.hid (show (fun V : World => CB V b 42 (kA ⟨⟨(S.length : Int), A0, n0, c0, 9⟩, (h : Int), A1, S.length, c1, A2, h, c2, A3, S.length, c3⟩) ∧ CB V g1 30 (pA ⟨(i : Int), x⟩)) V7 from ⟨r9_k, r9_p⟩)
    refine hK.out _ _ y10.out (fun hHeld => ?_)
    clear hK K y10
    try simp only [Act.put, List.setIfInBounds_toArray, List.set_cons_zero, List.set_cons_succ]
    refine wpAnyH_ready (rs := [5]) (by kernel_rfl) (by simp) ?_
    refine AllReadyH.cons rfl (fun K hK => ?_) AllReadyH.nil
    go_simp
    (with_reducible refine (H1 _).mono ?_)
    rintro e u11 ⟨rfl, b11⟩
    have r12_s0 := SO.on r8_s0 b11
    have r12_s1 := SO.on r8_s1 b11
    have r12_s2 := SO.on r8_s2 b11
    have r12_s3 := SO.on r8_s3 b11
    have r13_k := le_on r9_k b11
    have r13_p := le_on r9_p b11
    have r13_i := le_on n7 b11
    have r13_ps := (r9_ps).on b11
    have l13 := le_tr l9 b11
    clear r9_k r9_p n7 r9_ps l9
    clear r8_s0 r8_s1 r8_s2 r8_s3
    clear b11
    go_wp2_with fail
    have y14 := Lib.hid (show (fun V : World => CB V b 42 (kA ⟨⟨(S.length : Int), A0, n0, c0, 9⟩, (h : Int), A1, S.length, c1, A2, h, c2, A3, S.length, c3⟩) ∧ CB V g1 30 (pA ⟨(i : Int), x⟩)) u11 from ⟨r13_k, r13_p⟩)
    refine hK.out _ _ y14.out (fun hHeld => ?_)
    clear hK K y14
    try simp only [Act.put, List.setIfInBounds_toArray, List.set_cons_zero, List.set_cons_succ]
    refine wpAnyH_takeL (i := 6) (d := some 7) (v := .tuple #[.agg (hA (h : Int)), .string (ByteArray.empty), .int .i64 (k : Int)]) rfl rfl (by kernel_rfl) (by kernel_rfl) (by kernel_rfl) (fun _ _ _ h => h) (Or.inl ⟨by rfl, ?_⟩) hHeld ?_
    · intro w hSw; (try dsimp only at hSw); go_simp
    try simp only [Act.put, List.setIfInBounds_toArray, List.set_cons_zero, List.set_cons_succ]
    refine wpAnyH_takeL (i := 7) (d := some 14) (v := .agg (hA (h : Int))) rfl rfl (by kernel_rfl) (by kernel_rfl) (by kernel_rfl) (fun _ _ _ h => h) (Or.inl ⟨by rfl, ?_⟩) hHeld ?_
    · intro w hSw; (try dsimp only at hSw); go_simp
    try simp only [Act.put, List.setIfInBounds_toArray, List.set_cons_zero, List.set_cons_succ]
    refine wpAnyH_takeL (i := 8) (d := some 15) (v := .string (ByteArray.empty)) rfl rfl (by kernel_rfl) (by kernel_rfl) (by kernel_rfl) (fun _ _ _ h => h) (Or.inl ⟨by rfl, ?_⟩) hHeld ?_
    · intro w hSw; (try dsimp only at hSw); go_simp
    try simp only [Act.put, List.setIfInBounds_toArray, List.set_cons_zero, List.set_cons_succ]
    refine wpAnyH_takeL (i := 9) (d := some 16) (v := .int .i64 (k : Int)) rfl rfl (by kernel_rfl) (by kernel_rfl) (by kernel_rfl) (fun _ _ _ h => h) (Or.inl ⟨by rfl, ?_⟩) hHeld ?_
    · intro w hSw; (try dsimp only at hSw); go_simp
    try simp only [Act.put, List.setIfInBounds_toArray, List.set_cons_zero, List.set_cons_succ]
    refine wpAnyH_ready (rs := [11]) (by kernel_rfl) (by simp) ?_
    refine AllReadyH.cons rfl (fun K hK => ?_) AllReadyH.nil
    refine rd_store rfl 26 _ _ rfl none rfl g7 (hA (h : Int)) rfl rfl r13_i Try.zIn rfl (hA_one _) ?_
    refine ⟨fun V15 n15 k15 => ?_⟩
    have m15_k := k15.on r13_k ne7_k
    have m15_p := k15.on r13_p ne7_p
    have m15_ps := PS.wr r13_ps k15 r13_i (by decide)
    have m15_s0 := SO.wr r12_s0 k15 no7_s0
    have m15_s1 := SO.wr r12_s1 k15 no7_s1
    have m15_s2 := SO.wr r12_s2 k15 no7_s2
    have m15_s3 := SO.wr r12_s3 k15 no7_s3
    have o15 := k15.bel _ _ l13 up7
    clear k15
    clear r13_i r13_k r13_p r13_ps r12_s0 r12_s1 r12_s2 r12_s3 l13
    have y16 := Lib.hid (show (fun V : World => CB V b 42 (kA ⟨⟨(S.length : Int), A0, n0, c0, 9⟩, (h : Int), A1, S.length, c1, A2, h, c2, A3, S.length, c3⟩) ∧ CB V g1 30 (pA ⟨(i : Int), x⟩)) V15 from ⟨m15_k, m15_p⟩)
    refine hK.out _ _ y16.out (fun hHeld => ?_)
    clear hK K y16
    try simp only [Act.put, List.setIfInBounds_toArray, List.set_cons_zero, List.set_cons_succ]
    refine wpAnyH_takeL (i := 12) (d := some 5) (v := .string (ByteArray.empty)) rfl rfl (by kernel_rfl) (by kernel_rfl) (by kernel_rfl) (fun _ _ _ h => h) (Or.inl ⟨by rfl, ?_⟩) hHeld ?_
    · intro w hSw; (try dsimp only at hSw); go_simp
    try simp only [Act.put, List.setIfInBounds_toArray, List.set_cons_zero, List.set_cons_succ]
    refine wpAnyH_takeL (i := 13) (d := some 6) (v := .int .i64 (k : Int)) rfl rfl (by kernel_rfl) (by kernel_rfl) (by kernel_rfl) (fun _ _ _ h => h) (Or.inl ⟨by rfl, ?_⟩) hHeld ?_
    · intro w hSw; (try dsimp only at hSw); go_simp
    try simp only [Act.put, List.setIfInBounds_toArray, List.set_cons_zero, List.set_cons_succ]
    refine wpAnyH_done (by kernel_rfl) ?_ _
    go_wp2_with (first | ((with_reducible refine st_load 26 _ g7 ?_ n15 Try.underlying26 ?_ ?_ ?_); exact rfl; exact rfl; exact Try.zIn) | ((with_reducible refine st_mid 26 _ _ b 3 (hA (h : Int)) ?_ ?_ m15_k ?_ (new := kA ⟨⟨(S.length : Int), A0, n0, c0, 9⟩, (h : Int), A1, S.length, c1, A2, h, c2, A3, S.length, c3⟩) ?_ ?_ ?_ ?_); exact rfl; exact rfl; exact (by decide : 3 + 1 ≤ 7); exact kA_i _ _; exact Try.zIn; exact hA_one _))
    refine ⟨fun V17 n17 k17 => ?_⟩
    have m17_p := k17.on m15_p (Ne.symm ne1_k)
    have m17_i := k17.on n15 (Ne.symm ne7_k)
    have m17_ps := PS.wr m15_ps k17 m15_k (by decide)
    have m17_s0 := SO.wr m15_s0 k17 no0
    have m17_s1 := SO.wr m15_s1 k17 no1
    have m17_s2 := SO.wr m15_s2 k17 no2
    have m17_s3 := SO.wr m15_s3 k17 no3
    have o17 := k17.bel _ _ o15 hge
    clear k17
    clear m15_k m15_p n15 m15_ps m15_s0 m15_s1 m15_s2 m15_s3 o15
    go_wp2_with fail
    exact bodyPost_end (v := .tuple #[]) (by simp [results, Try.results14, go_sem]) rfl ⟨rfl, by rw [ht9]; exact ⟨⟨⟨(S.length : Int), A0, n0, c0, 9⟩, (h : Int), A1, S.length, c1, A2, h, c2, A3, S.length, c3⟩, G0, G1, G2, G3, n17, rfl, rfl, rfl, m17_s0, m17_s1, m17_s2, m17_s3, a03, a12, o17, hge⟩, m17_ps⟩
end Go.Proofs.Ytemhfaodgofcpaa
