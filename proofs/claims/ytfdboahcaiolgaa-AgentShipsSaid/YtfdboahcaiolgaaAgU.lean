/-
  AgentAlone, AgentFirst. No condition.
-/
import Derived.Test.YtfdboahcaiolgaaAgT
set_option linter.unusedVariables false
set_option linter.unusedSimpArgs false
namespace Go.Proofs.Ytfdboahcaiolgaa
open Go.RowKit
open Dk (Nt InN RightN BoundN MsgN NoMsg KindN EpN bound_n)


theorem fld_sc (s : Sd) (V : World) : (Instr.field 45 (.agg (siA s)) 1).run Try.prog V = .ok (.agg (lsA s.l)) V := by kernel_rfl
theorem alone_m {s : Sd} {b : Bl} {mb : Int} (h : ¬ s.l.st = 1) : (¬ eSh s b = 0 ∧ sSh s b = s) ∧ ¬ eSp s mb = 0 ∧ lSp s mb = [] := by
  have h1 : ¬ eSh s b = 0 := by
    unfold eSh
    split
    · decide
    · first | decide | (rw [if_pos h]; decide)
  have h2 : ¬ eSp s mb = 0 := by
    unfold eSp
    split
    · decide
    · first | decide | (rw [if_pos h]; decide)
  exact ⟨⟨h1, sh_err h1⟩, h2, by unfold lSp; rw [if_neg h2]⟩
theorem sh_hasB {s : Sd} {b : Bl} (h : eSh s b = 0) : MayB b ∧ ∃ L, HasB s L ∧ ePu L b = 0 := by
  by_cases hb : MayB b
  · by_cases hk : kE s = 0
    · exact ⟨hb, kL s, k_has hk, by rw [← sh_has (k_has hk) b hb]; exact h⟩
    · rw [(sh_k hb hk).1] at h; exact absurd h hk
  · rw [(sh_may hb).1] at h; cases h
/-- Once shipped, a vote stays. -/
theorem first_m {s : Sd} {b : Bl} (h : eSh s b = 0) : (eSh (sSh s b) b = 0 ∧ sSh (sSh s b) b = sSh s b) ∧ (eSh (sSh s b) ⟨b.tx, 3 - b.vt⟩ = 8 ∧ sSh (sSh s b) ⟨b.tx, 3 - b.vt⟩ = sSh s b) ∧ RightS (sSh s b) ∧ (sSh s b).l = s.l ∧ MayB b := by
  obtain ⟨hb, L, hL, hp⟩ := sh_hasB h
  obtain ⟨_, e2, h3⟩ := sh_ok hL hb hp
  obtain ⟨_, hl, _, _⟩ := sh_state hL hb
  have hs := hL.right.2.2
  have hs2 := h3.right.2.2
  have hv : valB (insB L b) b.tx = some b.vt := by rw [val_ins hL.right hp, if_pos rfl]
  have hi : insB (insB L b) b = insB L b := insB_has hs2 hv
  have p1 : ePu (insB L b) b = 0 := by unfold ePu; rw [hv]; simp
  have p2 : ePu (insB L b) ⟨b.tx, 3 - b.vt⟩ = 8 := by
    unfold ePu
    simp only [hv]
    rw [if_neg (by have := hb.2; omega)]
  have hb2 : MayB ⟨b.tx, 3 - b.vt⟩ := ⟨hb.1, by have := hb.2; show 3 - b.vt = 1 ∨ 3 - b.vt = 2; omega⟩
  have e8 : eSh (sSh s b) ⟨b.tx, 3 - b.vt⟩ = 8 := by rw [sh_has h3 _ hb2, p2]
  refine ⟨⟨?_, ?_⟩, ⟨e8, sh_err (by rw [e8]; decide)⟩, h3.r, hl, hb⟩
  · rw [sh_has h3 _ hb, p1]
  · obtain ⟨_, f2, _⟩ := sh_ok h3 hb p1
    rw [f2, hi, e2]
set_option maxRecDepth 100000 in
set_option maxHeartbeats 4000000 in
theorem alone_walk (s : Sd) (b : Bl) (mb : Int) (w : World) : Calls Try.prog 8 #[.agg (siA s), .agg (btA b), .int .u8 mb] w fun r w' => r = .returned (.bool true) ∧ Below w.heap.size w w' := by
  by_cases hs : s.cg.size ≤ 600
  rotate_left
  · skip
    have q1 : decide ((600 : Int) < (s.cg.size : Int)) = true := by simp; omega
    have q1' : decide ((s.cg.size : Int) > 600) = true := by simp; omega
    go_enter Try.func8, Try.ntmps8
    go_wp2_with (first | ((with_reducible refine st_box 40 _ (siA s) ?_ ?_); exact rfl))
    refine ⟨fun V1 g1 n1 f1 => ?_⟩
    have up1 : w.heap.size ≤ g1 := Nat.le_of_eq f1.at_
    have bl1 := f1.bel
    clear f1
    have l3 := le_tr (Below.refl _ _) bl1
    clear bl1
    go_wp2_with (first | ((with_reducible refine st_box 42 _ (btA b) ?_ ?_); exact rfl))
    refine ⟨fun V4 g4 n4 f4 => ?_⟩
    have ne4_s := f4.ne n1
    have up4 : w.heap.size ≤ g4 := f4.up l3
    have bl4 := f4.bel
    clear f4
    have r6_s := le_on n1 bl4
    have l6 := le_tr l3 bl4
    clear n1 l3
    clear bl4
    go_wp2_with fail
    (with_reducible refine (alive_c _).mono ?_)
    rintro e w7 ⟨rfl, b7⟩
    have r9_s := le_on r6_s b7
    have r9_b := le_on n4 b7
    have l9 := le_tr l6 b7
    clear r6_s n4 l6
    clear b7
    have c10 : w7.cell? ⟨g1, 4, none⟩ = some (.string (s.cg)) := CB.cell r9_s 4
    have c11 : w7.cell? ⟨g1, 2, none⟩ = some (.int .i64 (s.l).st) := CB.cell r9_s 2
    go_wp2_with fail
    go_ret
    exact ⟨rfl, l9⟩
  have q1 : decide ((600 : Int) < (s.cg.size : Int)) = false := by simp; omega
  have q1' : decide ((s.cg.size : Int) > 600) = false := by simp; omega
  by_cases h1 : s.l.st = 1
  · skip
    have q2 : (s.l.st == 1) = true := by simp [h1]
    clear h1
    go_enter Try.func8, Try.ntmps8
    go_wp2_with (first | ((with_reducible refine st_box 40 _ (siA s) ?_ ?_); exact rfl))
    refine ⟨fun V1 g1 n1 f1 => ?_⟩
    have up1 : w.heap.size ≤ g1 := Nat.le_of_eq f1.at_
    have bl1 := f1.bel
    clear f1
    have l3 := le_tr (Below.refl _ _) bl1
    clear bl1
    go_wp2_with (first | ((with_reducible refine st_box 42 _ (btA b) ?_ ?_); exact rfl))
    refine ⟨fun V4 g4 n4 f4 => ?_⟩
    have ne4_s := f4.ne n1
    have up4 : w.heap.size ≤ g4 := f4.up l3
    have bl4 := f4.bel
    clear f4
    have r6_s := le_on n1 bl4
    have l6 := le_tr l3 bl4
    clear n1 l3
    clear bl4
    go_wp2_with fail
    (with_reducible refine (alive_c _).mono ?_)
    rintro e w7 ⟨rfl, b7⟩
    have r9_s := le_on r6_s b7
    have r9_b := le_on n4 b7
    have l9 := le_tr l6 b7
    clear r6_s n4 l6
    clear b7
    have c10 : w7.cell? ⟨g1, 4, none⟩ = some (.string (s.cg)) := CB.cell r9_s 4
    have c11 : w7.cell? ⟨g1, 2, none⟩ = some (.int .i64 (s.l).st) := CB.cell r9_s 2
    go_wp2_with fail
    go_ret
    exact ⟨rfl, l9⟩
  have q2 : (s.l.st == 1) = false := by simp [h1]
  obtain ⟨⟨a1, a2⟩, a3, a4⟩ := alone_m (b := b) (mb := mb) h1
  obtain ⟨k, hk⟩ : ∃ k, eSh s b = k := ⟨_, rfl⟩
  obtain ⟨j, hj⟩ : ∃ j, eSp s mb = j := ⟨_, rfl⟩
  rw [hk] at a1
  rw [hj] at a3
  have q3 : ((k : Int) != 0) = true := by rw [bne_iff_ne]; omega
  have q4 : ((j : Int) != 0) = true := by rw [bne_iff_ne]; omega
  have C1 : ∀ V : World, Calls Try.prog 16 #[.agg (siA s), .agg (btA b)] V (fun e w' => e = .returned (.tuple #[.agg (siA s), .int .i64 (k : Int)]) ∧ Below V.heap.size V w') := fun V => by have h := ship_c s b V; rw [hk, a2] at h; exact h
  have C2 : ∀ V : World, Calls Try.prog 19 #[.agg (siA s), .int .u8 mb] V (LPostN V 75 [] j) := fun V => by have h := speak_c s mb V; rw [hj, a4] at h; exact h
  have E : ∀ V : World, (Op.equalIn 10000 40 (.agg (siA s)) (.agg (siA s))).run Try.prog V = .ok true V := fun V => by have := eq_sr s s V; rw [eqS_refl] at this; exact this
  clear hs h1 a1 a2 a3 a4 hk hj
  go_enter Try.func8, Try.ntmps8
  go_wp2_with (first | ((with_reducible refine st_box 40 _ (siA s) ?_ ?_); exact rfl))
  refine ⟨fun V1 g1 n1 f1 => ?_⟩
  have up1 : w.heap.size ≤ g1 := Nat.le_of_eq f1.at_
  have bl1 := f1.bel
  clear f1
  have l3 := le_tr (Below.refl _ _) bl1
  clear bl1
  go_wp2_with (first | ((with_reducible refine st_box 42 _ (btA b) ?_ ?_); exact rfl))
  refine ⟨fun V4 g4 n4 f4 => ?_⟩
  have ne4_s := f4.ne n1
  have up4 : w.heap.size ≤ g4 := f4.up l3
  have bl4 := f4.bel
  clear f4
  have r6_s := le_on n1 bl4
  have l6 := le_tr l3 bl4
  clear n1 l3
  clear bl4
  go_wp2_with fail
  (with_reducible refine (alive_c _).mono ?_)
  rintro e w7 ⟨rfl, b7⟩
  have r9_s := le_on r6_s b7
  have r9_b := le_on n4 b7
  have l9 := le_tr l6 b7
  clear r6_s n4 l6
  clear b7
  have c10 : w7.cell? ⟨g1, 4, none⟩ = some (.string (s.cg)) := CB.cell r9_s 4
  have c11 : w7.cell? ⟨g1, 2, none⟩ = some (.int .i64 (s.l).st) := CB.cell r9_s 2
  go_wp2_with fail
  clear c10 c11
  have y12 := Lib.hid (show (fun V : World => CB V g1 40 (siA s) ∧ CB V g4 42 (btA b)) w7.drew from ⟨CB.drew r9_s, CB.drew r9_b⟩)
  refine wp_region_held_drew (S := (fun V : World => CB V g1 40 (siA s) ∧ CB V g4 42 (btA b))) (by kernel_rfl) y12.out (fun hHeld => ?_)
  obtain ⟨D12, hD12⟩ : ∃ V, w7.drew = V := ⟨_, rfl⟩
  have b12 : Below w7.heap.size w7 D12 := by rw [← hD12]; exact le_dr (Below.refl _ _)
  rw [hD12] at hHeld ⊢
  clear hD12
  have r14_s := le_on r9_s b12
  have r14_b := le_on r9_b b12
  have l14 := le_tr l9 b12
  clear r9_s r9_b l9
  clear b12
  refine wpAnyH_takeL (i := 0) (d := some 24) (v := .agg (siA s)) rfl rfl (by kernel_rfl) (by kernel_rfl) (by kernel_rfl) (fun _ _ _ h => h) (Or.inl ⟨by rfl, ?_⟩) hHeld ?_
  · intro w hSw; exact yl_whole 40 _ g1 rfl hSw.1 Try.underlying40 rfl Try.zSr
  try simp only [Act.put, List.setIfInBounds_toArray, List.set_cons_zero, List.set_cons_succ]
  refine wpAnyH_takeL (i := 2) (d := some 26) (v := .agg (btA b)) rfl rfl (by kernel_rfl) (by kernel_rfl) (by kernel_rfl) (fun _ _ _ h => h) (Or.inl ⟨by rfl, ?_⟩) hHeld ?_
  · intro w hSw; exact yl_whole 42 _ g4 rfl hSw.2 Try.underlying42 rfl Try.zBr
  try simp only [Act.put, List.setIfInBounds_toArray, List.set_cons_zero, List.set_cons_succ]
  refine wpAnyH_ready (rs := [1, 7]) (by kernel_rfl) (by simp) ?_
  refine AllReadyH.cons rfl (fun K hK => ?_) (AllReadyH.cons rfl (fun K hK => ?_) AllReadyH.nil)
  · skip
    go_simp
    (with_reducible refine (side_c s _).mono ?_)
    rintro e u15 ⟨rfl, b15⟩
    have r17_s := le_on r14_s b15
    have r17_b := le_on r14_b b15
    have l17 := le_tr l14 b15
    clear r14_s r14_b l14
    clear b15
    go_wp2_with fail
    have y18 := Lib.hid (show (fun V : World => CB V g1 40 (siA s) ∧ CB V g4 42 (btA b)) u15 from ⟨r17_s, r17_b⟩)
    refine hK.out _ _ y18.out (fun hHeld => ?_)
    clear hK K y18
    try simp only [Act.put, List.setIfInBounds_toArray, List.set_cons_zero, List.set_cons_succ]
    refine wpAnyH_ready (rs := [3, 7]) (by kernel_rfl) (by simp) ?_
    refine AllReadyH.cons rfl (fun K hK => ?_) (AllReadyH.cons rfl (fun K hK => ?_) AllReadyH.nil)
    · skip
      go_simp
      (with_reducible refine (C1 _).mono ?_)
      rintro e u19 ⟨rfl, b19⟩
      have r21_s := le_on r17_s b19
      have r21_b := le_on r17_b b19
      have l21 := le_tr l17 b19
      clear r17_s r17_b l17
      clear b19
      go_wp2_with fail
      have y22 := Lib.hid (show (fun V : World => CB V g1 40 (siA s) ∧ CB V g4 42 (btA b)) u19 from ⟨r21_s, r21_b⟩)
      refine hK.out _ _ y22.out (fun hHeld => ?_)
      clear hK K y22
      try simp only [Act.put, List.setIfInBounds_toArray, List.set_cons_zero, List.set_cons_succ]
      refine wpAnyH_takeL (i := 4) (d := some 23) (v := .tuple #[.agg (siA s), .int .i64 (k : Int)]) rfl rfl (by kernel_rfl) (by kernel_rfl) (by kernel_rfl) (fun _ _ _ h => h) (Or.inl ⟨by rfl, ?_⟩) hHeld ?_
      · intro w hSw; (try dsimp only at hSw); go_simp
      try simp only [Act.put, List.setIfInBounds_toArray, List.set_cons_zero, List.set_cons_succ]
      refine wpAnyH_takeL (i := 5) (d := some 28) (v := .agg (siA s)) rfl rfl (by kernel_rfl) (by kernel_rfl) (by kernel_rfl) (fun _ _ _ h => h) (Or.inl ⟨by rfl, ?_⟩) hHeld ?_
      · intro w hSw; (try dsimp only at hSw); go_simp
      try simp only [Act.put, List.setIfInBounds_toArray, List.set_cons_zero, List.set_cons_succ]
      refine wpAnyH_takeL (i := 6) (d := some 29) (v := .int .i64 (k : Int)) rfl rfl (by kernel_rfl) (by kernel_rfl) (by kernel_rfl) (fun _ _ _ h => h) (Or.inl ⟨by rfl, ?_⟩) hHeld ?_
      · intro w hSw; (try dsimp only at hSw); go_simp
      try simp only [Act.put, List.setIfInBounds_toArray, List.set_cons_zero, List.set_cons_succ]
      refine wpAnyH_ready (rs := [7]) (by kernel_rfl) (by simp) ?_
      refine AllReadyH.cons rfl (fun K hK => ?_) AllReadyH.nil
      refine rd_alloc rfl 45 rfl (some 7) rfl (siA zS) zero_sc ?_
      refine ⟨fun V23 g23 n23 f23 => ?_⟩
      have ne23_s := f23.ne r21_s
      have ne23_b := f23.ne r21_b
      have up23 : w.heap.size ≤ g23 := f23.up l21
      have bl23 := f23.bel
      clear f23
      have r25_s := le_on r21_s bl23
      have r25_b := le_on r21_b bl23
      have l25 := le_tr l21 bl23
      clear r21_s r21_b l21
      clear bl23
      have y26 := Lib.hid (show (fun V : World => CB V g1 40 (siA s) ∧ CB V g4 42 (btA b)) V23 from ⟨r25_s, r25_b⟩)
      refine hK.out _ _ y26.out (fun hHeld => ?_)
      clear hK K y26
      try simp only [Act.put, List.setIfInBounds_toArray, List.set_cons_zero, List.set_cons_succ]
      refine wpAnyH_ready (rs := [8]) (by kernel_rfl) (by simp) ?_
      refine AllReadyH.cons rfl (fun K hK => ?_) AllReadyH.nil
      refine rd_store rfl 45 _ _ rfl none rfl g23 (siA s) rfl rfl n23 Try.zSc rfl (siA_one _) ?_
      refine ⟨fun V27 n27 k27 => ?_⟩
      have m27_s := k27.on r25_s ne23_s
      have m27_b := k27.on r25_b ne23_b
      have o27 := k27.bel _ _ l25 up23
      clear k27
      clear n23 r25_s r25_b l25
      have y28 := Lib.hid (show (fun V : World => CB V g1 40 (siA s) ∧ CB V g4 42 (btA b)) V27 from ⟨m27_s, m27_b⟩)
      refine hK.out _ _ y28.out (fun hHeld => ?_)
      clear hK K y28
      try simp only [Act.put, List.setIfInBounds_toArray, List.set_cons_zero, List.set_cons_succ]
      refine wpAnyH_takeL (i := 9) (d := some 8) (v := .int .i64 (k : Int)) rfl rfl (by kernel_rfl) (by kernel_rfl) (by kernel_rfl) (fun _ _ _ h => h) (Or.inl ⟨by rfl, ?_⟩) hHeld ?_
      · intro w hSw; (try dsimp only at hSw); go_simp
      try simp only [Act.put, List.setIfInBounds_toArray, List.set_cons_zero, List.set_cons_succ]
      refine wpAnyH_done (by kernel_rfl) ?_ _
      go_wp2_with (first | (first | ((with_reducible refine st_load 40 _ g1 ?_ m27_s Try.underlying40 ?_ ?_ ?_); exact rfl; exact rfl; exact Try.zSr) | ((with_reducible refine st_loadG 40 _ g1 ?_ m27_s Try.underlying40 ?_ ?_ ?_ ?_); exact rfl; exact rfl; exact Try.zSr; exact rfl)))
      (with_reducible refine (side_c s _).mono ?_)
      rintro e w29 ⟨rfl, b29⟩
      have r31_s := le_on m27_s b29
      have r31_b := le_on m27_b b29
      have r31_x := le_on n27 b29
      have l31 := le_tr o27 b29
      clear m27_s m27_b n27 o27
      clear b29
      go_wp2_with fail
      (with_reducible refine (C2 _).mono ?_)
      rintro e w32 ⟨A, n, q, rfl, h4, b32⟩
      have r34_s := le_on r31_s b32
      have r34_b := le_on r31_b b32
      have r34_x := le_on r31_x b32
      have l34 := le_tr l31 b32
      clear r31_s r31_b r31_x l31
      clear b32
      obtain rfl : n = 0 := by rw [← h4.len]; rfl
      clear h4
      go_wp2_with fail
      have y35 := Lib.hid (show (fun V : World => CB V g23 45 (siA s) ∧ CB V g1 40 (siA s)) w32.drew from ⟨CB.drew r34_x, CB.drew r34_s⟩)
      refine wp_region_held_drew (S := (fun V : World => CB V g23 45 (siA s) ∧ CB V g1 40 (siA s))) (by kernel_rfl) y35.out (fun hHeld => ?_)
      obtain ⟨D35, hD35⟩ : ∃ V, w32.drew = V := ⟨_, rfl⟩
      have b35 : Below w32.heap.size w32 D35 := by rw [← hD35]; exact le_dr (Below.refl _ _)
      rw [hD35] at hHeld ⊢
      clear hD35
      have r37_s := le_on r34_s b35
      have r37_b := le_on r34_b b35
      have r37_x := le_on r34_x b35
      have l37 := le_tr l34 b35
      clear r34_s r34_b r34_x l34
      clear b35
      refine wpAnyH_takeL (i := 0) (d := some 37) (v := .int .i64 (k : Int)) rfl rfl (by kernel_rfl) (by kernel_rfl) (by kernel_rfl) (fun _ _ _ h => h) (Or.inl ⟨by rfl, ?_⟩) hHeld ?_
      · intro w hSw; (try dsimp only at hSw); go_simp
      try simp only [Act.put, List.setIfInBounds_toArray, List.set_cons_zero, List.set_cons_succ]
      refine wpAnyH_takeL (i := 1) (d := some 38) (v := .bool true) rfl rfl (by kernel_rfl) (by kernel_rfl) (by kernel_rfl) (fun _ _ _ h => h) (Or.inl ⟨by rfl, ?_⟩) hHeld ?_
      · intro w hSw; (try dsimp only at hSw); go_simp
      try simp only [Act.put, List.setIfInBounds_toArray, List.set_cons_zero, List.set_cons_succ]
      refine wpAnyH_takeL (i := 2) (d := some 39) (v := .bool true) rfl rfl (by kernel_rfl) (by kernel_rfl) (by kernel_rfl) (fun _ _ _ h => h) (Or.inl ⟨by rfl, ?_⟩) hHeld ?_
      · intro w hSw; (try dsimp only at hSw); go_simp
      try simp only [Act.put, List.setIfInBounds_toArray, List.set_cons_zero, List.set_cons_succ]
      refine wpAnyH_takeL (i := 3) (d := some 40) (v := .agg (siA s)) rfl rfl (by kernel_rfl) (by kernel_rfl) (by kernel_rfl) (fun _ _ _ h => h) (Or.inl ⟨by rfl, ?_⟩) hHeld ?_
      · intro w hSw; exact yl_whole 45 _ g23 rfl hSw.1 Try.underlying45 rfl Try.zSc
      try simp only [Act.put, List.setIfInBounds_toArray, List.set_cons_zero, List.set_cons_succ]
      refine wpAnyH_takeL (i := 5) (d := some 42) (v := .agg (siA s)) rfl rfl (by kernel_rfl) (by kernel_rfl) (by kernel_rfl) (fun _ _ _ h => h) (Or.inl ⟨by rfl, ?_⟩) hHeld ?_
      · intro w hSw; exact yl_whole 40 _ g1 rfl hSw.2 Try.underlying40 rfl Try.zSr
      try simp only [Act.put, List.setIfInBounds_toArray, List.set_cons_zero, List.set_cons_succ]
      refine wpAnyH_ready (rs := [4]) (by kernel_rfl) (by simp) ?_
      refine AllReadyH.cons rfl (fun K hK => ?_) AllReadyH.nil
      go_simp
      (with_reducible refine (ours_c s _).mono ?_)
      rintro e u38 ⟨rfl, b38⟩
      have r40_s := le_on r37_s b38
      have r40_b := le_on r37_b b38
      have r40_x := le_on r37_x b38
      have l40 := le_tr l37 b38
      clear r37_s r37_b r37_x l37
      clear b38
      go_wp2_with fail
      have y41 := Lib.hid (show (fun V : World => CB V g23 45 (siA s) ∧ CB V g1 40 (siA s)) u38 from ⟨r40_x, r40_s⟩)
      refine hK.out _ _ y41.out (fun hHeld => ?_)
      clear hK K y41
      try simp only [Act.put, List.setIfInBounds_toArray, List.set_cons_zero, List.set_cons_succ]
      refine wpAnyH_takeL (i := 6) (d := some 43) (v := .bool true) rfl rfl (by kernel_rfl) (by kernel_rfl) (by kernel_rfl) (fun _ _ _ h => h) (Or.inl ⟨by rfl, ?_⟩) hHeld ?_
      · intro w hSw; have hE := E w; go_simp
      try simp only [Act.put, List.setIfInBounds_toArray, List.set_cons_zero, List.set_cons_succ]
      refine wpAnyH_takeL (i := 7) (d := some 44) (v := .bool true) rfl rfl (by kernel_rfl) (by kernel_rfl) (by kernel_rfl) (fun _ _ _ h => h) (Or.inl ⟨by rfl, ?_⟩) hHeld ?_
      · intro w hSw; (try dsimp only at hSw); go_simp
      try simp only [Act.put, List.setIfInBounds_toArray, List.set_cons_zero, List.set_cons_succ]
      refine wpAnyH_takeL (i := 8) (d := some 45) (v := .bool true) rfl rfl (by kernel_rfl) (by kernel_rfl) (by kernel_rfl) (fun _ _ _ h => h) (Or.inl ⟨by rfl, ?_⟩) hHeld ?_
      · intro w hSw; (try dsimp only at hSw); go_simp
      try simp only [Act.put, List.setIfInBounds_toArray, List.set_cons_zero, List.set_cons_succ]
      refine wpAnyH_takeL (i := 9) (d := some 46) (v := .int .i64 (j : Int)) rfl rfl (by kernel_rfl) (by kernel_rfl) (by kernel_rfl) (fun _ _ _ h => h) (Or.inl ⟨by rfl, ?_⟩) hHeld ?_
      · intro w hSw; (try dsimp only at hSw); go_simp
      try simp only [Act.put, List.setIfInBounds_toArray, List.set_cons_zero, List.set_cons_succ]
      refine wpAnyH_takeL (i := 10) (d := some 47) (v := .bool true) rfl rfl (by kernel_rfl) (by kernel_rfl) (by kernel_rfl) (fun _ _ _ h => h) (Or.inl ⟨by rfl, ?_⟩) hHeld ?_
      · intro w hSw; (try dsimp only at hSw); go_simp
      try simp only [Act.put, List.setIfInBounds_toArray, List.set_cons_zero, List.set_cons_succ]
      refine wpAnyH_takeL (i := 11) (d := some 48) (v := .bool true) rfl rfl (by kernel_rfl) (by kernel_rfl) (by kernel_rfl) (fun _ _ _ h => h) (Or.inl ⟨by rfl, ?_⟩) hHeld ?_
      · intro w hSw; (try dsimp only at hSw); go_simp
      try simp only [Act.put, List.setIfInBounds_toArray, List.set_cons_zero, List.set_cons_succ]
      refine wpAnyH_takeL (i := 12) (d := some 49) (v := .bool true) rfl rfl (by kernel_rfl) (by kernel_rfl) (by kernel_rfl) (fun _ _ _ h => h) (Or.inl ⟨by rfl, ?_⟩) hHeld ?_
      · intro w hSw; (try dsimp only at hSw); go_simp
      try simp only [Act.put, List.setIfInBounds_toArray, List.set_cons_zero, List.set_cons_succ]
      refine wpAnyH_takeL (i := 13) (d := some 50) (v := .slice A 0 q) rfl rfl (by kernel_rfl) (by kernel_rfl) (by kernel_rfl) (fun _ _ _ h => h) (Or.inl ⟨by rfl, ?_⟩) hHeld ?_
      · intro w hSw; (try dsimp only at hSw); go_simp
      try simp only [Act.put, List.setIfInBounds_toArray, List.set_cons_zero, List.set_cons_succ]
      refine wpAnyH_takeL (i := 14) (d := some 51) (v := .int .i64 0) rfl rfl (by kernel_rfl) (by kernel_rfl) (by kernel_rfl) (fun _ _ _ h => h) (Or.inl ⟨by rfl, ?_⟩) hHeld ?_
      · intro w hSw; (try dsimp only at hSw); go_simp
      try simp only [Act.put, List.setIfInBounds_toArray, List.set_cons_zero, List.set_cons_succ]
      refine wpAnyH_takeL (i := 15) (d := some 52) (v := .bool true) rfl rfl (by kernel_rfl) (by kernel_rfl) (by kernel_rfl) (fun _ _ _ h => h) (Or.inl ⟨by rfl, ?_⟩) hHeld ?_
      · intro w hSw; (try dsimp only at hSw); go_simp
      try simp only [Act.put, List.setIfInBounds_toArray, List.set_cons_zero, List.set_cons_succ]
      refine wpAnyH_takeL (i := 16) (d := some 53) (v := .bool true) rfl rfl (by kernel_rfl) (by kernel_rfl) (by kernel_rfl) (fun _ _ _ h => h) (Or.inl ⟨by rfl, ?_⟩) hHeld ?_
      · intro w hSw; (try dsimp only at hSw); go_simp
      try simp only [Act.put, List.setIfInBounds_toArray, List.set_cons_zero, List.set_cons_succ]
      refine wpAnyH_takeL (i := 17) (d := some 6) (v := .bool true) rfl rfl (by kernel_rfl) (by kernel_rfl) (by kernel_rfl) (fun _ _ _ h => h) (Or.inl ⟨by rfl, ?_⟩) hHeld ?_
      · intro w hSw; (try dsimp only at hSw); go_simp
      try simp only [Act.put, List.setIfInBounds_toArray, List.set_cons_zero, List.set_cons_succ]
      refine wpAnyH_done (by kernel_rfl) ?_ _
      go_wp2_with fail
      go_ret
      exact ⟨rfl, l40⟩
    · skip
      refine rd_alloc rfl 45 rfl (some 7) rfl (siA zS) zero_sc ?_
      refine ⟨fun V19 g19 n19 f19 => ?_⟩
      have ne19_s := f19.ne r17_s
      have ne19_b := f19.ne r17_b
      have up19 : w.heap.size ≤ g19 := f19.up l17
      have bl19 := f19.bel
      clear f19
      have r21_s := le_on r17_s bl19
      have r21_b := le_on r17_b bl19
      have l21 := le_tr l17 bl19
      clear r17_s r17_b l17
      clear bl19
      have y22 := Lib.hid (show (fun V : World => CB V g1 40 (siA s) ∧ CB V g4 42 (btA b)) V19 from ⟨r21_s, r21_b⟩)
      refine hK.out _ _ y22.out (fun hHeld => ?_)
      clear hK K y22
      try simp only [Act.put, List.setIfInBounds_toArray, List.set_cons_zero, List.set_cons_succ]
      refine wpAnyH_ready (rs := [3]) (by kernel_rfl) (by simp) ?_
      refine AllReadyH.cons rfl (fun K hK => ?_) AllReadyH.nil
      go_simp
      (with_reducible refine (C1 _).mono ?_)
      rintro e u23 ⟨rfl, b23⟩
      have r25_s := le_on r21_s b23
      have r25_b := le_on r21_b b23
      have r25_x := le_on n19 b23
      have l25 := le_tr l21 b23
      clear r21_s r21_b n19 l21
      clear b23
      go_wp2_with fail
      have y26 := Lib.hid (show (fun V : World => CB V g1 40 (siA s) ∧ CB V g4 42 (btA b)) u23 from ⟨r25_s, r25_b⟩)
      refine hK.out _ _ y26.out (fun hHeld => ?_)
      clear hK K y26
      try simp only [Act.put, List.setIfInBounds_toArray, List.set_cons_zero, List.set_cons_succ]
      refine wpAnyH_takeL (i := 4) (d := some 23) (v := .tuple #[.agg (siA s), .int .i64 (k : Int)]) rfl rfl (by kernel_rfl) (by kernel_rfl) (by kernel_rfl) (fun _ _ _ h => h) (Or.inl ⟨by rfl, ?_⟩) hHeld ?_
      · intro w hSw; (try dsimp only at hSw); go_simp
      try simp only [Act.put, List.setIfInBounds_toArray, List.set_cons_zero, List.set_cons_succ]
      refine wpAnyH_takeL (i := 5) (d := some 28) (v := .agg (siA s)) rfl rfl (by kernel_rfl) (by kernel_rfl) (by kernel_rfl) (fun _ _ _ h => h) (Or.inl ⟨by rfl, ?_⟩) hHeld ?_
      · intro w hSw; (try dsimp only at hSw); go_simp
      try simp only [Act.put, List.setIfInBounds_toArray, List.set_cons_zero, List.set_cons_succ]
      refine wpAnyH_takeL (i := 6) (d := some 29) (v := .int .i64 (k : Int)) rfl rfl (by kernel_rfl) (by kernel_rfl) (by kernel_rfl) (fun _ _ _ h => h) (Or.inl ⟨by rfl, ?_⟩) hHeld ?_
      · intro w hSw; (try dsimp only at hSw); go_simp
      try simp only [Act.put, List.setIfInBounds_toArray, List.set_cons_zero, List.set_cons_succ]
      refine wpAnyH_ready (rs := [8]) (by kernel_rfl) (by simp) ?_
      refine AllReadyH.cons rfl (fun K hK => ?_) AllReadyH.nil
      refine rd_store rfl 45 _ _ rfl none rfl g19 (siA s) rfl rfl r25_x Try.zSc rfl (siA_one _) ?_
      refine ⟨fun V27 n27 k27 => ?_⟩
      have m27_s := k27.on r25_s ne19_s
      have m27_b := k27.on r25_b ne19_b
      have o27 := k27.bel _ _ l25 up19
      clear k27
      clear r25_x r25_s r25_b l25
      have y28 := Lib.hid (show (fun V : World => CB V g1 40 (siA s) ∧ CB V g4 42 (btA b)) V27 from ⟨m27_s, m27_b⟩)
      refine hK.out _ _ y28.out (fun hHeld => ?_)
      clear hK K y28
      try simp only [Act.put, List.setIfInBounds_toArray, List.set_cons_zero, List.set_cons_succ]
      refine wpAnyH_takeL (i := 9) (d := some 8) (v := .int .i64 (k : Int)) rfl rfl (by kernel_rfl) (by kernel_rfl) (by kernel_rfl) (fun _ _ _ h => h) (Or.inl ⟨by rfl, ?_⟩) hHeld ?_
      · intro w hSw; (try dsimp only at hSw); go_simp
      try simp only [Act.put, List.setIfInBounds_toArray, List.set_cons_zero, List.set_cons_succ]
      refine wpAnyH_done (by kernel_rfl) ?_ _
      go_wp2_with (first | (first | ((with_reducible refine st_load 40 _ g1 ?_ m27_s Try.underlying40 ?_ ?_ ?_); exact rfl; exact rfl; exact Try.zSr) | ((with_reducible refine st_loadG 40 _ g1 ?_ m27_s Try.underlying40 ?_ ?_ ?_ ?_); exact rfl; exact rfl; exact Try.zSr; exact rfl)))
      (with_reducible refine (side_c s _).mono ?_)
      rintro e w29 ⟨rfl, b29⟩
      have r31_s := le_on m27_s b29
      have r31_b := le_on m27_b b29
      have r31_x := le_on n27 b29
      have l31 := le_tr o27 b29
      clear m27_s m27_b n27 o27
      clear b29
      go_wp2_with fail
      (with_reducible refine (C2 _).mono ?_)
      rintro e w32 ⟨A, n, q, rfl, h4, b32⟩
      have r34_s := le_on r31_s b32
      have r34_b := le_on r31_b b32
      have r34_x := le_on r31_x b32
      have l34 := le_tr l31 b32
      clear r31_s r31_b r31_x l31
      clear b32
      obtain rfl : n = 0 := by rw [← h4.len]; rfl
      clear h4
      go_wp2_with fail
      have y35 := Lib.hid (show (fun V : World => CB V g19 45 (siA s) ∧ CB V g1 40 (siA s)) w32.drew from ⟨CB.drew r34_x, CB.drew r34_s⟩)
      refine wp_region_held_drew (S := (fun V : World => CB V g19 45 (siA s) ∧ CB V g1 40 (siA s))) (by kernel_rfl) y35.out (fun hHeld => ?_)
      obtain ⟨D35, hD35⟩ : ∃ V, w32.drew = V := ⟨_, rfl⟩
      have b35 : Below w32.heap.size w32 D35 := by rw [← hD35]; exact le_dr (Below.refl _ _)
      rw [hD35] at hHeld ⊢
      clear hD35
      have r37_s := le_on r34_s b35
      have r37_b := le_on r34_b b35
      have r37_x := le_on r34_x b35
      have l37 := le_tr l34 b35
      clear r34_s r34_b r34_x l34
      clear b35
      refine wpAnyH_takeL (i := 0) (d := some 37) (v := .int .i64 (k : Int)) rfl rfl (by kernel_rfl) (by kernel_rfl) (by kernel_rfl) (fun _ _ _ h => h) (Or.inl ⟨by rfl, ?_⟩) hHeld ?_
      · intro w hSw; (try dsimp only at hSw); go_simp
      try simp only [Act.put, List.setIfInBounds_toArray, List.set_cons_zero, List.set_cons_succ]
      refine wpAnyH_takeL (i := 1) (d := some 38) (v := .bool true) rfl rfl (by kernel_rfl) (by kernel_rfl) (by kernel_rfl) (fun _ _ _ h => h) (Or.inl ⟨by rfl, ?_⟩) hHeld ?_
      · intro w hSw; (try dsimp only at hSw); go_simp
      try simp only [Act.put, List.setIfInBounds_toArray, List.set_cons_zero, List.set_cons_succ]
      refine wpAnyH_takeL (i := 2) (d := some 39) (v := .bool true) rfl rfl (by kernel_rfl) (by kernel_rfl) (by kernel_rfl) (fun _ _ _ h => h) (Or.inl ⟨by rfl, ?_⟩) hHeld ?_
      · intro w hSw; (try dsimp only at hSw); go_simp
      try simp only [Act.put, List.setIfInBounds_toArray, List.set_cons_zero, List.set_cons_succ]
      refine wpAnyH_takeL (i := 3) (d := some 40) (v := .agg (siA s)) rfl rfl (by kernel_rfl) (by kernel_rfl) (by kernel_rfl) (fun _ _ _ h => h) (Or.inl ⟨by rfl, ?_⟩) hHeld ?_
      · intro w hSw; exact yl_whole 45 _ g19 rfl hSw.1 Try.underlying45 rfl Try.zSc
      try simp only [Act.put, List.setIfInBounds_toArray, List.set_cons_zero, List.set_cons_succ]
      refine wpAnyH_takeL (i := 5) (d := some 42) (v := .agg (siA s)) rfl rfl (by kernel_rfl) (by kernel_rfl) (by kernel_rfl) (fun _ _ _ h => h) (Or.inl ⟨by rfl, ?_⟩) hHeld ?_
      · intro w hSw; exact yl_whole 40 _ g1 rfl hSw.2 Try.underlying40 rfl Try.zSr
      try simp only [Act.put, List.setIfInBounds_toArray, List.set_cons_zero, List.set_cons_succ]
      refine wpAnyH_ready (rs := [4]) (by kernel_rfl) (by simp) ?_
      refine AllReadyH.cons rfl (fun K hK => ?_) AllReadyH.nil
      go_simp
      (with_reducible refine (ours_c s _).mono ?_)
      rintro e u38 ⟨rfl, b38⟩
      have r40_s := le_on r37_s b38
      have r40_b := le_on r37_b b38
      have r40_x := le_on r37_x b38
      have l40 := le_tr l37 b38
      clear r37_s r37_b r37_x l37
      clear b38
      go_wp2_with fail
      have y41 := Lib.hid (show (fun V : World => CB V g19 45 (siA s) ∧ CB V g1 40 (siA s)) u38 from ⟨r40_x, r40_s⟩)
      refine hK.out _ _ y41.out (fun hHeld => ?_)
      clear hK K y41
      try simp only [Act.put, List.setIfInBounds_toArray, List.set_cons_zero, List.set_cons_succ]
      refine wpAnyH_takeL (i := 6) (d := some 43) (v := .bool true) rfl rfl (by kernel_rfl) (by kernel_rfl) (by kernel_rfl) (fun _ _ _ h => h) (Or.inl ⟨by rfl, ?_⟩) hHeld ?_
      · intro w hSw; have hE := E w; go_simp
      try simp only [Act.put, List.setIfInBounds_toArray, List.set_cons_zero, List.set_cons_succ]
      refine wpAnyH_takeL (i := 7) (d := some 44) (v := .bool true) rfl rfl (by kernel_rfl) (by kernel_rfl) (by kernel_rfl) (fun _ _ _ h => h) (Or.inl ⟨by rfl, ?_⟩) hHeld ?_
      · intro w hSw; (try dsimp only at hSw); go_simp
      try simp only [Act.put, List.setIfInBounds_toArray, List.set_cons_zero, List.set_cons_succ]
      refine wpAnyH_takeL (i := 8) (d := some 45) (v := .bool true) rfl rfl (by kernel_rfl) (by kernel_rfl) (by kernel_rfl) (fun _ _ _ h => h) (Or.inl ⟨by rfl, ?_⟩) hHeld ?_
      · intro w hSw; (try dsimp only at hSw); go_simp
      try simp only [Act.put, List.setIfInBounds_toArray, List.set_cons_zero, List.set_cons_succ]
      refine wpAnyH_takeL (i := 9) (d := some 46) (v := .int .i64 (j : Int)) rfl rfl (by kernel_rfl) (by kernel_rfl) (by kernel_rfl) (fun _ _ _ h => h) (Or.inl ⟨by rfl, ?_⟩) hHeld ?_
      · intro w hSw; (try dsimp only at hSw); go_simp
      try simp only [Act.put, List.setIfInBounds_toArray, List.set_cons_zero, List.set_cons_succ]
      refine wpAnyH_takeL (i := 10) (d := some 47) (v := .bool true) rfl rfl (by kernel_rfl) (by kernel_rfl) (by kernel_rfl) (fun _ _ _ h => h) (Or.inl ⟨by rfl, ?_⟩) hHeld ?_
      · intro w hSw; (try dsimp only at hSw); go_simp
      try simp only [Act.put, List.setIfInBounds_toArray, List.set_cons_zero, List.set_cons_succ]
      refine wpAnyH_takeL (i := 11) (d := some 48) (v := .bool true) rfl rfl (by kernel_rfl) (by kernel_rfl) (by kernel_rfl) (fun _ _ _ h => h) (Or.inl ⟨by rfl, ?_⟩) hHeld ?_
      · intro w hSw; (try dsimp only at hSw); go_simp
      try simp only [Act.put, List.setIfInBounds_toArray, List.set_cons_zero, List.set_cons_succ]
      refine wpAnyH_takeL (i := 12) (d := some 49) (v := .bool true) rfl rfl (by kernel_rfl) (by kernel_rfl) (by kernel_rfl) (fun _ _ _ h => h) (Or.inl ⟨by rfl, ?_⟩) hHeld ?_
      · intro w hSw; (try dsimp only at hSw); go_simp
      try simp only [Act.put, List.setIfInBounds_toArray, List.set_cons_zero, List.set_cons_succ]
      refine wpAnyH_takeL (i := 13) (d := some 50) (v := .slice A 0 q) rfl rfl (by kernel_rfl) (by kernel_rfl) (by kernel_rfl) (fun _ _ _ h => h) (Or.inl ⟨by rfl, ?_⟩) hHeld ?_
      · intro w hSw; (try dsimp only at hSw); go_simp
      try simp only [Act.put, List.setIfInBounds_toArray, List.set_cons_zero, List.set_cons_succ]
      refine wpAnyH_takeL (i := 14) (d := some 51) (v := .int .i64 0) rfl rfl (by kernel_rfl) (by kernel_rfl) (by kernel_rfl) (fun _ _ _ h => h) (Or.inl ⟨by rfl, ?_⟩) hHeld ?_
      · intro w hSw; (try dsimp only at hSw); go_simp
      try simp only [Act.put, List.setIfInBounds_toArray, List.set_cons_zero, List.set_cons_succ]
      refine wpAnyH_takeL (i := 15) (d := some 52) (v := .bool true) rfl rfl (by kernel_rfl) (by kernel_rfl) (by kernel_rfl) (fun _ _ _ h => h) (Or.inl ⟨by rfl, ?_⟩) hHeld ?_
      · intro w hSw; (try dsimp only at hSw); go_simp
      try simp only [Act.put, List.setIfInBounds_toArray, List.set_cons_zero, List.set_cons_succ]
      refine wpAnyH_takeL (i := 16) (d := some 53) (v := .bool true) rfl rfl (by kernel_rfl) (by kernel_rfl) (by kernel_rfl) (fun _ _ _ h => h) (Or.inl ⟨by rfl, ?_⟩) hHeld ?_
      · intro w hSw; (try dsimp only at hSw); go_simp
      try simp only [Act.put, List.setIfInBounds_toArray, List.set_cons_zero, List.set_cons_succ]
      refine wpAnyH_takeL (i := 17) (d := some 6) (v := .bool true) rfl rfl (by kernel_rfl) (by kernel_rfl) (by kernel_rfl) (fun _ _ _ h => h) (Or.inl ⟨by rfl, ?_⟩) hHeld ?_
      · intro w hSw; (try dsimp only at hSw); go_simp
      try simp only [Act.put, List.setIfInBounds_toArray, List.set_cons_zero, List.set_cons_succ]
      refine wpAnyH_done (by kernel_rfl) ?_ _
      go_wp2_with fail
      go_ret
      exact ⟨rfl, l40⟩
  · skip
    refine rd_alloc rfl 45 rfl (some 7) rfl (siA zS) zero_sc ?_
    refine ⟨fun V15 g15 n15 f15 => ?_⟩
    have ne15_s := f15.ne r14_s
    have ne15_b := f15.ne r14_b
    have up15 : w.heap.size ≤ g15 := f15.up l14
    have bl15 := f15.bel
    clear f15
    have r17_s := le_on r14_s bl15
    have r17_b := le_on r14_b bl15
    have l17 := le_tr l14 bl15
    clear r14_s r14_b l14
    clear bl15
    have y18 := Lib.hid (show (fun V : World => CB V g1 40 (siA s) ∧ CB V g4 42 (btA b)) V15 from ⟨r17_s, r17_b⟩)
    refine hK.out _ _ y18.out (fun hHeld => ?_)
    clear hK K y18
    try simp only [Act.put, List.setIfInBounds_toArray, List.set_cons_zero, List.set_cons_succ]
    refine wpAnyH_ready (rs := [1]) (by kernel_rfl) (by simp) ?_
    refine AllReadyH.cons rfl (fun K hK => ?_) AllReadyH.nil
    go_simp
    (with_reducible refine (side_c s _).mono ?_)
    rintro e u19 ⟨rfl, b19⟩
    have r21_s := le_on r17_s b19
    have r21_b := le_on r17_b b19
    have r21_x := le_on n15 b19
    have l21 := le_tr l17 b19
    clear r17_s r17_b n15 l17
    clear b19
    go_wp2_with fail
    have y22 := Lib.hid (show (fun V : World => CB V g1 40 (siA s) ∧ CB V g4 42 (btA b)) u19 from ⟨r21_s, r21_b⟩)
    refine hK.out _ _ y22.out (fun hHeld => ?_)
    clear hK K y22
    try simp only [Act.put, List.setIfInBounds_toArray, List.set_cons_zero, List.set_cons_succ]
    refine wpAnyH_ready (rs := [3]) (by kernel_rfl) (by simp) ?_
    refine AllReadyH.cons rfl (fun K hK => ?_) AllReadyH.nil
    go_simp
    (with_reducible refine (C1 _).mono ?_)
    rintro e u23 ⟨rfl, b23⟩
    have r25_s := le_on r21_s b23
    have r25_b := le_on r21_b b23
    have r25_x := le_on r21_x b23
    have l25 := le_tr l21 b23
    clear r21_s r21_b r21_x l21
    clear b23
    go_wp2_with fail
    have y26 := Lib.hid (show (fun V : World => CB V g1 40 (siA s) ∧ CB V g4 42 (btA b)) u23 from ⟨r25_s, r25_b⟩)
    refine hK.out _ _ y26.out (fun hHeld => ?_)
    clear hK K y26
    try simp only [Act.put, List.setIfInBounds_toArray, List.set_cons_zero, List.set_cons_succ]
    refine wpAnyH_takeL (i := 4) (d := some 23) (v := .tuple #[.agg (siA s), .int .i64 (k : Int)]) rfl rfl (by kernel_rfl) (by kernel_rfl) (by kernel_rfl) (fun _ _ _ h => h) (Or.inl ⟨by rfl, ?_⟩) hHeld ?_
    · intro w hSw; (try dsimp only at hSw); go_simp
    try simp only [Act.put, List.setIfInBounds_toArray, List.set_cons_zero, List.set_cons_succ]
    refine wpAnyH_takeL (i := 5) (d := some 28) (v := .agg (siA s)) rfl rfl (by kernel_rfl) (by kernel_rfl) (by kernel_rfl) (fun _ _ _ h => h) (Or.inl ⟨by rfl, ?_⟩) hHeld ?_
    · intro w hSw; (try dsimp only at hSw); go_simp
    try simp only [Act.put, List.setIfInBounds_toArray, List.set_cons_zero, List.set_cons_succ]
    refine wpAnyH_takeL (i := 6) (d := some 29) (v := .int .i64 (k : Int)) rfl rfl (by kernel_rfl) (by kernel_rfl) (by kernel_rfl) (fun _ _ _ h => h) (Or.inl ⟨by rfl, ?_⟩) hHeld ?_
    · intro w hSw; (try dsimp only at hSw); go_simp
    try simp only [Act.put, List.setIfInBounds_toArray, List.set_cons_zero, List.set_cons_succ]
    refine wpAnyH_ready (rs := [8]) (by kernel_rfl) (by simp) ?_
    refine AllReadyH.cons rfl (fun K hK => ?_) AllReadyH.nil
    refine rd_store rfl 45 _ _ rfl none rfl g15 (siA s) rfl rfl r25_x Try.zSc rfl (siA_one _) ?_
    refine ⟨fun V27 n27 k27 => ?_⟩
    have m27_s := k27.on r25_s ne15_s
    have m27_b := k27.on r25_b ne15_b
    have o27 := k27.bel _ _ l25 up15
    clear k27
    clear r25_x r25_s r25_b l25
    have y28 := Lib.hid (show (fun V : World => CB V g1 40 (siA s) ∧ CB V g4 42 (btA b)) V27 from ⟨m27_s, m27_b⟩)
    refine hK.out _ _ y28.out (fun hHeld => ?_)
    clear hK K y28
    try simp only [Act.put, List.setIfInBounds_toArray, List.set_cons_zero, List.set_cons_succ]
    refine wpAnyH_takeL (i := 9) (d := some 8) (v := .int .i64 (k : Int)) rfl rfl (by kernel_rfl) (by kernel_rfl) (by kernel_rfl) (fun _ _ _ h => h) (Or.inl ⟨by rfl, ?_⟩) hHeld ?_
    · intro w hSw; (try dsimp only at hSw); go_simp
    try simp only [Act.put, List.setIfInBounds_toArray, List.set_cons_zero, List.set_cons_succ]
    refine wpAnyH_done (by kernel_rfl) ?_ _
    go_wp2_with (first | (first | ((with_reducible refine st_load 40 _ g1 ?_ m27_s Try.underlying40 ?_ ?_ ?_); exact rfl; exact rfl; exact Try.zSr) | ((with_reducible refine st_loadG 40 _ g1 ?_ m27_s Try.underlying40 ?_ ?_ ?_ ?_); exact rfl; exact rfl; exact Try.zSr; exact rfl)))
    (with_reducible refine (side_c s _).mono ?_)
    rintro e w29 ⟨rfl, b29⟩
    have r31_s := le_on m27_s b29
    have r31_b := le_on m27_b b29
    have r31_x := le_on n27 b29
    have l31 := le_tr o27 b29
    clear m27_s m27_b n27 o27
    clear b29
    go_wp2_with fail
    (with_reducible refine (C2 _).mono ?_)
    rintro e w32 ⟨A, n, q, rfl, h4, b32⟩
    have r34_s := le_on r31_s b32
    have r34_b := le_on r31_b b32
    have r34_x := le_on r31_x b32
    have l34 := le_tr l31 b32
    clear r31_s r31_b r31_x l31
    clear b32
    obtain rfl : n = 0 := by rw [← h4.len]; rfl
    clear h4
    go_wp2_with fail
    have y35 := Lib.hid (show (fun V : World => CB V g15 45 (siA s) ∧ CB V g1 40 (siA s)) w32.drew from ⟨CB.drew r34_x, CB.drew r34_s⟩)
    refine wp_region_held_drew (S := (fun V : World => CB V g15 45 (siA s) ∧ CB V g1 40 (siA s))) (by kernel_rfl) y35.out (fun hHeld => ?_)
    obtain ⟨D35, hD35⟩ : ∃ V, w32.drew = V := ⟨_, rfl⟩
    have b35 : Below w32.heap.size w32 D35 := by rw [← hD35]; exact le_dr (Below.refl _ _)
    rw [hD35] at hHeld ⊢
    clear hD35
    have r37_s := le_on r34_s b35
    have r37_b := le_on r34_b b35
    have r37_x := le_on r34_x b35
    have l37 := le_tr l34 b35
    clear r34_s r34_b r34_x l34
    clear b35
    refine wpAnyH_takeL (i := 0) (d := some 37) (v := .int .i64 (k : Int)) rfl rfl (by kernel_rfl) (by kernel_rfl) (by kernel_rfl) (fun _ _ _ h => h) (Or.inl ⟨by rfl, ?_⟩) hHeld ?_
    · intro w hSw; (try dsimp only at hSw); go_simp
    try simp only [Act.put, List.setIfInBounds_toArray, List.set_cons_zero, List.set_cons_succ]
    refine wpAnyH_takeL (i := 1) (d := some 38) (v := .bool true) rfl rfl (by kernel_rfl) (by kernel_rfl) (by kernel_rfl) (fun _ _ _ h => h) (Or.inl ⟨by rfl, ?_⟩) hHeld ?_
    · intro w hSw; (try dsimp only at hSw); go_simp
    try simp only [Act.put, List.setIfInBounds_toArray, List.set_cons_zero, List.set_cons_succ]
    refine wpAnyH_takeL (i := 2) (d := some 39) (v := .bool true) rfl rfl (by kernel_rfl) (by kernel_rfl) (by kernel_rfl) (fun _ _ _ h => h) (Or.inl ⟨by rfl, ?_⟩) hHeld ?_
    · intro w hSw; (try dsimp only at hSw); go_simp
    try simp only [Act.put, List.setIfInBounds_toArray, List.set_cons_zero, List.set_cons_succ]
    refine wpAnyH_takeL (i := 3) (d := some 40) (v := .agg (siA s)) rfl rfl (by kernel_rfl) (by kernel_rfl) (by kernel_rfl) (fun _ _ _ h => h) (Or.inl ⟨by rfl, ?_⟩) hHeld ?_
    · intro w hSw; exact yl_whole 45 _ g15 rfl hSw.1 Try.underlying45 rfl Try.zSc
    try simp only [Act.put, List.setIfInBounds_toArray, List.set_cons_zero, List.set_cons_succ]
    refine wpAnyH_takeL (i := 5) (d := some 42) (v := .agg (siA s)) rfl rfl (by kernel_rfl) (by kernel_rfl) (by kernel_rfl) (fun _ _ _ h => h) (Or.inl ⟨by rfl, ?_⟩) hHeld ?_
    · intro w hSw; exact yl_whole 40 _ g1 rfl hSw.2 Try.underlying40 rfl Try.zSr
    try simp only [Act.put, List.setIfInBounds_toArray, List.set_cons_zero, List.set_cons_succ]
    refine wpAnyH_ready (rs := [4]) (by kernel_rfl) (by simp) ?_
    refine AllReadyH.cons rfl (fun K hK => ?_) AllReadyH.nil
    go_simp
    (with_reducible refine (ours_c s _).mono ?_)
    rintro e u38 ⟨rfl, b38⟩
    have r40_s := le_on r37_s b38
    have r40_b := le_on r37_b b38
    have r40_x := le_on r37_x b38
    have l40 := le_tr l37 b38
    clear r37_s r37_b r37_x l37
    clear b38
    go_wp2_with fail
    have y41 := Lib.hid (show (fun V : World => CB V g15 45 (siA s) ∧ CB V g1 40 (siA s)) u38 from ⟨r40_x, r40_s⟩)
    refine hK.out _ _ y41.out (fun hHeld => ?_)
    clear hK K y41
    try simp only [Act.put, List.setIfInBounds_toArray, List.set_cons_zero, List.set_cons_succ]
    refine wpAnyH_takeL (i := 6) (d := some 43) (v := .bool true) rfl rfl (by kernel_rfl) (by kernel_rfl) (by kernel_rfl) (fun _ _ _ h => h) (Or.inl ⟨by rfl, ?_⟩) hHeld ?_
    · intro w hSw; have hE := E w; go_simp
    try simp only [Act.put, List.setIfInBounds_toArray, List.set_cons_zero, List.set_cons_succ]
    refine wpAnyH_takeL (i := 7) (d := some 44) (v := .bool true) rfl rfl (by kernel_rfl) (by kernel_rfl) (by kernel_rfl) (fun _ _ _ h => h) (Or.inl ⟨by rfl, ?_⟩) hHeld ?_
    · intro w hSw; (try dsimp only at hSw); go_simp
    try simp only [Act.put, List.setIfInBounds_toArray, List.set_cons_zero, List.set_cons_succ]
    refine wpAnyH_takeL (i := 8) (d := some 45) (v := .bool true) rfl rfl (by kernel_rfl) (by kernel_rfl) (by kernel_rfl) (fun _ _ _ h => h) (Or.inl ⟨by rfl, ?_⟩) hHeld ?_
    · intro w hSw; (try dsimp only at hSw); go_simp
    try simp only [Act.put, List.setIfInBounds_toArray, List.set_cons_zero, List.set_cons_succ]
    refine wpAnyH_takeL (i := 9) (d := some 46) (v := .int .i64 (j : Int)) rfl rfl (by kernel_rfl) (by kernel_rfl) (by kernel_rfl) (fun _ _ _ h => h) (Or.inl ⟨by rfl, ?_⟩) hHeld ?_
    · intro w hSw; (try dsimp only at hSw); go_simp
    try simp only [Act.put, List.setIfInBounds_toArray, List.set_cons_zero, List.set_cons_succ]
    refine wpAnyH_takeL (i := 10) (d := some 47) (v := .bool true) rfl rfl (by kernel_rfl) (by kernel_rfl) (by kernel_rfl) (fun _ _ _ h => h) (Or.inl ⟨by rfl, ?_⟩) hHeld ?_
    · intro w hSw; (try dsimp only at hSw); go_simp
    try simp only [Act.put, List.setIfInBounds_toArray, List.set_cons_zero, List.set_cons_succ]
    refine wpAnyH_takeL (i := 11) (d := some 48) (v := .bool true) rfl rfl (by kernel_rfl) (by kernel_rfl) (by kernel_rfl) (fun _ _ _ h => h) (Or.inl ⟨by rfl, ?_⟩) hHeld ?_
    · intro w hSw; (try dsimp only at hSw); go_simp
    try simp only [Act.put, List.setIfInBounds_toArray, List.set_cons_zero, List.set_cons_succ]
    refine wpAnyH_takeL (i := 12) (d := some 49) (v := .bool true) rfl rfl (by kernel_rfl) (by kernel_rfl) (by kernel_rfl) (fun _ _ _ h => h) (Or.inl ⟨by rfl, ?_⟩) hHeld ?_
    · intro w hSw; (try dsimp only at hSw); go_simp
    try simp only [Act.put, List.setIfInBounds_toArray, List.set_cons_zero, List.set_cons_succ]
    refine wpAnyH_takeL (i := 13) (d := some 50) (v := .slice A 0 q) rfl rfl (by kernel_rfl) (by kernel_rfl) (by kernel_rfl) (fun _ _ _ h => h) (Or.inl ⟨by rfl, ?_⟩) hHeld ?_
    · intro w hSw; (try dsimp only at hSw); go_simp
    try simp only [Act.put, List.setIfInBounds_toArray, List.set_cons_zero, List.set_cons_succ]
    refine wpAnyH_takeL (i := 14) (d := some 51) (v := .int .i64 0) rfl rfl (by kernel_rfl) (by kernel_rfl) (by kernel_rfl) (fun _ _ _ h => h) (Or.inl ⟨by rfl, ?_⟩) hHeld ?_
    · intro w hSw; (try dsimp only at hSw); go_simp
    try simp only [Act.put, List.setIfInBounds_toArray, List.set_cons_zero, List.set_cons_succ]
    refine wpAnyH_takeL (i := 15) (d := some 52) (v := .bool true) rfl rfl (by kernel_rfl) (by kernel_rfl) (by kernel_rfl) (fun _ _ _ h => h) (Or.inl ⟨by rfl, ?_⟩) hHeld ?_
    · intro w hSw; (try dsimp only at hSw); go_simp
    try simp only [Act.put, List.setIfInBounds_toArray, List.set_cons_zero, List.set_cons_succ]
    refine wpAnyH_takeL (i := 16) (d := some 53) (v := .bool true) rfl rfl (by kernel_rfl) (by kernel_rfl) (by kernel_rfl) (fun _ _ _ h => h) (Or.inl ⟨by rfl, ?_⟩) hHeld ?_
    · intro w hSw; (try dsimp only at hSw); go_simp
    try simp only [Act.put, List.setIfInBounds_toArray, List.set_cons_zero, List.set_cons_succ]
    refine wpAnyH_takeL (i := 17) (d := some 6) (v := .bool true) rfl rfl (by kernel_rfl) (by kernel_rfl) (by kernel_rfl) (fun _ _ _ h => h) (Or.inl ⟨by rfl, ?_⟩) hHeld ?_
    · intro w hSw; (try dsimp only at hSw); go_simp
    try simp only [Act.put, List.setIfInBounds_toArray, List.set_cons_zero, List.set_cons_succ]
    refine wpAnyH_done (by kernel_rfl) ?_ _
    go_wp2_with fail
    go_ret
    exact ⟨rfl, l40⟩
set_option maxRecDepth 100000 in
set_option maxHeartbeats 4000000 in
theorem first_walk (s : Sd) (b : Bl) (w : World) : Calls Try.prog 6 #[.agg (siA s), .agg (btA b)] w fun r w' => r = .returned (.bool true) ∧ Below w.heap.size w w' := by
  by_cases hs : s.cg.size ≤ 600
  rotate_left
  · skip
    have q1 : decide ((600 : Int) < (s.cg.size : Int)) = true := by simp; omega
    have q1' : decide ((s.cg.size : Int) > 600) = true := by simp; omega
    go_enter Try.func6, Try.ntmps6
    go_wp2_with (first | ((with_reducible refine st_box 40 _ (siA s) ?_ ?_); exact rfl))
    refine ⟨fun V1 g1 n1 f1 => ?_⟩
    have up1 : w.heap.size ≤ g1 := Nat.le_of_eq f1.at_
    have bl1 := f1.bel
    clear f1
    have l3 := le_tr (Below.refl _ _) bl1
    clear bl1
    go_wp2_with (first | ((with_reducible refine st_box 42 _ (btA b) ?_ ?_); exact rfl))
    refine ⟨fun V4 g4 n4 f4 => ?_⟩
    have ne4_s := f4.ne n1
    have up4 : w.heap.size ≤ g4 := f4.up l3
    have bl4 := f4.bel
    clear f4
    have r6_s := le_on n1 bl4
    have l6 := le_tr l3 bl4
    clear n1 l3
    clear bl4
    go_wp2_with fail
    (with_reducible refine (alive_c _).mono ?_)
    rintro e w7 ⟨rfl, b7⟩
    have r9_s := le_on r6_s b7
    have r9_b := le_on n4 b7
    have l9 := le_tr l6 b7
    clear r6_s n4 l6
    clear b7
    have c10 : w7.cell? ⟨g1, 4, none⟩ = some (.string (s.cg)) := CB.cell r9_s 4
    go_wp2_with fail
    go_ret
    exact ⟨rfl, l9⟩
  have q1 : decide ((600 : Int) < (s.cg.size : Int)) = false := by simp; omega
  have q1' : decide ((s.cg.size : Int) > 600) = false := by simp; omega
  by_cases h0 : eSh s b = 0
  rotate_left
  · skip
    have a2 := sh_err h0
    obtain ⟨k, hk⟩ : ∃ k, eSh s b = k := ⟨_, rfl⟩
    rw [hk] at h0
    have q3 : ((k : Int) != 0) = true := by rw [bne_iff_ne]; omega
    have C1 : ∀ V : World, Calls Try.prog 16 #[.agg (siA s), .agg (btA b)] V (fun e w' => e = .returned (.tuple #[.agg (siA s), .int .i64 (k : Int)]) ∧ Below V.heap.size V w') := fun V => by have h := ship_c s b V; rw [hk, a2] at h; exact h
    have E : ∀ V : World, (Op.equalIn 10000 40 (.agg (siA s)) (.agg (siA s))).run Try.prog V = .ok true V := fun V => by have := eq_sr s s V; rw [eqS_refl] at this; exact this
    clear hs h0 a2 hk
    go_enter Try.func6, Try.ntmps6
    go_wp2_with (first | ((with_reducible refine st_box 40 _ (siA s) ?_ ?_); exact rfl))
    refine ⟨fun V1 g1 n1 f1 => ?_⟩
    have up1 : w.heap.size ≤ g1 := Nat.le_of_eq f1.at_
    have bl1 := f1.bel
    clear f1
    have l3 := le_tr (Below.refl _ _) bl1
    clear bl1
    go_wp2_with (first | ((with_reducible refine st_box 42 _ (btA b) ?_ ?_); exact rfl))
    refine ⟨fun V4 g4 n4 f4 => ?_⟩
    have ne4_s := f4.ne n1
    have up4 : w.heap.size ≤ g4 := f4.up l3
    have bl4 := f4.bel
    clear f4
    have r6_s := le_on n1 bl4
    have l6 := le_tr l3 bl4
    clear n1 l3
    clear bl4
    go_wp2_with fail
    (with_reducible refine (alive_c _).mono ?_)
    rintro e w7 ⟨rfl, b7⟩
    have r9_s := le_on r6_s b7
    have r9_b := le_on n4 b7
    have l9 := le_tr l6 b7
    clear r6_s n4 l6
    clear b7
    have c10 : w7.cell? ⟨g1, 4, none⟩ = some (.string (s.cg)) := CB.cell r9_s 4
    go_wp2_with fail
    clear c10
    have y11 := Lib.hid (show (fun V : World => CB V g1 40 (siA s) ∧ CB V g4 42 (btA b)) w7.drew from ⟨CB.drew r9_s, CB.drew r9_b⟩)
    refine wp_region_held_drew (S := (fun V : World => CB V g1 40 (siA s) ∧ CB V g4 42 (btA b))) (by kernel_rfl) y11.out (fun hHeld => ?_)
    obtain ⟨D11, hD11⟩ : ∃ V, w7.drew = V := ⟨_, rfl⟩
    have b11 : Below w7.heap.size w7 D11 := by rw [← hD11]; exact le_dr (Below.refl _ _)
    rw [hD11] at hHeld ⊢
    clear hD11
    have r13_s := le_on r9_s b11
    have r13_b := le_on r9_b b11
    have l13 := le_tr l9 b11
    clear r9_s r9_b l9
    clear b11
    refine wpAnyH_takeL (i := 0) (d := some 18) (v := .agg (siA s)) rfl rfl (by kernel_rfl) (by kernel_rfl) (by kernel_rfl) (fun _ _ _ h => h) (Or.inl ⟨by rfl, ?_⟩) hHeld ?_
    · intro w hSw; exact yl_whole 40 _ g1 rfl hSw.1 Try.underlying40 rfl Try.zSr
    try simp only [Act.put, List.setIfInBounds_toArray, List.set_cons_zero, List.set_cons_succ]
    refine wpAnyH_takeL (i := 2) (d := some 20) (v := .agg (btA b)) rfl rfl (by kernel_rfl) (by kernel_rfl) (by kernel_rfl) (fun _ _ _ h => h) (Or.inl ⟨by rfl, ?_⟩) hHeld ?_
    · intro w hSw; exact yl_whole 42 _ g4 rfl hSw.2 Try.underlying42 rfl Try.zBr
    try simp only [Act.put, List.setIfInBounds_toArray, List.set_cons_zero, List.set_cons_succ]
    refine wpAnyH_ready (rs := [1, 7]) (by kernel_rfl) (by simp) ?_
    refine AllReadyH.cons rfl (fun K hK => ?_) (AllReadyH.cons rfl (fun K hK => ?_) AllReadyH.nil)
    · skip
      go_simp
      (with_reducible refine (side_c s _).mono ?_)
      rintro e u14 ⟨rfl, b14⟩
      have r16_s := le_on r13_s b14
      have r16_b := le_on r13_b b14
      have l16 := le_tr l13 b14
      clear r13_s r13_b l13
      clear b14
      go_wp2_with fail
      have y17 := Lib.hid (show (fun V : World => CB V g1 40 (siA s) ∧ CB V g4 42 (btA b)) u14 from ⟨r16_s, r16_b⟩)
      refine hK.out _ _ y17.out (fun hHeld => ?_)
      clear hK K y17
      try simp only [Act.put, List.setIfInBounds_toArray, List.set_cons_zero, List.set_cons_succ]
      refine wpAnyH_ready (rs := [3, 7]) (by kernel_rfl) (by simp) ?_
      refine AllReadyH.cons rfl (fun K hK => ?_) (AllReadyH.cons rfl (fun K hK => ?_) AllReadyH.nil)
      · skip
        go_simp
        (with_reducible refine (C1 _).mono ?_)
        rintro e u18 ⟨rfl, b18⟩
        have r20_s := le_on r16_s b18
        have r20_b := le_on r16_b b18
        have l20 := le_tr l16 b18
        clear r16_s r16_b l16
        clear b18
        go_wp2_with fail
        have y21 := Lib.hid (show (fun V : World => CB V g1 40 (siA s) ∧ CB V g4 42 (btA b)) u18 from ⟨r20_s, r20_b⟩)
        refine hK.out _ _ y21.out (fun hHeld => ?_)
        clear hK K y21
        try simp only [Act.put, List.setIfInBounds_toArray, List.set_cons_zero, List.set_cons_succ]
        refine wpAnyH_takeL (i := 4) (d := some 17) (v := .tuple #[.agg (siA s), .int .i64 (k : Int)]) rfl rfl (by kernel_rfl) (by kernel_rfl) (by kernel_rfl) (fun _ _ _ h => h) (Or.inl ⟨by rfl, ?_⟩) hHeld ?_
        · intro w hSw; (try dsimp only at hSw); go_simp
        try simp only [Act.put, List.setIfInBounds_toArray, List.set_cons_zero, List.set_cons_succ]
        refine wpAnyH_takeL (i := 5) (d := some 22) (v := .agg (siA s)) rfl rfl (by kernel_rfl) (by kernel_rfl) (by kernel_rfl) (fun _ _ _ h => h) (Or.inl ⟨by rfl, ?_⟩) hHeld ?_
        · intro w hSw; (try dsimp only at hSw); go_simp
        try simp only [Act.put, List.setIfInBounds_toArray, List.set_cons_zero, List.set_cons_succ]
        refine wpAnyH_takeL (i := 6) (d := some 23) (v := .int .i64 (k : Int)) rfl rfl (by kernel_rfl) (by kernel_rfl) (by kernel_rfl) (fun _ _ _ h => h) (Or.inl ⟨by rfl, ?_⟩) hHeld ?_
        · intro w hSw; (try dsimp only at hSw); go_simp
        try simp only [Act.put, List.setIfInBounds_toArray, List.set_cons_zero, List.set_cons_succ]
        refine wpAnyH_ready (rs := [7]) (by kernel_rfl) (by simp) ?_
        refine AllReadyH.cons rfl (fun K hK => ?_) AllReadyH.nil
        refine rd_alloc rfl 45 rfl (some 5) rfl (siA zS) zero_sc ?_
        refine ⟨fun V22 g22 n22 f22 => ?_⟩
        have ne22_s := f22.ne r20_s
        have ne22_b := f22.ne r20_b
        have up22 : w.heap.size ≤ g22 := f22.up l20
        have bl22 := f22.bel
        clear f22
        have r24_s := le_on r20_s bl22
        have r24_b := le_on r20_b bl22
        have l24 := le_tr l20 bl22
        clear r20_s r20_b l20
        clear bl22
        have y25 := Lib.hid (show (fun V : World => CB V g1 40 (siA s) ∧ CB V g4 42 (btA b)) V22 from ⟨r24_s, r24_b⟩)
        refine hK.out _ _ y25.out (fun hHeld => ?_)
        clear hK K y25
        try simp only [Act.put, List.setIfInBounds_toArray, List.set_cons_zero, List.set_cons_succ]
        refine wpAnyH_ready (rs := [8]) (by kernel_rfl) (by simp) ?_
        refine AllReadyH.cons rfl (fun K hK => ?_) AllReadyH.nil
        refine rd_store rfl 45 _ _ rfl none rfl g22 (siA s) rfl rfl n22 Try.zSc rfl (siA_one _) ?_
        refine ⟨fun V26 n26 k26 => ?_⟩
        have m26_s := k26.on r24_s ne22_s
        have m26_b := k26.on r24_b ne22_b
        have o26 := k26.bel _ _ l24 up22
        clear k26
        clear n22 r24_s r24_b l24
        have y27 := Lib.hid (show (fun V : World => CB V g1 40 (siA s) ∧ CB V g4 42 (btA b)) V26 from ⟨m26_s, m26_b⟩)
        refine hK.out _ _ y27.out (fun hHeld => ?_)
        clear hK K y27
        try simp only [Act.put, List.setIfInBounds_toArray, List.set_cons_zero, List.set_cons_succ]
        refine wpAnyH_takeL (i := 9) (d := some 6) (v := .int .i64 (k : Int)) rfl rfl (by kernel_rfl) (by kernel_rfl) (by kernel_rfl) (fun _ _ _ h => h) (Or.inl ⟨by rfl, ?_⟩) hHeld ?_
        · intro w hSw; (try dsimp only at hSw); go_simp
        try simp only [Act.put, List.setIfInBounds_toArray, List.set_cons_zero, List.set_cons_succ]
        refine wpAnyH_done (by kernel_rfl) ?_ _
        go_wp2_with fail
        have y28 := Lib.hid (show (fun V : World => CB V g22 45 (siA s) ∧ CB V g1 40 (siA s)) V26.drew from ⟨CB.drew n26, CB.drew m26_s⟩)
        refine wp_region_held_drew (S := (fun V : World => CB V g22 45 (siA s) ∧ CB V g1 40 (siA s))) (by kernel_rfl) y28.out (fun hHeld => ?_)
        obtain ⟨D28, hD28⟩ : ∃ V, V26.drew = V := ⟨_, rfl⟩
        have b28 : Below V26.heap.size V26 D28 := by rw [← hD28]; exact le_dr (Below.refl _ _)
        rw [hD28] at hHeld ⊢
        clear hD28
        have r30_s := le_on m26_s b28
        have r30_b := le_on m26_b b28
        have r30_x := le_on n26 b28
        have l30 := le_tr o26 b28
        clear m26_s m26_b n26 o26
        clear b28
        refine wpAnyH_takeL (i := 0) (d := some 26) (v := .agg (siA s)) rfl rfl (by kernel_rfl) (by kernel_rfl) (by kernel_rfl) (fun _ _ _ h => h) (Or.inl ⟨by rfl, ?_⟩) hHeld ?_
        · intro w hSw; exact yl_whole 45 _ g22 rfl hSw.1 Try.underlying45 rfl Try.zSc
        try simp only [Act.put, List.setIfInBounds_toArray, List.set_cons_zero, List.set_cons_succ]
        refine wpAnyH_takeL (i := 2) (d := some 28) (v := .agg (siA s)) rfl rfl (by kernel_rfl) (by kernel_rfl) (by kernel_rfl) (fun _ _ _ h => h) (Or.inl ⟨by rfl, ?_⟩) hHeld ?_
        · intro w hSw; exact yl_whole 40 _ g1 rfl hSw.2 Try.underlying40 rfl Try.zSr
        try simp only [Act.put, List.setIfInBounds_toArray, List.set_cons_zero, List.set_cons_succ]
        refine wpAnyH_ready (rs := [1]) (by kernel_rfl) (by simp) ?_
        refine AllReadyH.cons rfl (fun K hK => ?_) AllReadyH.nil
        go_simp
        (with_reducible refine (ours_c s _).mono ?_)
        rintro e u31 ⟨rfl, b31⟩
        have r33_s := le_on r30_s b31
        have r33_b := le_on r30_b b31
        have r33_x := le_on r30_x b31
        have l33 := le_tr l30 b31
        clear r30_s r30_b r30_x l30
        clear b31
        go_wp2_with fail
        have y34 := Lib.hid (show (fun V : World => CB V g22 45 (siA s) ∧ CB V g1 40 (siA s)) u31 from ⟨r33_x, r33_s⟩)
        refine hK.out _ _ y34.out (fun hHeld => ?_)
        clear hK K y34
        try simp only [Act.put, List.setIfInBounds_toArray, List.set_cons_zero, List.set_cons_succ]
        refine wpAnyH_takeL (i := 3) (d := some 29) (v := .bool true) rfl rfl (by kernel_rfl) (by kernel_rfl) (by kernel_rfl) (fun _ _ _ h => h) (Or.inl ⟨by rfl, ?_⟩) hHeld ?_
        · intro w hSw; have hE := E w; go_simp
        try simp only [Act.put, List.setIfInBounds_toArray, List.set_cons_zero, List.set_cons_succ]
        refine wpAnyH_takeL (i := 4) (d := some 4) (v := .bool true) rfl rfl (by kernel_rfl) (by kernel_rfl) (by kernel_rfl) (fun _ _ _ h => h) (Or.inl ⟨by rfl, ?_⟩) hHeld ?_
        · intro w hSw; (try dsimp only at hSw); go_simp
        try simp only [Act.put, List.setIfInBounds_toArray, List.set_cons_zero, List.set_cons_succ]
        refine wpAnyH_done (by kernel_rfl) ?_ _
        go_wp2_with fail
        go_ret
        exact ⟨rfl, l33⟩
      · skip
        refine rd_alloc rfl 45 rfl (some 5) rfl (siA zS) zero_sc ?_
        refine ⟨fun V18 g18 n18 f18 => ?_⟩
        have ne18_s := f18.ne r16_s
        have ne18_b := f18.ne r16_b
        have up18 : w.heap.size ≤ g18 := f18.up l16
        have bl18 := f18.bel
        clear f18
        have r20_s := le_on r16_s bl18
        have r20_b := le_on r16_b bl18
        have l20 := le_tr l16 bl18
        clear r16_s r16_b l16
        clear bl18
        have y21 := Lib.hid (show (fun V : World => CB V g1 40 (siA s) ∧ CB V g4 42 (btA b)) V18 from ⟨r20_s, r20_b⟩)
        refine hK.out _ _ y21.out (fun hHeld => ?_)
        clear hK K y21
        try simp only [Act.put, List.setIfInBounds_toArray, List.set_cons_zero, List.set_cons_succ]
        refine wpAnyH_ready (rs := [3]) (by kernel_rfl) (by simp) ?_
        refine AllReadyH.cons rfl (fun K hK => ?_) AllReadyH.nil
        go_simp
        (with_reducible refine (C1 _).mono ?_)
        rintro e u22 ⟨rfl, b22⟩
        have r24_s := le_on r20_s b22
        have r24_b := le_on r20_b b22
        have r24_x := le_on n18 b22
        have l24 := le_tr l20 b22
        clear r20_s r20_b n18 l20
        clear b22
        go_wp2_with fail
        have y25 := Lib.hid (show (fun V : World => CB V g1 40 (siA s) ∧ CB V g4 42 (btA b)) u22 from ⟨r24_s, r24_b⟩)
        refine hK.out _ _ y25.out (fun hHeld => ?_)
        clear hK K y25
        try simp only [Act.put, List.setIfInBounds_toArray, List.set_cons_zero, List.set_cons_succ]
        refine wpAnyH_takeL (i := 4) (d := some 17) (v := .tuple #[.agg (siA s), .int .i64 (k : Int)]) rfl rfl (by kernel_rfl) (by kernel_rfl) (by kernel_rfl) (fun _ _ _ h => h) (Or.inl ⟨by rfl, ?_⟩) hHeld ?_
        · intro w hSw; (try dsimp only at hSw); go_simp
        try simp only [Act.put, List.setIfInBounds_toArray, List.set_cons_zero, List.set_cons_succ]
        refine wpAnyH_takeL (i := 5) (d := some 22) (v := .agg (siA s)) rfl rfl (by kernel_rfl) (by kernel_rfl) (by kernel_rfl) (fun _ _ _ h => h) (Or.inl ⟨by rfl, ?_⟩) hHeld ?_
        · intro w hSw; (try dsimp only at hSw); go_simp
        try simp only [Act.put, List.setIfInBounds_toArray, List.set_cons_zero, List.set_cons_succ]
        refine wpAnyH_takeL (i := 6) (d := some 23) (v := .int .i64 (k : Int)) rfl rfl (by kernel_rfl) (by kernel_rfl) (by kernel_rfl) (fun _ _ _ h => h) (Or.inl ⟨by rfl, ?_⟩) hHeld ?_
        · intro w hSw; (try dsimp only at hSw); go_simp
        try simp only [Act.put, List.setIfInBounds_toArray, List.set_cons_zero, List.set_cons_succ]
        refine wpAnyH_ready (rs := [8]) (by kernel_rfl) (by simp) ?_
        refine AllReadyH.cons rfl (fun K hK => ?_) AllReadyH.nil
        refine rd_store rfl 45 _ _ rfl none rfl g18 (siA s) rfl rfl r24_x Try.zSc rfl (siA_one _) ?_
        refine ⟨fun V26 n26 k26 => ?_⟩
        have m26_s := k26.on r24_s ne18_s
        have m26_b := k26.on r24_b ne18_b
        have o26 := k26.bel _ _ l24 up18
        clear k26
        clear r24_x r24_s r24_b l24
        have y27 := Lib.hid (show (fun V : World => CB V g1 40 (siA s) ∧ CB V g4 42 (btA b)) V26 from ⟨m26_s, m26_b⟩)
        refine hK.out _ _ y27.out (fun hHeld => ?_)
        clear hK K y27
        try simp only [Act.put, List.setIfInBounds_toArray, List.set_cons_zero, List.set_cons_succ]
        refine wpAnyH_takeL (i := 9) (d := some 6) (v := .int .i64 (k : Int)) rfl rfl (by kernel_rfl) (by kernel_rfl) (by kernel_rfl) (fun _ _ _ h => h) (Or.inl ⟨by rfl, ?_⟩) hHeld ?_
        · intro w hSw; (try dsimp only at hSw); go_simp
        try simp only [Act.put, List.setIfInBounds_toArray, List.set_cons_zero, List.set_cons_succ]
        refine wpAnyH_done (by kernel_rfl) ?_ _
        go_wp2_with fail
        have y28 := Lib.hid (show (fun V : World => CB V g18 45 (siA s) ∧ CB V g1 40 (siA s)) V26.drew from ⟨CB.drew n26, CB.drew m26_s⟩)
        refine wp_region_held_drew (S := (fun V : World => CB V g18 45 (siA s) ∧ CB V g1 40 (siA s))) (by kernel_rfl) y28.out (fun hHeld => ?_)
        obtain ⟨D28, hD28⟩ : ∃ V, V26.drew = V := ⟨_, rfl⟩
        have b28 : Below V26.heap.size V26 D28 := by rw [← hD28]; exact le_dr (Below.refl _ _)
        rw [hD28] at hHeld ⊢
        clear hD28
        have r30_s := le_on m26_s b28
        have r30_b := le_on m26_b b28
        have r30_x := le_on n26 b28
        have l30 := le_tr o26 b28
        clear m26_s m26_b n26 o26
        clear b28
        refine wpAnyH_takeL (i := 0) (d := some 26) (v := .agg (siA s)) rfl rfl (by kernel_rfl) (by kernel_rfl) (by kernel_rfl) (fun _ _ _ h => h) (Or.inl ⟨by rfl, ?_⟩) hHeld ?_
        · intro w hSw; exact yl_whole 45 _ g18 rfl hSw.1 Try.underlying45 rfl Try.zSc
        try simp only [Act.put, List.setIfInBounds_toArray, List.set_cons_zero, List.set_cons_succ]
        refine wpAnyH_takeL (i := 2) (d := some 28) (v := .agg (siA s)) rfl rfl (by kernel_rfl) (by kernel_rfl) (by kernel_rfl) (fun _ _ _ h => h) (Or.inl ⟨by rfl, ?_⟩) hHeld ?_
        · intro w hSw; exact yl_whole 40 _ g1 rfl hSw.2 Try.underlying40 rfl Try.zSr
        try simp only [Act.put, List.setIfInBounds_toArray, List.set_cons_zero, List.set_cons_succ]
        refine wpAnyH_ready (rs := [1]) (by kernel_rfl) (by simp) ?_
        refine AllReadyH.cons rfl (fun K hK => ?_) AllReadyH.nil
        go_simp
        (with_reducible refine (ours_c s _).mono ?_)
        rintro e u31 ⟨rfl, b31⟩
        have r33_s := le_on r30_s b31
        have r33_b := le_on r30_b b31
        have r33_x := le_on r30_x b31
        have l33 := le_tr l30 b31
        clear r30_s r30_b r30_x l30
        clear b31
        go_wp2_with fail
        have y34 := Lib.hid (show (fun V : World => CB V g18 45 (siA s) ∧ CB V g1 40 (siA s)) u31 from ⟨r33_x, r33_s⟩)
        refine hK.out _ _ y34.out (fun hHeld => ?_)
        clear hK K y34
        try simp only [Act.put, List.setIfInBounds_toArray, List.set_cons_zero, List.set_cons_succ]
        refine wpAnyH_takeL (i := 3) (d := some 29) (v := .bool true) rfl rfl (by kernel_rfl) (by kernel_rfl) (by kernel_rfl) (fun _ _ _ h => h) (Or.inl ⟨by rfl, ?_⟩) hHeld ?_
        · intro w hSw; have hE := E w; go_simp
        try simp only [Act.put, List.setIfInBounds_toArray, List.set_cons_zero, List.set_cons_succ]
        refine wpAnyH_takeL (i := 4) (d := some 4) (v := .bool true) rfl rfl (by kernel_rfl) (by kernel_rfl) (by kernel_rfl) (fun _ _ _ h => h) (Or.inl ⟨by rfl, ?_⟩) hHeld ?_
        · intro w hSw; (try dsimp only at hSw); go_simp
        try simp only [Act.put, List.setIfInBounds_toArray, List.set_cons_zero, List.set_cons_succ]
        refine wpAnyH_done (by kernel_rfl) ?_ _
        go_wp2_with fail
        go_ret
        exact ⟨rfl, l33⟩
    · skip
      refine rd_alloc rfl 45 rfl (some 5) rfl (siA zS) zero_sc ?_
      refine ⟨fun V14 g14 n14 f14 => ?_⟩
      have ne14_s := f14.ne r13_s
      have ne14_b := f14.ne r13_b
      have up14 : w.heap.size ≤ g14 := f14.up l13
      have bl14 := f14.bel
      clear f14
      have r16_s := le_on r13_s bl14
      have r16_b := le_on r13_b bl14
      have l16 := le_tr l13 bl14
      clear r13_s r13_b l13
      clear bl14
      have y17 := Lib.hid (show (fun V : World => CB V g1 40 (siA s) ∧ CB V g4 42 (btA b)) V14 from ⟨r16_s, r16_b⟩)
      refine hK.out _ _ y17.out (fun hHeld => ?_)
      clear hK K y17
      try simp only [Act.put, List.setIfInBounds_toArray, List.set_cons_zero, List.set_cons_succ]
      refine wpAnyH_ready (rs := [1]) (by kernel_rfl) (by simp) ?_
      refine AllReadyH.cons rfl (fun K hK => ?_) AllReadyH.nil
      go_simp
      (with_reducible refine (side_c s _).mono ?_)
      rintro e u18 ⟨rfl, b18⟩
      have r20_s := le_on r16_s b18
      have r20_b := le_on r16_b b18
      have r20_x := le_on n14 b18
      have l20 := le_tr l16 b18
      clear r16_s r16_b n14 l16
      clear b18
      go_wp2_with fail
      have y21 := Lib.hid (show (fun V : World => CB V g1 40 (siA s) ∧ CB V g4 42 (btA b)) u18 from ⟨r20_s, r20_b⟩)
      refine hK.out _ _ y21.out (fun hHeld => ?_)
      clear hK K y21
      try simp only [Act.put, List.setIfInBounds_toArray, List.set_cons_zero, List.set_cons_succ]
      refine wpAnyH_ready (rs := [3]) (by kernel_rfl) (by simp) ?_
      refine AllReadyH.cons rfl (fun K hK => ?_) AllReadyH.nil
      go_simp
      (with_reducible refine (C1 _).mono ?_)
      rintro e u22 ⟨rfl, b22⟩
      have r24_s := le_on r20_s b22
      have r24_b := le_on r20_b b22
      have r24_x := le_on r20_x b22
      have l24 := le_tr l20 b22
      clear r20_s r20_b r20_x l20
      clear b22
      go_wp2_with fail
      have y25 := Lib.hid (show (fun V : World => CB V g1 40 (siA s) ∧ CB V g4 42 (btA b)) u22 from ⟨r24_s, r24_b⟩)
      refine hK.out _ _ y25.out (fun hHeld => ?_)
      clear hK K y25
      try simp only [Act.put, List.setIfInBounds_toArray, List.set_cons_zero, List.set_cons_succ]
      refine wpAnyH_takeL (i := 4) (d := some 17) (v := .tuple #[.agg (siA s), .int .i64 (k : Int)]) rfl rfl (by kernel_rfl) (by kernel_rfl) (by kernel_rfl) (fun _ _ _ h => h) (Or.inl ⟨by rfl, ?_⟩) hHeld ?_
      · intro w hSw; (try dsimp only at hSw); go_simp
      try simp only [Act.put, List.setIfInBounds_toArray, List.set_cons_zero, List.set_cons_succ]
      refine wpAnyH_takeL (i := 5) (d := some 22) (v := .agg (siA s)) rfl rfl (by kernel_rfl) (by kernel_rfl) (by kernel_rfl) (fun _ _ _ h => h) (Or.inl ⟨by rfl, ?_⟩) hHeld ?_
      · intro w hSw; (try dsimp only at hSw); go_simp
      try simp only [Act.put, List.setIfInBounds_toArray, List.set_cons_zero, List.set_cons_succ]
      refine wpAnyH_takeL (i := 6) (d := some 23) (v := .int .i64 (k : Int)) rfl rfl (by kernel_rfl) (by kernel_rfl) (by kernel_rfl) (fun _ _ _ h => h) (Or.inl ⟨by rfl, ?_⟩) hHeld ?_
      · intro w hSw; (try dsimp only at hSw); go_simp
      try simp only [Act.put, List.setIfInBounds_toArray, List.set_cons_zero, List.set_cons_succ]
      refine wpAnyH_ready (rs := [8]) (by kernel_rfl) (by simp) ?_
      refine AllReadyH.cons rfl (fun K hK => ?_) AllReadyH.nil
      refine rd_store rfl 45 _ _ rfl none rfl g14 (siA s) rfl rfl r24_x Try.zSc rfl (siA_one _) ?_
      refine ⟨fun V26 n26 k26 => ?_⟩
      have m26_s := k26.on r24_s ne14_s
      have m26_b := k26.on r24_b ne14_b
      have o26 := k26.bel _ _ l24 up14
      clear k26
      clear r24_x r24_s r24_b l24
      have y27 := Lib.hid (show (fun V : World => CB V g1 40 (siA s) ∧ CB V g4 42 (btA b)) V26 from ⟨m26_s, m26_b⟩)
      refine hK.out _ _ y27.out (fun hHeld => ?_)
      clear hK K y27
      try simp only [Act.put, List.setIfInBounds_toArray, List.set_cons_zero, List.set_cons_succ]
      refine wpAnyH_takeL (i := 9) (d := some 6) (v := .int .i64 (k : Int)) rfl rfl (by kernel_rfl) (by kernel_rfl) (by kernel_rfl) (fun _ _ _ h => h) (Or.inl ⟨by rfl, ?_⟩) hHeld ?_
      · intro w hSw; (try dsimp only at hSw); go_simp
      try simp only [Act.put, List.setIfInBounds_toArray, List.set_cons_zero, List.set_cons_succ]
      refine wpAnyH_done (by kernel_rfl) ?_ _
      go_wp2_with fail
      have y28 := Lib.hid (show (fun V : World => CB V g14 45 (siA s) ∧ CB V g1 40 (siA s)) V26.drew from ⟨CB.drew n26, CB.drew m26_s⟩)
      refine wp_region_held_drew (S := (fun V : World => CB V g14 45 (siA s) ∧ CB V g1 40 (siA s))) (by kernel_rfl) y28.out (fun hHeld => ?_)
      obtain ⟨D28, hD28⟩ : ∃ V, V26.drew = V := ⟨_, rfl⟩
      have b28 : Below V26.heap.size V26 D28 := by rw [← hD28]; exact le_dr (Below.refl _ _)
      rw [hD28] at hHeld ⊢
      clear hD28
      have r30_s := le_on m26_s b28
      have r30_b := le_on m26_b b28
      have r30_x := le_on n26 b28
      have l30 := le_tr o26 b28
      clear m26_s m26_b n26 o26
      clear b28
      refine wpAnyH_takeL (i := 0) (d := some 26) (v := .agg (siA s)) rfl rfl (by kernel_rfl) (by kernel_rfl) (by kernel_rfl) (fun _ _ _ h => h) (Or.inl ⟨by rfl, ?_⟩) hHeld ?_
      · intro w hSw; exact yl_whole 45 _ g14 rfl hSw.1 Try.underlying45 rfl Try.zSc
      try simp only [Act.put, List.setIfInBounds_toArray, List.set_cons_zero, List.set_cons_succ]
      refine wpAnyH_takeL (i := 2) (d := some 28) (v := .agg (siA s)) rfl rfl (by kernel_rfl) (by kernel_rfl) (by kernel_rfl) (fun _ _ _ h => h) (Or.inl ⟨by rfl, ?_⟩) hHeld ?_
      · intro w hSw; exact yl_whole 40 _ g1 rfl hSw.2 Try.underlying40 rfl Try.zSr
      try simp only [Act.put, List.setIfInBounds_toArray, List.set_cons_zero, List.set_cons_succ]
      refine wpAnyH_ready (rs := [1]) (by kernel_rfl) (by simp) ?_
      refine AllReadyH.cons rfl (fun K hK => ?_) AllReadyH.nil
      go_simp
      (with_reducible refine (ours_c s _).mono ?_)
      rintro e u31 ⟨rfl, b31⟩
      have r33_s := le_on r30_s b31
      have r33_b := le_on r30_b b31
      have r33_x := le_on r30_x b31
      have l33 := le_tr l30 b31
      clear r30_s r30_b r30_x l30
      clear b31
      go_wp2_with fail
      have y34 := Lib.hid (show (fun V : World => CB V g14 45 (siA s) ∧ CB V g1 40 (siA s)) u31 from ⟨r33_x, r33_s⟩)
      refine hK.out _ _ y34.out (fun hHeld => ?_)
      clear hK K y34
      try simp only [Act.put, List.setIfInBounds_toArray, List.set_cons_zero, List.set_cons_succ]
      refine wpAnyH_takeL (i := 3) (d := some 29) (v := .bool true) rfl rfl (by kernel_rfl) (by kernel_rfl) (by kernel_rfl) (fun _ _ _ h => h) (Or.inl ⟨by rfl, ?_⟩) hHeld ?_
      · intro w hSw; have hE := E w; go_simp
      try simp only [Act.put, List.setIfInBounds_toArray, List.set_cons_zero, List.set_cons_succ]
      refine wpAnyH_takeL (i := 4) (d := some 4) (v := .bool true) rfl rfl (by kernel_rfl) (by kernel_rfl) (by kernel_rfl) (fun _ _ _ h => h) (Or.inl ⟨by rfl, ?_⟩) hHeld ?_
      · intro w hSw; (try dsimp only at hSw); go_simp
      try simp only [Act.put, List.setIfInBounds_toArray, List.set_cons_zero, List.set_cons_succ]
      refine wpAnyH_done (by kernel_rfl) ?_ _
      go_wp2_with fail
      go_ret
      exact ⟨rfl, l33⟩
  obtain ⟨⟨a1, a2⟩, ⟨a3, a4⟩, a5, a6, a7⟩ := first_m h0
  obtain ⟨X, hX⟩ : ∃ X, sSh s b = X := ⟨_, rfl⟩
  rw [hX] at a1 a2 a3 a4 a5 a6
  have w1 : IntKind.i64.wrap (3 - b.vt) = 3 - b.vt := IntWalk.i64_in _ (by have := a7.2; omega)
  obtain ⟨u, hu⟩ : ∃ u, 3 - b.vt = u := ⟨_, rfl⟩
  rw [hu] at a3 a4 w1
  have C1 : ∀ V : World, Calls Try.prog 16 #[.agg (siA s), .agg (btA b)] V (fun e w' => e = .returned (.tuple #[.agg (siA X), .int .i64 0]) ∧ Below V.heap.size V w') := fun V => by have h := ship_c s b V; rw [h0, hX] at h; exact h
  have C2 : ∀ V : World, Calls Try.prog 16 #[.agg (siA X), .agg (btA b)] V (fun e w' => e = .returned (.tuple #[.agg (siA X), .int .i64 0]) ∧ Below V.heap.size V w') := fun V => by have h := ship_c X b V; rw [a1, a2] at h; exact h
  have C3 : ∀ V : World, Calls Try.prog 16 #[.agg (siA X), .agg (btA ⟨b.tx, u⟩)] V (fun e w' => e = .returned (.tuple #[.agg (siA X), .int .i64 8]) ∧ Below V.heap.size V w') := fun V => by have h := ship_c X ⟨b.tx, u⟩ V; rw [a3, a4] at h; exact h
  have E : ∀ V : World, (Op.equalIn 10000 45 (.agg (siA X)) (.agg (siA X))).run Try.prog V = .ok true V := fun V => by have := eq_sc X X V; rw [eqS_refl] at this; exact this
  have CR : ∀ V : World, Calls Try.prog 25 #[.agg (siA X)] V (fun r w' => r = .returned (.bool true) ∧ Below V.heap.size V w') := fun V => by have h := hr_c X V; rw [decide_eq_true a5] at h; exact h
  have EL : ∀ V : World, (Op.equalIn 10000 43 (.agg (lsA X.l)) (.agg (lsA s.l))).run Try.prog V = .ok true V := fun V => by have := eq_lc X.l s.l 9998 V; rw [a6, eqLs_refl] at this; rw [a6]; exact this
  have W1 := Lib.hid w1
  have HU := Lib.hid hu
  clear hs h0 a1 a2 a3 a4 a5 a6 a7 hX hu w1
  go_enter Try.func6, Try.ntmps6
  go_wp2_with (first | ((with_reducible refine st_box 40 _ (siA s) ?_ ?_); exact rfl))
  refine ⟨fun V1 g1 n1 f1 => ?_⟩
  have up1 : w.heap.size ≤ g1 := Nat.le_of_eq f1.at_
  have bl1 := f1.bel
  clear f1
  have l3 := le_tr (Below.refl _ _) bl1
  clear bl1
  go_wp2_with (first | ((with_reducible refine st_box 42 _ (btA b) ?_ ?_); exact rfl))
  refine ⟨fun V4 g4 n4 f4 => ?_⟩
  have ne4_s := f4.ne n1
  have up4 : w.heap.size ≤ g4 := f4.up l3
  have bl4 := f4.bel
  clear f4
  have r6_s := le_on n1 bl4
  have l6 := le_tr l3 bl4
  clear n1 l3
  clear bl4
  go_wp2_with fail
  (with_reducible refine (alive_c _).mono ?_)
  rintro e w7 ⟨rfl, b7⟩
  have r9_s := le_on r6_s b7
  have r9_b := le_on n4 b7
  have l9 := le_tr l6 b7
  clear r6_s n4 l6
  clear b7
  have c10 : w7.cell? ⟨g1, 4, none⟩ = some (.string (s.cg)) := CB.cell r9_s 4
  go_wp2_with fail
  clear c10
  have y11 := Lib.hid (show (fun V : World => CB V g1 40 (siA s) ∧ CB V g4 42 (btA b)) w7.drew from ⟨CB.drew r9_s, CB.drew r9_b⟩)
  refine wp_region_held_drew (S := (fun V : World => CB V g1 40 (siA s) ∧ CB V g4 42 (btA b))) (by kernel_rfl) y11.out (fun hHeld => ?_)
  obtain ⟨D11, hD11⟩ : ∃ V, w7.drew = V := ⟨_, rfl⟩
  have b11 : Below w7.heap.size w7 D11 := by rw [← hD11]; exact le_dr (Below.refl _ _)
  rw [hD11] at hHeld ⊢
  clear hD11
  have r13_s := le_on r9_s b11
  have r13_b := le_on r9_b b11
  have l13 := le_tr l9 b11
  clear r9_s r9_b l9
  clear b11
  refine wpAnyH_takeL (i := 0) (d := some 18) (v := .agg (siA s)) rfl rfl (by kernel_rfl) (by kernel_rfl) (by kernel_rfl) (fun _ _ _ h => h) (Or.inl ⟨by rfl, ?_⟩) hHeld ?_
  · intro w hSw; exact yl_whole 40 _ g1 rfl hSw.1 Try.underlying40 rfl Try.zSr
  try simp only [Act.put, List.setIfInBounds_toArray, List.set_cons_zero, List.set_cons_succ]
  refine wpAnyH_takeL (i := 2) (d := some 20) (v := .agg (btA b)) rfl rfl (by kernel_rfl) (by kernel_rfl) (by kernel_rfl) (fun _ _ _ h => h) (Or.inl ⟨by rfl, ?_⟩) hHeld ?_
  · intro w hSw; exact yl_whole 42 _ g4 rfl hSw.2 Try.underlying42 rfl Try.zBr
  try simp only [Act.put, List.setIfInBounds_toArray, List.set_cons_zero, List.set_cons_succ]
  refine wpAnyH_ready (rs := [1, 7]) (by kernel_rfl) (by simp) ?_
  refine AllReadyH.cons rfl (fun K hK => ?_) (AllReadyH.cons rfl (fun K hK => ?_) AllReadyH.nil)
  · skip
    go_simp
    (with_reducible refine (side_c s _).mono ?_)
    rintro e u14 ⟨rfl, b14⟩
    have r16_s := le_on r13_s b14
    have r16_b := le_on r13_b b14
    have l16 := le_tr l13 b14
    clear r13_s r13_b l13
    clear b14
    go_wp2_with fail
    have y17 := Lib.hid (show (fun V : World => CB V g1 40 (siA s) ∧ CB V g4 42 (btA b)) u14 from ⟨r16_s, r16_b⟩)
    refine hK.out _ _ y17.out (fun hHeld => ?_)
    clear hK K y17
    try simp only [Act.put, List.setIfInBounds_toArray, List.set_cons_zero, List.set_cons_succ]
    refine wpAnyH_ready (rs := [3, 7]) (by kernel_rfl) (by simp) ?_
    refine AllReadyH.cons rfl (fun K hK => ?_) (AllReadyH.cons rfl (fun K hK => ?_) AllReadyH.nil)
    · skip
      go_simp
      (with_reducible refine (C1 _).mono ?_)
      rintro e u18 ⟨rfl, b18⟩
      have r20_s := le_on r16_s b18
      have r20_b := le_on r16_b b18
      have l20 := le_tr l16 b18
      clear r16_s r16_b l16
      clear b18
      go_wp2_with fail
      have y21 := Lib.hid (show (fun V : World => CB V g1 40 (siA s) ∧ CB V g4 42 (btA b)) u18 from ⟨r20_s, r20_b⟩)
      refine hK.out _ _ y21.out (fun hHeld => ?_)
      clear hK K y21
      try simp only [Act.put, List.setIfInBounds_toArray, List.set_cons_zero, List.set_cons_succ]
      refine wpAnyH_takeL (i := 4) (d := some 17) (v := .tuple #[.agg (siA X), .int .i64 0]) rfl rfl (by kernel_rfl) (by kernel_rfl) (by kernel_rfl) (fun _ _ _ h => h) (Or.inl ⟨by rfl, ?_⟩) hHeld ?_
      · intro w hSw; (try dsimp only at hSw); go_simp
      try simp only [Act.put, List.setIfInBounds_toArray, List.set_cons_zero, List.set_cons_succ]
      refine wpAnyH_takeL (i := 5) (d := some 22) (v := .agg (siA X)) rfl rfl (by kernel_rfl) (by kernel_rfl) (by kernel_rfl) (fun _ _ _ h => h) (Or.inl ⟨by rfl, ?_⟩) hHeld ?_
      · intro w hSw; (try dsimp only at hSw); go_simp
      try simp only [Act.put, List.setIfInBounds_toArray, List.set_cons_zero, List.set_cons_succ]
      refine wpAnyH_takeL (i := 6) (d := some 23) (v := .int .i64 0) rfl rfl (by kernel_rfl) (by kernel_rfl) (by kernel_rfl) (fun _ _ _ h => h) (Or.inl ⟨by rfl, ?_⟩) hHeld ?_
      · intro w hSw; (try dsimp only at hSw); go_simp
      try simp only [Act.put, List.setIfInBounds_toArray, List.set_cons_zero, List.set_cons_succ]
      refine wpAnyH_ready (rs := [7]) (by kernel_rfl) (by simp) ?_
      refine AllReadyH.cons rfl (fun K hK => ?_) AllReadyH.nil
      refine rd_alloc rfl 45 rfl (some 5) rfl (siA zS) zero_sc ?_
      refine ⟨fun V22 g22 n22 f22 => ?_⟩
      have ne22_s := f22.ne r20_s
      have ne22_b := f22.ne r20_b
      have up22 : w.heap.size ≤ g22 := f22.up l20
      have bl22 := f22.bel
      clear f22
      have r24_s := le_on r20_s bl22
      have r24_b := le_on r20_b bl22
      have l24 := le_tr l20 bl22
      clear r20_s r20_b l20
      clear bl22
      have y25 := Lib.hid (show (fun V : World => CB V g1 40 (siA s) ∧ CB V g4 42 (btA b)) V22 from ⟨r24_s, r24_b⟩)
      refine hK.out _ _ y25.out (fun hHeld => ?_)
      clear hK K y25
      try simp only [Act.put, List.setIfInBounds_toArray, List.set_cons_zero, List.set_cons_succ]
      refine wpAnyH_ready (rs := [8]) (by kernel_rfl) (by simp) ?_
      refine AllReadyH.cons rfl (fun K hK => ?_) AllReadyH.nil
      refine rd_store rfl 45 _ _ rfl none rfl g22 (siA X) rfl rfl n22 Try.zSc rfl (siA_one _) ?_
      refine ⟨fun V26 n26 k26 => ?_⟩
      have m26_s := k26.on r24_s ne22_s
      have m26_b := k26.on r24_b ne22_b
      have o26 := k26.bel _ _ l24 up22
      clear k26
      clear n22 r24_s r24_b l24
      have y27 := Lib.hid (show (fun V : World => CB V g1 40 (siA s) ∧ CB V g4 42 (btA b)) V26 from ⟨m26_s, m26_b⟩)
      refine hK.out _ _ y27.out (fun hHeld => ?_)
      clear hK K y27
      try simp only [Act.put, List.setIfInBounds_toArray, List.set_cons_zero, List.set_cons_succ]
      refine wpAnyH_takeL (i := 9) (d := some 6) (v := .int .i64 0) rfl rfl (by kernel_rfl) (by kernel_rfl) (by kernel_rfl) (fun _ _ _ h => h) (Or.inl ⟨by rfl, ?_⟩) hHeld ?_
      · intro w hSw; (try dsimp only at hSw); go_simp
      try simp only [Act.put, List.setIfInBounds_toArray, List.set_cons_zero, List.set_cons_succ]
      refine wpAnyH_done (by kernel_rfl) ?_ _
      go_wp2_with (first | (first | ((with_reducible refine st_load 45 _ g22 ?_ n26 Try.underlying45 ?_ ?_ ?_); exact rfl; exact rfl; exact Try.zSc) | ((with_reducible refine st_loadG 45 _ g22 ?_ n26 Try.underlying45 ?_ ?_ ?_ ?_); exact rfl; exact rfl; exact Try.zSc; exact rfl)) | (first | ((with_reducible refine st_load 42 _ g4 ?_ m26_b Try.underlying42 ?_ ?_ ?_); exact rfl; exact rfl; exact Try.zBr) | ((with_reducible refine st_loadG 42 _ g4 ?_ m26_b Try.underlying42 ?_ ?_ ?_ ?_); exact rfl; exact rfl; exact Try.zBr; exact rfl)))
      (with_reducible refine (C2 _).mono ?_)
      rintro e w28 ⟨rfl, b28⟩
      have r30_s := le_on m26_s b28
      have r30_b := le_on m26_b b28
      have r30_x := le_on n26 b28
      have l30 := le_tr o26 b28
      clear m26_s m26_b n26 o26
      clear b28
      go_wp2_with (first | ((with_reducible refine st_alloc 45 (siA zS) ?_ ?_); exact zero_sc))
      refine ⟨fun V31 g31 n31 f31 => ?_⟩
      have ne31_s := f31.ne r30_s
      have ne31_b := f31.ne r30_b
      have ne31_x := f31.ne r30_x
      have up31 : w.heap.size ≤ g31 := f31.up l30
      have bl31 := f31.bel
      clear f31
      have r33_s := le_on r30_s bl31
      have r33_b := le_on r30_b bl31
      have r33_x := le_on r30_x bl31
      have l33 := le_tr l30 bl31
      clear r30_s r30_b r30_x l30
      clear bl31
      go_wp2_with (first | ((with_reducible refine st_store 45 _ _ g31 (siA X) ?_ ?_ n31 ?_ ?_ ?_ ?_); exact rfl; exact rfl; exact Try.zSc; exact rfl; exact siA_one _))
      refine ⟨fun V34 n34 k34 => ?_⟩
      have m34_s := k34.on r33_s ne31_s
      have m34_b := k34.on r33_b ne31_b
      have m34_x := k34.on r33_x ne31_x
      have o34 := k34.bel _ _ l33 up31
      clear k34
      clear n31 r33_s r33_b r33_x l33
      have c35 : V34.cell? ⟨g4, 0, none⟩ = some (.int .i64 (b.tx)) := CB.cell m34_b 0
      have c36 : V34.cell? ⟨g4, 1, none⟩ = some (.int .i64 (b.vt)) := CB.cell m34_b 1
      have w1 : IntKind.i64.wrap u = u := W1.out
      have w2 : 3 - b.vt = u := HU.out
      go_wp2_with (first | (first | ((with_reducible refine st_load 45 _ g22 ?_ m34_x Try.underlying45 ?_ ?_ ?_); exact rfl; exact rfl; exact Try.zSc) | ((with_reducible refine st_loadG 45 _ g22 ?_ m34_x Try.underlying45 ?_ ?_ ?_ ?_); exact rfl; exact rfl; exact Try.zSc; exact rfl)) | ((with_reducible refine st_builtk2 49 (v0 := .int .i64 b.tx) (v1 := .int .i64 u) ?_ ?_ (built_b2 b.tx u) ?_); exact rfl; exact rfl))
      (with_reducible refine (C3 _).mono ?_)
      rintro e w37 ⟨rfl, b37⟩
      clear c35 c36
      have r39_s := le_on m34_s b37
      have r39_b := le_on m34_b b37
      have r39_x := le_on m34_x b37
      have r39_y := le_on n34 b37
      have l39 := le_tr o34 b37
      clear m34_s m34_b m34_x n34 o34
      clear b37
      go_wp2_with (first | ((with_reducible refine st_alloc 45 (siA zS) ?_ ?_); exact zero_sc))
      refine ⟨fun V40 g40 n40 f40 => ?_⟩
      have ne40_s := f40.ne r39_s
      have ne40_b := f40.ne r39_b
      have ne40_x := f40.ne r39_x
      have ne40_y := f40.ne r39_y
      have up40 : w.heap.size ≤ g40 := f40.up l39
      have bl40 := f40.bel
      clear f40
      have r42_s := le_on r39_s bl40
      have r42_b := le_on r39_b bl40
      have r42_x := le_on r39_x bl40
      have r42_y := le_on r39_y bl40
      have l42 := le_tr l39 bl40
      clear r39_s r39_b r39_x r39_y l39
      clear bl40
      go_wp2_with (first | ((with_reducible refine st_store 45 _ _ g40 (siA X) ?_ ?_ n40 ?_ ?_ ?_ ?_); exact rfl; exact rfl; exact Try.zSc; exact rfl; exact siA_one _))
      refine ⟨fun V43 n43 k43 => ?_⟩
      have m43_s := k43.on r42_s ne40_s
      have m43_b := k43.on r42_b ne40_b
      have m43_x := k43.on r42_x ne40_x
      have m43_y := k43.on r42_y ne40_y
      have o43 := k43.bel _ _ l42 up40
      clear k43
      clear n40 r42_s r42_b r42_x r42_y l42
      go_wp2_with fail
      have y44 := Lib.hid (show (fun V : World => CB V g22 45 (siA X) ∧ CB V g31 45 (siA X) ∧ CB V g40 45 (siA X) ∧ CB V g1 40 (siA s)) V43.drew from ⟨CB.drew m43_x, CB.drew m43_y, CB.drew n43, CB.drew m43_s⟩)
      refine wp_region_held_drew (S := (fun V : World => CB V g22 45 (siA X) ∧ CB V g31 45 (siA X) ∧ CB V g40 45 (siA X) ∧ CB V g1 40 (siA s))) (by kernel_rfl) y44.out (fun hHeld => ?_)
      obtain ⟨D44, hD44⟩ : ∃ V, V43.drew = V := ⟨_, rfl⟩
      have b44 : Below V43.heap.size V43 D44 := by rw [← hD44]; exact le_dr (Below.refl _ _)
      rw [hD44] at hHeld ⊢
      clear hD44
      have r46_s := le_on m43_s b44
      have r46_b := le_on m43_b b44
      have r46_x := le_on m43_x b44
      have r46_y := le_on m43_y b44
      have r46_z := le_on n43 b44
      have l46 := le_tr o43 b44
      clear m43_s m43_b m43_x m43_y n43 o43
      clear b44
      refine wpAnyH_takeL (i := 0) (d := some 47) (v := .int .i64 0) rfl rfl (by kernel_rfl) (by kernel_rfl) (by kernel_rfl) (fun _ _ _ h => h) (Or.inl ⟨by rfl, ?_⟩) hHeld ?_
      · intro w hSw; (try dsimp only at hSw); go_simp
      try simp only [Act.put, List.setIfInBounds_toArray, List.set_cons_zero, List.set_cons_succ]
      refine wpAnyH_takeL (i := 1) (d := some 48) (v := .bool true) rfl rfl (by kernel_rfl) (by kernel_rfl) (by kernel_rfl) (fun _ _ _ h => h) (Or.inl ⟨by rfl, ?_⟩) hHeld ?_
      · intro w hSw; (try dsimp only at hSw); go_simp
      try simp only [Act.put, List.setIfInBounds_toArray, List.set_cons_zero, List.set_cons_succ]
      refine wpAnyH_takeL (i := 2) (d := some 49) (v := .bool true) rfl rfl (by kernel_rfl) (by kernel_rfl) (by kernel_rfl) (fun _ _ _ h => h) (Or.inl ⟨by rfl, ?_⟩) hHeld ?_
      · intro w hSw; (try dsimp only at hSw); go_simp
      try simp only [Act.put, List.setIfInBounds_toArray, List.set_cons_zero, List.set_cons_succ]
      refine wpAnyH_takeL (i := 3) (d := some 50) (v := .agg (siA X)) rfl rfl (by kernel_rfl) (by kernel_rfl) (by kernel_rfl) (fun _ _ _ h => h) (Or.inl ⟨by rfl, ?_⟩) hHeld ?_
      · intro w hSw; exact yl_whole 45 _ g31 rfl hSw.2.1 Try.underlying45 rfl Try.zSc
      try simp only [Act.put, List.setIfInBounds_toArray, List.set_cons_zero, List.set_cons_succ]
      refine wpAnyH_takeL (i := 4) (d := some 51) (v := .agg (siA X)) rfl rfl (by kernel_rfl) (by kernel_rfl) (by kernel_rfl) (fun _ _ _ h => h) (Or.inl ⟨by rfl, ?_⟩) hHeld ?_
      · intro w hSw; exact yl_whole 45 _ g22 rfl hSw.1 Try.underlying45 rfl Try.zSc
      try simp only [Act.put, List.setIfInBounds_toArray, List.set_cons_zero, List.set_cons_succ]
      refine wpAnyH_takeL (i := 5) (d := some 52) (v := .bool true) rfl rfl (by kernel_rfl) (by kernel_rfl) (by kernel_rfl) (fun _ _ _ h => h) (Or.inl ⟨by rfl, ?_⟩) hHeld ?_
      · intro w hSw; have hE := E w; go_simp
      try simp only [Act.put, List.setIfInBounds_toArray, List.set_cons_zero, List.set_cons_succ]
      refine wpAnyH_takeL (i := 6) (d := some 53) (v := .bool true) rfl rfl (by kernel_rfl) (by kernel_rfl) (by kernel_rfl) (fun _ _ _ h => h) (Or.inl ⟨by rfl, ?_⟩) hHeld ?_
      · intro w hSw; (try dsimp only at hSw); go_simp
      try simp only [Act.put, List.setIfInBounds_toArray, List.set_cons_zero, List.set_cons_succ]
      refine wpAnyH_takeL (i := 7) (d := some 54) (v := .bool true) rfl rfl (by kernel_rfl) (by kernel_rfl) (by kernel_rfl) (fun _ _ _ h => h) (Or.inl ⟨by rfl, ?_⟩) hHeld ?_
      · intro w hSw; (try dsimp only at hSw); go_simp
      try simp only [Act.put, List.setIfInBounds_toArray, List.set_cons_zero, List.set_cons_succ]
      refine wpAnyH_takeL (i := 8) (d := some 55) (v := .int .i64 8) rfl rfl (by kernel_rfl) (by kernel_rfl) (by kernel_rfl) (fun _ _ _ h => h) (Or.inl ⟨by rfl, ?_⟩) hHeld ?_
      · intro w hSw; (try dsimp only at hSw); go_simp
      try simp only [Act.put, List.setIfInBounds_toArray, List.set_cons_zero, List.set_cons_succ]
      refine wpAnyH_takeL (i := 9) (d := some 56) (v := .bool true) rfl rfl (by kernel_rfl) (by kernel_rfl) (by kernel_rfl) (fun _ _ _ h => h) (Or.inl ⟨by rfl, ?_⟩) hHeld ?_
      · intro w hSw; (try dsimp only at hSw); go_simp
      try simp only [Act.put, List.setIfInBounds_toArray, List.set_cons_zero, List.set_cons_succ]
      refine wpAnyH_takeL (i := 10) (d := some 57) (v := .bool true) rfl rfl (by kernel_rfl) (by kernel_rfl) (by kernel_rfl) (fun _ _ _ h => h) (Or.inl ⟨by rfl, ?_⟩) hHeld ?_
      · intro w hSw; (try dsimp only at hSw); go_simp
      try simp only [Act.put, List.setIfInBounds_toArray, List.set_cons_zero, List.set_cons_succ]
      refine wpAnyH_takeL (i := 11) (d := some 58) (v := .bool true) rfl rfl (by kernel_rfl) (by kernel_rfl) (by kernel_rfl) (fun _ _ _ h => h) (Or.inl ⟨by rfl, ?_⟩) hHeld ?_
      · intro w hSw; (try dsimp only at hSw); go_simp
      try simp only [Act.put, List.setIfInBounds_toArray, List.set_cons_zero, List.set_cons_succ]
      refine wpAnyH_takeL (i := 12) (d := some 59) (v := .agg (siA X)) rfl rfl (by kernel_rfl) (by kernel_rfl) (by kernel_rfl) (fun _ _ _ h => h) (Or.inl ⟨by rfl, ?_⟩) hHeld ?_
      · intro w hSw; exact yl_whole 45 _ g40 rfl hSw.2.2.1 Try.underlying45 rfl Try.zSc
      try simp only [Act.put, List.setIfInBounds_toArray, List.set_cons_zero, List.set_cons_succ]
      refine wpAnyH_takeL (i := 13) (d := some 60) (v := .agg (siA X)) rfl rfl (by kernel_rfl) (by kernel_rfl) (by kernel_rfl) (fun _ _ _ h => h) (Or.inl ⟨by rfl, ?_⟩) hHeld ?_
      · intro w hSw; exact yl_whole 45 _ g22 rfl hSw.1 Try.underlying45 rfl Try.zSc
      try simp only [Act.put, List.setIfInBounds_toArray, List.set_cons_zero, List.set_cons_succ]
      refine wpAnyH_takeL (i := 14) (d := some 61) (v := .bool true) rfl rfl (by kernel_rfl) (by kernel_rfl) (by kernel_rfl) (fun _ _ _ h => h) (Or.inl ⟨by rfl, ?_⟩) hHeld ?_
      · intro w hSw; have hE := E w; go_simp
      try simp only [Act.put, List.setIfInBounds_toArray, List.set_cons_zero, List.set_cons_succ]
      refine wpAnyH_takeL (i := 15) (d := some 62) (v := .bool true) rfl rfl (by kernel_rfl) (by kernel_rfl) (by kernel_rfl) (fun _ _ _ h => h) (Or.inl ⟨by rfl, ?_⟩) hHeld ?_
      · intro w hSw; (try dsimp only at hSw); go_simp
      try simp only [Act.put, List.setIfInBounds_toArray, List.set_cons_zero, List.set_cons_succ]
      refine wpAnyH_takeL (i := 16) (d := some 63) (v := .bool true) rfl rfl (by kernel_rfl) (by kernel_rfl) (by kernel_rfl) (fun _ _ _ h => h) (Or.inl ⟨by rfl, ?_⟩) hHeld ?_
      · intro w hSw; (try dsimp only at hSw); go_simp
      try simp only [Act.put, List.setIfInBounds_toArray, List.set_cons_zero, List.set_cons_succ]
      refine wpAnyH_takeL (i := 17) (d := some 64) (v := .agg (siA X)) rfl rfl (by kernel_rfl) (by kernel_rfl) (by kernel_rfl) (fun _ _ _ h => h) (Or.inl ⟨by rfl, ?_⟩) hHeld ?_
      · intro w hSw; exact yl_whole 45 _ g22 rfl hSw.1 Try.underlying45 rfl Try.zSc
      try simp only [Act.put, List.setIfInBounds_toArray, List.set_cons_zero, List.set_cons_succ]
      refine wpAnyH_ready (rs := [18]) (by kernel_rfl) (by simp) ?_
      refine AllReadyH.cons rfl (fun K hK => ?_) AllReadyH.nil
      go_simp
      (with_reducible refine (CR _).mono ?_)
      rintro e u47 ⟨rfl, b47⟩
      have r49_s := le_on r46_s b47
      have r49_b := le_on r46_b b47
      have r49_x := le_on r46_x b47
      have r49_y := le_on r46_y b47
      have r49_z := le_on r46_z b47
      have l49 := le_tr l46 b47
      clear r46_s r46_b r46_x r46_y r46_z l46
      clear b47
      go_wp2_with fail
      have y50 := Lib.hid (show (fun V : World => CB V g22 45 (siA X) ∧ CB V g31 45 (siA X) ∧ CB V g40 45 (siA X) ∧ CB V g1 40 (siA s)) u47 from ⟨r49_x, r49_y, r49_z, r49_s⟩)
      refine hK.out _ _ y50.out (fun hHeld => ?_)
      clear hK K y50
      try simp only [Act.put, List.setIfInBounds_toArray, List.set_cons_zero, List.set_cons_succ]
      refine wpAnyH_takeL (i := 19) (d := some 66) (v := .bool true) rfl rfl (by kernel_rfl) (by kernel_rfl) (by kernel_rfl) (fun _ _ _ h => h) (Or.inl ⟨by rfl, ?_⟩) hHeld ?_
      · intro w hSw; (try dsimp only at hSw); go_simp
      try simp only [Act.put, List.setIfInBounds_toArray, List.set_cons_zero, List.set_cons_succ]
      refine wpAnyH_takeL (i := 20) (d := some 67) (v := .bool true) rfl rfl (by kernel_rfl) (by kernel_rfl) (by kernel_rfl) (fun _ _ _ h => h) (Or.inl ⟨by rfl, ?_⟩) hHeld ?_
      · intro w hSw; (try dsimp only at hSw); go_simp
      try simp only [Act.put, List.setIfInBounds_toArray, List.set_cons_zero, List.set_cons_succ]
      refine wpAnyH_takeL (i := 21) (d := some 68) (v := .pointer (some ⟨g22, 1, none⟩)) rfl rfl (by kernel_rfl) (by kernel_rfl) (by kernel_rfl) (fun _ _ _ h => h) (Or.inl ⟨by rfl, ?_⟩) hHeld ?_
      · intro w hSw; (try dsimp only at hSw); go_simp
      try simp only [Act.put, List.setIfInBounds_toArray, List.set_cons_zero, List.set_cons_succ]
      refine wpAnyH_takeL (i := 22) (d := some 69) (v := .agg (lsA (X.l))) rfl rfl (by kernel_rfl) (by kernel_rfl) (by kernel_rfl) (fun _ _ _ h => h) (Or.inl ⟨by rfl, ?_⟩) hHeld ?_
      · intro w hSw; exact yl_part 43 _ g22 1 rfl (pt := lsA (X.l)) hSw.1 (siA_plc _) Try.underlying43 rfl Try.zLc
      try simp only [Act.put, List.setIfInBounds_toArray, List.set_cons_zero, List.set_cons_succ]
      refine wpAnyH_takeL (i := 23) (d := some 70) (v := .agg (siA s)) rfl rfl (by kernel_rfl) (by kernel_rfl) (by kernel_rfl) (fun _ _ _ h => h) (Or.inl ⟨by rfl, ?_⟩) hHeld ?_
      · intro w hSw; exact yl_whole 40 _ g1 rfl hSw.2.2.2 Try.underlying40 rfl Try.zSr
      try simp only [Act.put, List.setIfInBounds_toArray, List.set_cons_zero, List.set_cons_succ]
      refine wpAnyH_ready (rs := [24]) (by kernel_rfl) (by simp) ?_
      refine AllReadyH.cons rfl (fun K hK => ?_) AllReadyH.nil
      go_simp
      (with_reducible refine (side_c s _).mono ?_)
      rintro e u51 ⟨rfl, b51⟩
      have r53_s := le_on r49_s b51
      have r53_b := le_on r49_b b51
      have r53_x := le_on r49_x b51
      have r53_y := le_on r49_y b51
      have r53_z := le_on r49_z b51
      have l53 := le_tr l49 b51
      clear r49_s r49_b r49_x r49_y r49_z l49
      clear b51
      go_wp2_with fail
      have y54 := Lib.hid (show (fun V : World => CB V g22 45 (siA X) ∧ CB V g31 45 (siA X) ∧ CB V g40 45 (siA X) ∧ CB V g1 40 (siA s)) u51 from ⟨r53_x, r53_y, r53_z, r53_s⟩)
      refine hK.out _ _ y54.out (fun hHeld => ?_)
      clear hK K y54
      try simp only [Act.put, List.setIfInBounds_toArray, List.set_cons_zero, List.set_cons_succ]
      refine wpAnyH_takeL (i := 25) (d := some 72) (v := .agg (lsA s.l)) rfl rfl (by kernel_rfl) (by kernel_rfl) (by kernel_rfl) (fun _ _ _ h => h) (Or.inl ⟨by rfl, ?_⟩) hHeld ?_
      · intro w hSw; have hF := fld_sc s w; go_simp
      try simp only [Act.put, List.setIfInBounds_toArray, List.set_cons_zero, List.set_cons_succ]
      refine wpAnyH_takeL (i := 26) (d := some 73) (v := .bool true) rfl rfl (by kernel_rfl) (by kernel_rfl) (by kernel_rfl) (fun _ _ _ h => h) (Or.inl ⟨by rfl, ?_⟩) hHeld ?_
      · intro w hSw; have hE := EL w; go_simp
      try simp only [Act.put, List.setIfInBounds_toArray, List.set_cons_zero, List.set_cons_succ]
      refine wpAnyH_takeL (i := 27) (d := some 74) (v := .bool true) rfl rfl (by kernel_rfl) (by kernel_rfl) (by kernel_rfl) (fun _ _ _ h => h) (Or.inl ⟨by rfl, ?_⟩) hHeld ?_
      · intro w hSw; (try dsimp only at hSw); go_simp
      try simp only [Act.put, List.setIfInBounds_toArray, List.set_cons_zero, List.set_cons_succ]
      refine wpAnyH_takeL (i := 28) (d := some 4) (v := .bool true) rfl rfl (by kernel_rfl) (by kernel_rfl) (by kernel_rfl) (fun _ _ _ h => h) (Or.inl ⟨by rfl, ?_⟩) hHeld ?_
      · intro w hSw; (try dsimp only at hSw); go_simp
      try simp only [Act.put, List.setIfInBounds_toArray, List.set_cons_zero, List.set_cons_succ]
      refine wpAnyH_done (by kernel_rfl) ?_ _
      go_wp2_with fail
      go_ret
      exact ⟨rfl, l53⟩
    · skip
      refine rd_alloc rfl 45 rfl (some 5) rfl (siA zS) zero_sc ?_
      refine ⟨fun V18 g18 n18 f18 => ?_⟩
      have ne18_s := f18.ne r16_s
      have ne18_b := f18.ne r16_b
      have up18 : w.heap.size ≤ g18 := f18.up l16
      have bl18 := f18.bel
      clear f18
      have r20_s := le_on r16_s bl18
      have r20_b := le_on r16_b bl18
      have l20 := le_tr l16 bl18
      clear r16_s r16_b l16
      clear bl18
      have y21 := Lib.hid (show (fun V : World => CB V g1 40 (siA s) ∧ CB V g4 42 (btA b)) V18 from ⟨r20_s, r20_b⟩)
      refine hK.out _ _ y21.out (fun hHeld => ?_)
      clear hK K y21
      try simp only [Act.put, List.setIfInBounds_toArray, List.set_cons_zero, List.set_cons_succ]
      refine wpAnyH_ready (rs := [3]) (by kernel_rfl) (by simp) ?_
      refine AllReadyH.cons rfl (fun K hK => ?_) AllReadyH.nil
      go_simp
      (with_reducible refine (C1 _).mono ?_)
      rintro e u22 ⟨rfl, b22⟩
      have r24_s := le_on r20_s b22
      have r24_b := le_on r20_b b22
      have r24_x := le_on n18 b22
      have l24 := le_tr l20 b22
      clear r20_s r20_b n18 l20
      clear b22
      go_wp2_with fail
      have y25 := Lib.hid (show (fun V : World => CB V g1 40 (siA s) ∧ CB V g4 42 (btA b)) u22 from ⟨r24_s, r24_b⟩)
      refine hK.out _ _ y25.out (fun hHeld => ?_)
      clear hK K y25
      try simp only [Act.put, List.setIfInBounds_toArray, List.set_cons_zero, List.set_cons_succ]
      refine wpAnyH_takeL (i := 4) (d := some 17) (v := .tuple #[.agg (siA X), .int .i64 0]) rfl rfl (by kernel_rfl) (by kernel_rfl) (by kernel_rfl) (fun _ _ _ h => h) (Or.inl ⟨by rfl, ?_⟩) hHeld ?_
      · intro w hSw; (try dsimp only at hSw); go_simp
      try simp only [Act.put, List.setIfInBounds_toArray, List.set_cons_zero, List.set_cons_succ]
      refine wpAnyH_takeL (i := 5) (d := some 22) (v := .agg (siA X)) rfl rfl (by kernel_rfl) (by kernel_rfl) (by kernel_rfl) (fun _ _ _ h => h) (Or.inl ⟨by rfl, ?_⟩) hHeld ?_
      · intro w hSw; (try dsimp only at hSw); go_simp
      try simp only [Act.put, List.setIfInBounds_toArray, List.set_cons_zero, List.set_cons_succ]
      refine wpAnyH_takeL (i := 6) (d := some 23) (v := .int .i64 0) rfl rfl (by kernel_rfl) (by kernel_rfl) (by kernel_rfl) (fun _ _ _ h => h) (Or.inl ⟨by rfl, ?_⟩) hHeld ?_
      · intro w hSw; (try dsimp only at hSw); go_simp
      try simp only [Act.put, List.setIfInBounds_toArray, List.set_cons_zero, List.set_cons_succ]
      refine wpAnyH_ready (rs := [8]) (by kernel_rfl) (by simp) ?_
      refine AllReadyH.cons rfl (fun K hK => ?_) AllReadyH.nil
      refine rd_store rfl 45 _ _ rfl none rfl g18 (siA X) rfl rfl r24_x Try.zSc rfl (siA_one _) ?_
      refine ⟨fun V26 n26 k26 => ?_⟩
      have m26_s := k26.on r24_s ne18_s
      have m26_b := k26.on r24_b ne18_b
      have o26 := k26.bel _ _ l24 up18
      clear k26
      clear r24_x r24_s r24_b l24
      have y27 := Lib.hid (show (fun V : World => CB V g1 40 (siA s) ∧ CB V g4 42 (btA b)) V26 from ⟨m26_s, m26_b⟩)
      refine hK.out _ _ y27.out (fun hHeld => ?_)
      clear hK K y27
      try simp only [Act.put, List.setIfInBounds_toArray, List.set_cons_zero, List.set_cons_succ]
      refine wpAnyH_takeL (i := 9) (d := some 6) (v := .int .i64 0) rfl rfl (by kernel_rfl) (by kernel_rfl) (by kernel_rfl) (fun _ _ _ h => h) (Or.inl ⟨by rfl, ?_⟩) hHeld ?_
      · intro w hSw; (try dsimp only at hSw); go_simp
      try simp only [Act.put, List.setIfInBounds_toArray, List.set_cons_zero, List.set_cons_succ]
      refine wpAnyH_done (by kernel_rfl) ?_ _
      go_wp2_with (first | (first | ((with_reducible refine st_load 45 _ g18 ?_ n26 Try.underlying45 ?_ ?_ ?_); exact rfl; exact rfl; exact Try.zSc) | ((with_reducible refine st_loadG 45 _ g18 ?_ n26 Try.underlying45 ?_ ?_ ?_ ?_); exact rfl; exact rfl; exact Try.zSc; exact rfl)) | (first | ((with_reducible refine st_load 42 _ g4 ?_ m26_b Try.underlying42 ?_ ?_ ?_); exact rfl; exact rfl; exact Try.zBr) | ((with_reducible refine st_loadG 42 _ g4 ?_ m26_b Try.underlying42 ?_ ?_ ?_ ?_); exact rfl; exact rfl; exact Try.zBr; exact rfl)))
      (with_reducible refine (C2 _).mono ?_)
      rintro e w28 ⟨rfl, b28⟩
      have r30_s := le_on m26_s b28
      have r30_b := le_on m26_b b28
      have r30_x := le_on n26 b28
      have l30 := le_tr o26 b28
      clear m26_s m26_b n26 o26
      clear b28
      go_wp2_with (first | ((with_reducible refine st_alloc 45 (siA zS) ?_ ?_); exact zero_sc))
      refine ⟨fun V31 g31 n31 f31 => ?_⟩
      have ne31_s := f31.ne r30_s
      have ne31_b := f31.ne r30_b
      have ne31_x := f31.ne r30_x
      have up31 : w.heap.size ≤ g31 := f31.up l30
      have bl31 := f31.bel
      clear f31
      have r33_s := le_on r30_s bl31
      have r33_b := le_on r30_b bl31
      have r33_x := le_on r30_x bl31
      have l33 := le_tr l30 bl31
      clear r30_s r30_b r30_x l30
      clear bl31
      go_wp2_with (first | ((with_reducible refine st_store 45 _ _ g31 (siA X) ?_ ?_ n31 ?_ ?_ ?_ ?_); exact rfl; exact rfl; exact Try.zSc; exact rfl; exact siA_one _))
      refine ⟨fun V34 n34 k34 => ?_⟩
      have m34_s := k34.on r33_s ne31_s
      have m34_b := k34.on r33_b ne31_b
      have m34_x := k34.on r33_x ne31_x
      have o34 := k34.bel _ _ l33 up31
      clear k34
      clear n31 r33_s r33_b r33_x l33
      have c35 : V34.cell? ⟨g4, 0, none⟩ = some (.int .i64 (b.tx)) := CB.cell m34_b 0
      have c36 : V34.cell? ⟨g4, 1, none⟩ = some (.int .i64 (b.vt)) := CB.cell m34_b 1
      have w1 : IntKind.i64.wrap u = u := W1.out
      have w2 : 3 - b.vt = u := HU.out
      go_wp2_with (first | (first | ((with_reducible refine st_load 45 _ g18 ?_ m34_x Try.underlying45 ?_ ?_ ?_); exact rfl; exact rfl; exact Try.zSc) | ((with_reducible refine st_loadG 45 _ g18 ?_ m34_x Try.underlying45 ?_ ?_ ?_ ?_); exact rfl; exact rfl; exact Try.zSc; exact rfl)) | ((with_reducible refine st_builtk2 49 (v0 := .int .i64 b.tx) (v1 := .int .i64 u) ?_ ?_ (built_b2 b.tx u) ?_); exact rfl; exact rfl))
      (with_reducible refine (C3 _).mono ?_)
      rintro e w37 ⟨rfl, b37⟩
      clear c35 c36
      have r39_s := le_on m34_s b37
      have r39_b := le_on m34_b b37
      have r39_x := le_on m34_x b37
      have r39_y := le_on n34 b37
      have l39 := le_tr o34 b37
      clear m34_s m34_b m34_x n34 o34
      clear b37
      go_wp2_with (first | ((with_reducible refine st_alloc 45 (siA zS) ?_ ?_); exact zero_sc))
      refine ⟨fun V40 g40 n40 f40 => ?_⟩
      have ne40_s := f40.ne r39_s
      have ne40_b := f40.ne r39_b
      have ne40_x := f40.ne r39_x
      have ne40_y := f40.ne r39_y
      have up40 : w.heap.size ≤ g40 := f40.up l39
      have bl40 := f40.bel
      clear f40
      have r42_s := le_on r39_s bl40
      have r42_b := le_on r39_b bl40
      have r42_x := le_on r39_x bl40
      have r42_y := le_on r39_y bl40
      have l42 := le_tr l39 bl40
      clear r39_s r39_b r39_x r39_y l39
      clear bl40
      go_wp2_with (first | ((with_reducible refine st_store 45 _ _ g40 (siA X) ?_ ?_ n40 ?_ ?_ ?_ ?_); exact rfl; exact rfl; exact Try.zSc; exact rfl; exact siA_one _))
      refine ⟨fun V43 n43 k43 => ?_⟩
      have m43_s := k43.on r42_s ne40_s
      have m43_b := k43.on r42_b ne40_b
      have m43_x := k43.on r42_x ne40_x
      have m43_y := k43.on r42_y ne40_y
      have o43 := k43.bel _ _ l42 up40
      clear k43
      clear n40 r42_s r42_b r42_x r42_y l42
      go_wp2_with fail
      have y44 := Lib.hid (show (fun V : World => CB V g18 45 (siA X) ∧ CB V g31 45 (siA X) ∧ CB V g40 45 (siA X) ∧ CB V g1 40 (siA s)) V43.drew from ⟨CB.drew m43_x, CB.drew m43_y, CB.drew n43, CB.drew m43_s⟩)
      refine wp_region_held_drew (S := (fun V : World => CB V g18 45 (siA X) ∧ CB V g31 45 (siA X) ∧ CB V g40 45 (siA X) ∧ CB V g1 40 (siA s))) (by kernel_rfl) y44.out (fun hHeld => ?_)
      obtain ⟨D44, hD44⟩ : ∃ V, V43.drew = V := ⟨_, rfl⟩
      have b44 : Below V43.heap.size V43 D44 := by rw [← hD44]; exact le_dr (Below.refl _ _)
      rw [hD44] at hHeld ⊢
      clear hD44
      have r46_s := le_on m43_s b44
      have r46_b := le_on m43_b b44
      have r46_x := le_on m43_x b44
      have r46_y := le_on m43_y b44
      have r46_z := le_on n43 b44
      have l46 := le_tr o43 b44
      clear m43_s m43_b m43_x m43_y n43 o43
      clear b44
      refine wpAnyH_takeL (i := 0) (d := some 47) (v := .int .i64 0) rfl rfl (by kernel_rfl) (by kernel_rfl) (by kernel_rfl) (fun _ _ _ h => h) (Or.inl ⟨by rfl, ?_⟩) hHeld ?_
      · intro w hSw; (try dsimp only at hSw); go_simp
      try simp only [Act.put, List.setIfInBounds_toArray, List.set_cons_zero, List.set_cons_succ]
      refine wpAnyH_takeL (i := 1) (d := some 48) (v := .bool true) rfl rfl (by kernel_rfl) (by kernel_rfl) (by kernel_rfl) (fun _ _ _ h => h) (Or.inl ⟨by rfl, ?_⟩) hHeld ?_
      · intro w hSw; (try dsimp only at hSw); go_simp
      try simp only [Act.put, List.setIfInBounds_toArray, List.set_cons_zero, List.set_cons_succ]
      refine wpAnyH_takeL (i := 2) (d := some 49) (v := .bool true) rfl rfl (by kernel_rfl) (by kernel_rfl) (by kernel_rfl) (fun _ _ _ h => h) (Or.inl ⟨by rfl, ?_⟩) hHeld ?_
      · intro w hSw; (try dsimp only at hSw); go_simp
      try simp only [Act.put, List.setIfInBounds_toArray, List.set_cons_zero, List.set_cons_succ]
      refine wpAnyH_takeL (i := 3) (d := some 50) (v := .agg (siA X)) rfl rfl (by kernel_rfl) (by kernel_rfl) (by kernel_rfl) (fun _ _ _ h => h) (Or.inl ⟨by rfl, ?_⟩) hHeld ?_
      · intro w hSw; exact yl_whole 45 _ g31 rfl hSw.2.1 Try.underlying45 rfl Try.zSc
      try simp only [Act.put, List.setIfInBounds_toArray, List.set_cons_zero, List.set_cons_succ]
      refine wpAnyH_takeL (i := 4) (d := some 51) (v := .agg (siA X)) rfl rfl (by kernel_rfl) (by kernel_rfl) (by kernel_rfl) (fun _ _ _ h => h) (Or.inl ⟨by rfl, ?_⟩) hHeld ?_
      · intro w hSw; exact yl_whole 45 _ g18 rfl hSw.1 Try.underlying45 rfl Try.zSc
      try simp only [Act.put, List.setIfInBounds_toArray, List.set_cons_zero, List.set_cons_succ]
      refine wpAnyH_takeL (i := 5) (d := some 52) (v := .bool true) rfl rfl (by kernel_rfl) (by kernel_rfl) (by kernel_rfl) (fun _ _ _ h => h) (Or.inl ⟨by rfl, ?_⟩) hHeld ?_
      · intro w hSw; have hE := E w; go_simp
      try simp only [Act.put, List.setIfInBounds_toArray, List.set_cons_zero, List.set_cons_succ]
      refine wpAnyH_takeL (i := 6) (d := some 53) (v := .bool true) rfl rfl (by kernel_rfl) (by kernel_rfl) (by kernel_rfl) (fun _ _ _ h => h) (Or.inl ⟨by rfl, ?_⟩) hHeld ?_
      · intro w hSw; (try dsimp only at hSw); go_simp
      try simp only [Act.put, List.setIfInBounds_toArray, List.set_cons_zero, List.set_cons_succ]
      refine wpAnyH_takeL (i := 7) (d := some 54) (v := .bool true) rfl rfl (by kernel_rfl) (by kernel_rfl) (by kernel_rfl) (fun _ _ _ h => h) (Or.inl ⟨by rfl, ?_⟩) hHeld ?_
      · intro w hSw; (try dsimp only at hSw); go_simp
      try simp only [Act.put, List.setIfInBounds_toArray, List.set_cons_zero, List.set_cons_succ]
      refine wpAnyH_takeL (i := 8) (d := some 55) (v := .int .i64 8) rfl rfl (by kernel_rfl) (by kernel_rfl) (by kernel_rfl) (fun _ _ _ h => h) (Or.inl ⟨by rfl, ?_⟩) hHeld ?_
      · intro w hSw; (try dsimp only at hSw); go_simp
      try simp only [Act.put, List.setIfInBounds_toArray, List.set_cons_zero, List.set_cons_succ]
      refine wpAnyH_takeL (i := 9) (d := some 56) (v := .bool true) rfl rfl (by kernel_rfl) (by kernel_rfl) (by kernel_rfl) (fun _ _ _ h => h) (Or.inl ⟨by rfl, ?_⟩) hHeld ?_
      · intro w hSw; (try dsimp only at hSw); go_simp
      try simp only [Act.put, List.setIfInBounds_toArray, List.set_cons_zero, List.set_cons_succ]
      refine wpAnyH_takeL (i := 10) (d := some 57) (v := .bool true) rfl rfl (by kernel_rfl) (by kernel_rfl) (by kernel_rfl) (fun _ _ _ h => h) (Or.inl ⟨by rfl, ?_⟩) hHeld ?_
      · intro w hSw; (try dsimp only at hSw); go_simp
      try simp only [Act.put, List.setIfInBounds_toArray, List.set_cons_zero, List.set_cons_succ]
      refine wpAnyH_takeL (i := 11) (d := some 58) (v := .bool true) rfl rfl (by kernel_rfl) (by kernel_rfl) (by kernel_rfl) (fun _ _ _ h => h) (Or.inl ⟨by rfl, ?_⟩) hHeld ?_
      · intro w hSw; (try dsimp only at hSw); go_simp
      try simp only [Act.put, List.setIfInBounds_toArray, List.set_cons_zero, List.set_cons_succ]
      refine wpAnyH_takeL (i := 12) (d := some 59) (v := .agg (siA X)) rfl rfl (by kernel_rfl) (by kernel_rfl) (by kernel_rfl) (fun _ _ _ h => h) (Or.inl ⟨by rfl, ?_⟩) hHeld ?_
      · intro w hSw; exact yl_whole 45 _ g40 rfl hSw.2.2.1 Try.underlying45 rfl Try.zSc
      try simp only [Act.put, List.setIfInBounds_toArray, List.set_cons_zero, List.set_cons_succ]
      refine wpAnyH_takeL (i := 13) (d := some 60) (v := .agg (siA X)) rfl rfl (by kernel_rfl) (by kernel_rfl) (by kernel_rfl) (fun _ _ _ h => h) (Or.inl ⟨by rfl, ?_⟩) hHeld ?_
      · intro w hSw; exact yl_whole 45 _ g18 rfl hSw.1 Try.underlying45 rfl Try.zSc
      try simp only [Act.put, List.setIfInBounds_toArray, List.set_cons_zero, List.set_cons_succ]
      refine wpAnyH_takeL (i := 14) (d := some 61) (v := .bool true) rfl rfl (by kernel_rfl) (by kernel_rfl) (by kernel_rfl) (fun _ _ _ h => h) (Or.inl ⟨by rfl, ?_⟩) hHeld ?_
      · intro w hSw; have hE := E w; go_simp
      try simp only [Act.put, List.setIfInBounds_toArray, List.set_cons_zero, List.set_cons_succ]
      refine wpAnyH_takeL (i := 15) (d := some 62) (v := .bool true) rfl rfl (by kernel_rfl) (by kernel_rfl) (by kernel_rfl) (fun _ _ _ h => h) (Or.inl ⟨by rfl, ?_⟩) hHeld ?_
      · intro w hSw; (try dsimp only at hSw); go_simp
      try simp only [Act.put, List.setIfInBounds_toArray, List.set_cons_zero, List.set_cons_succ]
      refine wpAnyH_takeL (i := 16) (d := some 63) (v := .bool true) rfl rfl (by kernel_rfl) (by kernel_rfl) (by kernel_rfl) (fun _ _ _ h => h) (Or.inl ⟨by rfl, ?_⟩) hHeld ?_
      · intro w hSw; (try dsimp only at hSw); go_simp
      try simp only [Act.put, List.setIfInBounds_toArray, List.set_cons_zero, List.set_cons_succ]
      refine wpAnyH_takeL (i := 17) (d := some 64) (v := .agg (siA X)) rfl rfl (by kernel_rfl) (by kernel_rfl) (by kernel_rfl) (fun _ _ _ h => h) (Or.inl ⟨by rfl, ?_⟩) hHeld ?_
      · intro w hSw; exact yl_whole 45 _ g18 rfl hSw.1 Try.underlying45 rfl Try.zSc
      try simp only [Act.put, List.setIfInBounds_toArray, List.set_cons_zero, List.set_cons_succ]
      refine wpAnyH_ready (rs := [18]) (by kernel_rfl) (by simp) ?_
      refine AllReadyH.cons rfl (fun K hK => ?_) AllReadyH.nil
      go_simp
      (with_reducible refine (CR _).mono ?_)
      rintro e u47 ⟨rfl, b47⟩
      have r49_s := le_on r46_s b47
      have r49_b := le_on r46_b b47
      have r49_x := le_on r46_x b47
      have r49_y := le_on r46_y b47
      have r49_z := le_on r46_z b47
      have l49 := le_tr l46 b47
      clear r46_s r46_b r46_x r46_y r46_z l46
      clear b47
      go_wp2_with fail
      have y50 := Lib.hid (show (fun V : World => CB V g18 45 (siA X) ∧ CB V g31 45 (siA X) ∧ CB V g40 45 (siA X) ∧ CB V g1 40 (siA s)) u47 from ⟨r49_x, r49_y, r49_z, r49_s⟩)
      refine hK.out _ _ y50.out (fun hHeld => ?_)
      clear hK K y50
      try simp only [Act.put, List.setIfInBounds_toArray, List.set_cons_zero, List.set_cons_succ]
      refine wpAnyH_takeL (i := 19) (d := some 66) (v := .bool true) rfl rfl (by kernel_rfl) (by kernel_rfl) (by kernel_rfl) (fun _ _ _ h => h) (Or.inl ⟨by rfl, ?_⟩) hHeld ?_
      · intro w hSw; (try dsimp only at hSw); go_simp
      try simp only [Act.put, List.setIfInBounds_toArray, List.set_cons_zero, List.set_cons_succ]
      refine wpAnyH_takeL (i := 20) (d := some 67) (v := .bool true) rfl rfl (by kernel_rfl) (by kernel_rfl) (by kernel_rfl) (fun _ _ _ h => h) (Or.inl ⟨by rfl, ?_⟩) hHeld ?_
      · intro w hSw; (try dsimp only at hSw); go_simp
      try simp only [Act.put, List.setIfInBounds_toArray, List.set_cons_zero, List.set_cons_succ]
      refine wpAnyH_takeL (i := 21) (d := some 68) (v := .pointer (some ⟨g18, 1, none⟩)) rfl rfl (by kernel_rfl) (by kernel_rfl) (by kernel_rfl) (fun _ _ _ h => h) (Or.inl ⟨by rfl, ?_⟩) hHeld ?_
      · intro w hSw; (try dsimp only at hSw); go_simp
      try simp only [Act.put, List.setIfInBounds_toArray, List.set_cons_zero, List.set_cons_succ]
      refine wpAnyH_takeL (i := 22) (d := some 69) (v := .agg (lsA (X.l))) rfl rfl (by kernel_rfl) (by kernel_rfl) (by kernel_rfl) (fun _ _ _ h => h) (Or.inl ⟨by rfl, ?_⟩) hHeld ?_
      · intro w hSw; exact yl_part 43 _ g18 1 rfl (pt := lsA (X.l)) hSw.1 (siA_plc _) Try.underlying43 rfl Try.zLc
      try simp only [Act.put, List.setIfInBounds_toArray, List.set_cons_zero, List.set_cons_succ]
      refine wpAnyH_takeL (i := 23) (d := some 70) (v := .agg (siA s)) rfl rfl (by kernel_rfl) (by kernel_rfl) (by kernel_rfl) (fun _ _ _ h => h) (Or.inl ⟨by rfl, ?_⟩) hHeld ?_
      · intro w hSw; exact yl_whole 40 _ g1 rfl hSw.2.2.2 Try.underlying40 rfl Try.zSr
      try simp only [Act.put, List.setIfInBounds_toArray, List.set_cons_zero, List.set_cons_succ]
      refine wpAnyH_ready (rs := [24]) (by kernel_rfl) (by simp) ?_
      refine AllReadyH.cons rfl (fun K hK => ?_) AllReadyH.nil
      go_simp
      (with_reducible refine (side_c s _).mono ?_)
      rintro e u51 ⟨rfl, b51⟩
      have r53_s := le_on r49_s b51
      have r53_b := le_on r49_b b51
      have r53_x := le_on r49_x b51
      have r53_y := le_on r49_y b51
      have r53_z := le_on r49_z b51
      have l53 := le_tr l49 b51
      clear r49_s r49_b r49_x r49_y r49_z l49
      clear b51
      go_wp2_with fail
      have y54 := Lib.hid (show (fun V : World => CB V g18 45 (siA X) ∧ CB V g31 45 (siA X) ∧ CB V g40 45 (siA X) ∧ CB V g1 40 (siA s)) u51 from ⟨r53_x, r53_y, r53_z, r53_s⟩)
      refine hK.out _ _ y54.out (fun hHeld => ?_)
      clear hK K y54
      try simp only [Act.put, List.setIfInBounds_toArray, List.set_cons_zero, List.set_cons_succ]
      refine wpAnyH_takeL (i := 25) (d := some 72) (v := .agg (lsA s.l)) rfl rfl (by kernel_rfl) (by kernel_rfl) (by kernel_rfl) (fun _ _ _ h => h) (Or.inl ⟨by rfl, ?_⟩) hHeld ?_
      · intro w hSw; have hF := fld_sc s w; go_simp
      try simp only [Act.put, List.setIfInBounds_toArray, List.set_cons_zero, List.set_cons_succ]
      refine wpAnyH_takeL (i := 26) (d := some 73) (v := .bool true) rfl rfl (by kernel_rfl) (by kernel_rfl) (by kernel_rfl) (fun _ _ _ h => h) (Or.inl ⟨by rfl, ?_⟩) hHeld ?_
      · intro w hSw; have hE := EL w; go_simp
      try simp only [Act.put, List.setIfInBounds_toArray, List.set_cons_zero, List.set_cons_succ]
      refine wpAnyH_takeL (i := 27) (d := some 74) (v := .bool true) rfl rfl (by kernel_rfl) (by kernel_rfl) (by kernel_rfl) (fun _ _ _ h => h) (Or.inl ⟨by rfl, ?_⟩) hHeld ?_
      · intro w hSw; (try dsimp only at hSw); go_simp
      try simp only [Act.put, List.setIfInBounds_toArray, List.set_cons_zero, List.set_cons_succ]
      refine wpAnyH_takeL (i := 28) (d := some 4) (v := .bool true) rfl rfl (by kernel_rfl) (by kernel_rfl) (by kernel_rfl) (fun _ _ _ h => h) (Or.inl ⟨by rfl, ?_⟩) hHeld ?_
      · intro w hSw; (try dsimp only at hSw); go_simp
      try simp only [Act.put, List.setIfInBounds_toArray, List.set_cons_zero, List.set_cons_succ]
      refine wpAnyH_done (by kernel_rfl) ?_ _
      go_wp2_with fail
      go_ret
      exact ⟨rfl, l53⟩
  · skip
    refine rd_alloc rfl 45 rfl (some 5) rfl (siA zS) zero_sc ?_
    refine ⟨fun V14 g14 n14 f14 => ?_⟩
    have ne14_s := f14.ne r13_s
    have ne14_b := f14.ne r13_b
    have up14 : w.heap.size ≤ g14 := f14.up l13
    have bl14 := f14.bel
    clear f14
    have r16_s := le_on r13_s bl14
    have r16_b := le_on r13_b bl14
    have l16 := le_tr l13 bl14
    clear r13_s r13_b l13
    clear bl14
    have y17 := Lib.hid (show (fun V : World => CB V g1 40 (siA s) ∧ CB V g4 42 (btA b)) V14 from ⟨r16_s, r16_b⟩)
    refine hK.out _ _ y17.out (fun hHeld => ?_)
    clear hK K y17
    try simp only [Act.put, List.setIfInBounds_toArray, List.set_cons_zero, List.set_cons_succ]
    refine wpAnyH_ready (rs := [1]) (by kernel_rfl) (by simp) ?_
    refine AllReadyH.cons rfl (fun K hK => ?_) AllReadyH.nil
    go_simp
    (with_reducible refine (side_c s _).mono ?_)
    rintro e u18 ⟨rfl, b18⟩
    have r20_s := le_on r16_s b18
    have r20_b := le_on r16_b b18
    have r20_x := le_on n14 b18
    have l20 := le_tr l16 b18
    clear r16_s r16_b n14 l16
    clear b18
    go_wp2_with fail
    have y21 := Lib.hid (show (fun V : World => CB V g1 40 (siA s) ∧ CB V g4 42 (btA b)) u18 from ⟨r20_s, r20_b⟩)
    refine hK.out _ _ y21.out (fun hHeld => ?_)
    clear hK K y21
    try simp only [Act.put, List.setIfInBounds_toArray, List.set_cons_zero, List.set_cons_succ]
    refine wpAnyH_ready (rs := [3]) (by kernel_rfl) (by simp) ?_
    refine AllReadyH.cons rfl (fun K hK => ?_) AllReadyH.nil
    go_simp
    (with_reducible refine (C1 _).mono ?_)
    rintro e u22 ⟨rfl, b22⟩
    have r24_s := le_on r20_s b22
    have r24_b := le_on r20_b b22
    have r24_x := le_on r20_x b22
    have l24 := le_tr l20 b22
    clear r20_s r20_b r20_x l20
    clear b22
    go_wp2_with fail
    have y25 := Lib.hid (show (fun V : World => CB V g1 40 (siA s) ∧ CB V g4 42 (btA b)) u22 from ⟨r24_s, r24_b⟩)
    refine hK.out _ _ y25.out (fun hHeld => ?_)
    clear hK K y25
    try simp only [Act.put, List.setIfInBounds_toArray, List.set_cons_zero, List.set_cons_succ]
    refine wpAnyH_takeL (i := 4) (d := some 17) (v := .tuple #[.agg (siA X), .int .i64 0]) rfl rfl (by kernel_rfl) (by kernel_rfl) (by kernel_rfl) (fun _ _ _ h => h) (Or.inl ⟨by rfl, ?_⟩) hHeld ?_
    · intro w hSw; (try dsimp only at hSw); go_simp
    try simp only [Act.put, List.setIfInBounds_toArray, List.set_cons_zero, List.set_cons_succ]
    refine wpAnyH_takeL (i := 5) (d := some 22) (v := .agg (siA X)) rfl rfl (by kernel_rfl) (by kernel_rfl) (by kernel_rfl) (fun _ _ _ h => h) (Or.inl ⟨by rfl, ?_⟩) hHeld ?_
    · intro w hSw; (try dsimp only at hSw); go_simp
    try simp only [Act.put, List.setIfInBounds_toArray, List.set_cons_zero, List.set_cons_succ]
    refine wpAnyH_takeL (i := 6) (d := some 23) (v := .int .i64 0) rfl rfl (by kernel_rfl) (by kernel_rfl) (by kernel_rfl) (fun _ _ _ h => h) (Or.inl ⟨by rfl, ?_⟩) hHeld ?_
    · intro w hSw; (try dsimp only at hSw); go_simp
    try simp only [Act.put, List.setIfInBounds_toArray, List.set_cons_zero, List.set_cons_succ]
    refine wpAnyH_ready (rs := [8]) (by kernel_rfl) (by simp) ?_
    refine AllReadyH.cons rfl (fun K hK => ?_) AllReadyH.nil
    refine rd_store rfl 45 _ _ rfl none rfl g14 (siA X) rfl rfl r24_x Try.zSc rfl (siA_one _) ?_
    refine ⟨fun V26 n26 k26 => ?_⟩
    have m26_s := k26.on r24_s ne14_s
    have m26_b := k26.on r24_b ne14_b
    have o26 := k26.bel _ _ l24 up14
    clear k26
    clear r24_x r24_s r24_b l24
    have y27 := Lib.hid (show (fun V : World => CB V g1 40 (siA s) ∧ CB V g4 42 (btA b)) V26 from ⟨m26_s, m26_b⟩)
    refine hK.out _ _ y27.out (fun hHeld => ?_)
    clear hK K y27
    try simp only [Act.put, List.setIfInBounds_toArray, List.set_cons_zero, List.set_cons_succ]
    refine wpAnyH_takeL (i := 9) (d := some 6) (v := .int .i64 0) rfl rfl (by kernel_rfl) (by kernel_rfl) (by kernel_rfl) (fun _ _ _ h => h) (Or.inl ⟨by rfl, ?_⟩) hHeld ?_
    · intro w hSw; (try dsimp only at hSw); go_simp
    try simp only [Act.put, List.setIfInBounds_toArray, List.set_cons_zero, List.set_cons_succ]
    refine wpAnyH_done (by kernel_rfl) ?_ _
    go_wp2_with (first | (first | ((with_reducible refine st_load 45 _ g14 ?_ n26 Try.underlying45 ?_ ?_ ?_); exact rfl; exact rfl; exact Try.zSc) | ((with_reducible refine st_loadG 45 _ g14 ?_ n26 Try.underlying45 ?_ ?_ ?_ ?_); exact rfl; exact rfl; exact Try.zSc; exact rfl)) | (first | ((with_reducible refine st_load 42 _ g4 ?_ m26_b Try.underlying42 ?_ ?_ ?_); exact rfl; exact rfl; exact Try.zBr) | ((with_reducible refine st_loadG 42 _ g4 ?_ m26_b Try.underlying42 ?_ ?_ ?_ ?_); exact rfl; exact rfl; exact Try.zBr; exact rfl)))
    (with_reducible refine (C2 _).mono ?_)
    rintro e w28 ⟨rfl, b28⟩
    have r30_s := le_on m26_s b28
    have r30_b := le_on m26_b b28
    have r30_x := le_on n26 b28
    have l30 := le_tr o26 b28
    clear m26_s m26_b n26 o26
    clear b28
    go_wp2_with (first | ((with_reducible refine st_alloc 45 (siA zS) ?_ ?_); exact zero_sc))
    refine ⟨fun V31 g31 n31 f31 => ?_⟩
    have ne31_s := f31.ne r30_s
    have ne31_b := f31.ne r30_b
    have ne31_x := f31.ne r30_x
    have up31 : w.heap.size ≤ g31 := f31.up l30
    have bl31 := f31.bel
    clear f31
    have r33_s := le_on r30_s bl31
    have r33_b := le_on r30_b bl31
    have r33_x := le_on r30_x bl31
    have l33 := le_tr l30 bl31
    clear r30_s r30_b r30_x l30
    clear bl31
    go_wp2_with (first | ((with_reducible refine st_store 45 _ _ g31 (siA X) ?_ ?_ n31 ?_ ?_ ?_ ?_); exact rfl; exact rfl; exact Try.zSc; exact rfl; exact siA_one _))
    refine ⟨fun V34 n34 k34 => ?_⟩
    have m34_s := k34.on r33_s ne31_s
    have m34_b := k34.on r33_b ne31_b
    have m34_x := k34.on r33_x ne31_x
    have o34 := k34.bel _ _ l33 up31
    clear k34
    clear n31 r33_s r33_b r33_x l33
    have c35 : V34.cell? ⟨g4, 0, none⟩ = some (.int .i64 (b.tx)) := CB.cell m34_b 0
    have c36 : V34.cell? ⟨g4, 1, none⟩ = some (.int .i64 (b.vt)) := CB.cell m34_b 1
    have w1 : IntKind.i64.wrap u = u := W1.out
    have w2 : 3 - b.vt = u := HU.out
    go_wp2_with (first | (first | ((with_reducible refine st_load 45 _ g14 ?_ m34_x Try.underlying45 ?_ ?_ ?_); exact rfl; exact rfl; exact Try.zSc) | ((with_reducible refine st_loadG 45 _ g14 ?_ m34_x Try.underlying45 ?_ ?_ ?_ ?_); exact rfl; exact rfl; exact Try.zSc; exact rfl)) | ((with_reducible refine st_builtk2 49 (v0 := .int .i64 b.tx) (v1 := .int .i64 u) ?_ ?_ (built_b2 b.tx u) ?_); exact rfl; exact rfl))
    (with_reducible refine (C3 _).mono ?_)
    rintro e w37 ⟨rfl, b37⟩
    clear c35 c36
    have r39_s := le_on m34_s b37
    have r39_b := le_on m34_b b37
    have r39_x := le_on m34_x b37
    have r39_y := le_on n34 b37
    have l39 := le_tr o34 b37
    clear m34_s m34_b m34_x n34 o34
    clear b37
    go_wp2_with (first | ((with_reducible refine st_alloc 45 (siA zS) ?_ ?_); exact zero_sc))
    refine ⟨fun V40 g40 n40 f40 => ?_⟩
    have ne40_s := f40.ne r39_s
    have ne40_b := f40.ne r39_b
    have ne40_x := f40.ne r39_x
    have ne40_y := f40.ne r39_y
    have up40 : w.heap.size ≤ g40 := f40.up l39
    have bl40 := f40.bel
    clear f40
    have r42_s := le_on r39_s bl40
    have r42_b := le_on r39_b bl40
    have r42_x := le_on r39_x bl40
    have r42_y := le_on r39_y bl40
    have l42 := le_tr l39 bl40
    clear r39_s r39_b r39_x r39_y l39
    clear bl40
    go_wp2_with (first | ((with_reducible refine st_store 45 _ _ g40 (siA X) ?_ ?_ n40 ?_ ?_ ?_ ?_); exact rfl; exact rfl; exact Try.zSc; exact rfl; exact siA_one _))
    refine ⟨fun V43 n43 k43 => ?_⟩
    have m43_s := k43.on r42_s ne40_s
    have m43_b := k43.on r42_b ne40_b
    have m43_x := k43.on r42_x ne40_x
    have m43_y := k43.on r42_y ne40_y
    have o43 := k43.bel _ _ l42 up40
    clear k43
    clear n40 r42_s r42_b r42_x r42_y l42
    go_wp2_with fail
    have y44 := Lib.hid (show (fun V : World => CB V g14 45 (siA X) ∧ CB V g31 45 (siA X) ∧ CB V g40 45 (siA X) ∧ CB V g1 40 (siA s)) V43.drew from ⟨CB.drew m43_x, CB.drew m43_y, CB.drew n43, CB.drew m43_s⟩)
    refine wp_region_held_drew (S := (fun V : World => CB V g14 45 (siA X) ∧ CB V g31 45 (siA X) ∧ CB V g40 45 (siA X) ∧ CB V g1 40 (siA s))) (by kernel_rfl) y44.out (fun hHeld => ?_)
    obtain ⟨D44, hD44⟩ : ∃ V, V43.drew = V := ⟨_, rfl⟩
    have b44 : Below V43.heap.size V43 D44 := by rw [← hD44]; exact le_dr (Below.refl _ _)
    rw [hD44] at hHeld ⊢
    clear hD44
    have r46_s := le_on m43_s b44
    have r46_b := le_on m43_b b44
    have r46_x := le_on m43_x b44
    have r46_y := le_on m43_y b44
    have r46_z := le_on n43 b44
    have l46 := le_tr o43 b44
    clear m43_s m43_b m43_x m43_y n43 o43
    clear b44
    refine wpAnyH_takeL (i := 0) (d := some 47) (v := .int .i64 0) rfl rfl (by kernel_rfl) (by kernel_rfl) (by kernel_rfl) (fun _ _ _ h => h) (Or.inl ⟨by rfl, ?_⟩) hHeld ?_
    · intro w hSw; (try dsimp only at hSw); go_simp
    try simp only [Act.put, List.setIfInBounds_toArray, List.set_cons_zero, List.set_cons_succ]
    refine wpAnyH_takeL (i := 1) (d := some 48) (v := .bool true) rfl rfl (by kernel_rfl) (by kernel_rfl) (by kernel_rfl) (fun _ _ _ h => h) (Or.inl ⟨by rfl, ?_⟩) hHeld ?_
    · intro w hSw; (try dsimp only at hSw); go_simp
    try simp only [Act.put, List.setIfInBounds_toArray, List.set_cons_zero, List.set_cons_succ]
    refine wpAnyH_takeL (i := 2) (d := some 49) (v := .bool true) rfl rfl (by kernel_rfl) (by kernel_rfl) (by kernel_rfl) (fun _ _ _ h => h) (Or.inl ⟨by rfl, ?_⟩) hHeld ?_
    · intro w hSw; (try dsimp only at hSw); go_simp
    try simp only [Act.put, List.setIfInBounds_toArray, List.set_cons_zero, List.set_cons_succ]
    refine wpAnyH_takeL (i := 3) (d := some 50) (v := .agg (siA X)) rfl rfl (by kernel_rfl) (by kernel_rfl) (by kernel_rfl) (fun _ _ _ h => h) (Or.inl ⟨by rfl, ?_⟩) hHeld ?_
    · intro w hSw; exact yl_whole 45 _ g31 rfl hSw.2.1 Try.underlying45 rfl Try.zSc
    try simp only [Act.put, List.setIfInBounds_toArray, List.set_cons_zero, List.set_cons_succ]
    refine wpAnyH_takeL (i := 4) (d := some 51) (v := .agg (siA X)) rfl rfl (by kernel_rfl) (by kernel_rfl) (by kernel_rfl) (fun _ _ _ h => h) (Or.inl ⟨by rfl, ?_⟩) hHeld ?_
    · intro w hSw; exact yl_whole 45 _ g14 rfl hSw.1 Try.underlying45 rfl Try.zSc
    try simp only [Act.put, List.setIfInBounds_toArray, List.set_cons_zero, List.set_cons_succ]
    refine wpAnyH_takeL (i := 5) (d := some 52) (v := .bool true) rfl rfl (by kernel_rfl) (by kernel_rfl) (by kernel_rfl) (fun _ _ _ h => h) (Or.inl ⟨by rfl, ?_⟩) hHeld ?_
    · intro w hSw; have hE := E w; go_simp
    try simp only [Act.put, List.setIfInBounds_toArray, List.set_cons_zero, List.set_cons_succ]
    refine wpAnyH_takeL (i := 6) (d := some 53) (v := .bool true) rfl rfl (by kernel_rfl) (by kernel_rfl) (by kernel_rfl) (fun _ _ _ h => h) (Or.inl ⟨by rfl, ?_⟩) hHeld ?_
    · intro w hSw; (try dsimp only at hSw); go_simp
    try simp only [Act.put, List.setIfInBounds_toArray, List.set_cons_zero, List.set_cons_succ]
    refine wpAnyH_takeL (i := 7) (d := some 54) (v := .bool true) rfl rfl (by kernel_rfl) (by kernel_rfl) (by kernel_rfl) (fun _ _ _ h => h) (Or.inl ⟨by rfl, ?_⟩) hHeld ?_
    · intro w hSw; (try dsimp only at hSw); go_simp
    try simp only [Act.put, List.setIfInBounds_toArray, List.set_cons_zero, List.set_cons_succ]
    refine wpAnyH_takeL (i := 8) (d := some 55) (v := .int .i64 8) rfl rfl (by kernel_rfl) (by kernel_rfl) (by kernel_rfl) (fun _ _ _ h => h) (Or.inl ⟨by rfl, ?_⟩) hHeld ?_
    · intro w hSw; (try dsimp only at hSw); go_simp
    try simp only [Act.put, List.setIfInBounds_toArray, List.set_cons_zero, List.set_cons_succ]
    refine wpAnyH_takeL (i := 9) (d := some 56) (v := .bool true) rfl rfl (by kernel_rfl) (by kernel_rfl) (by kernel_rfl) (fun _ _ _ h => h) (Or.inl ⟨by rfl, ?_⟩) hHeld ?_
    · intro w hSw; (try dsimp only at hSw); go_simp
    try simp only [Act.put, List.setIfInBounds_toArray, List.set_cons_zero, List.set_cons_succ]
    refine wpAnyH_takeL (i := 10) (d := some 57) (v := .bool true) rfl rfl (by kernel_rfl) (by kernel_rfl) (by kernel_rfl) (fun _ _ _ h => h) (Or.inl ⟨by rfl, ?_⟩) hHeld ?_
    · intro w hSw; (try dsimp only at hSw); go_simp
    try simp only [Act.put, List.setIfInBounds_toArray, List.set_cons_zero, List.set_cons_succ]
    refine wpAnyH_takeL (i := 11) (d := some 58) (v := .bool true) rfl rfl (by kernel_rfl) (by kernel_rfl) (by kernel_rfl) (fun _ _ _ h => h) (Or.inl ⟨by rfl, ?_⟩) hHeld ?_
    · intro w hSw; (try dsimp only at hSw); go_simp
    try simp only [Act.put, List.setIfInBounds_toArray, List.set_cons_zero, List.set_cons_succ]
    refine wpAnyH_takeL (i := 12) (d := some 59) (v := .agg (siA X)) rfl rfl (by kernel_rfl) (by kernel_rfl) (by kernel_rfl) (fun _ _ _ h => h) (Or.inl ⟨by rfl, ?_⟩) hHeld ?_
    · intro w hSw; exact yl_whole 45 _ g40 rfl hSw.2.2.1 Try.underlying45 rfl Try.zSc
    try simp only [Act.put, List.setIfInBounds_toArray, List.set_cons_zero, List.set_cons_succ]
    refine wpAnyH_takeL (i := 13) (d := some 60) (v := .agg (siA X)) rfl rfl (by kernel_rfl) (by kernel_rfl) (by kernel_rfl) (fun _ _ _ h => h) (Or.inl ⟨by rfl, ?_⟩) hHeld ?_
    · intro w hSw; exact yl_whole 45 _ g14 rfl hSw.1 Try.underlying45 rfl Try.zSc
    try simp only [Act.put, List.setIfInBounds_toArray, List.set_cons_zero, List.set_cons_succ]
    refine wpAnyH_takeL (i := 14) (d := some 61) (v := .bool true) rfl rfl (by kernel_rfl) (by kernel_rfl) (by kernel_rfl) (fun _ _ _ h => h) (Or.inl ⟨by rfl, ?_⟩) hHeld ?_
    · intro w hSw; have hE := E w; go_simp
    try simp only [Act.put, List.setIfInBounds_toArray, List.set_cons_zero, List.set_cons_succ]
    refine wpAnyH_takeL (i := 15) (d := some 62) (v := .bool true) rfl rfl (by kernel_rfl) (by kernel_rfl) (by kernel_rfl) (fun _ _ _ h => h) (Or.inl ⟨by rfl, ?_⟩) hHeld ?_
    · intro w hSw; (try dsimp only at hSw); go_simp
    try simp only [Act.put, List.setIfInBounds_toArray, List.set_cons_zero, List.set_cons_succ]
    refine wpAnyH_takeL (i := 16) (d := some 63) (v := .bool true) rfl rfl (by kernel_rfl) (by kernel_rfl) (by kernel_rfl) (fun _ _ _ h => h) (Or.inl ⟨by rfl, ?_⟩) hHeld ?_
    · intro w hSw; (try dsimp only at hSw); go_simp
    try simp only [Act.put, List.setIfInBounds_toArray, List.set_cons_zero, List.set_cons_succ]
    refine wpAnyH_takeL (i := 17) (d := some 64) (v := .agg (siA X)) rfl rfl (by kernel_rfl) (by kernel_rfl) (by kernel_rfl) (fun _ _ _ h => h) (Or.inl ⟨by rfl, ?_⟩) hHeld ?_
    · intro w hSw; exact yl_whole 45 _ g14 rfl hSw.1 Try.underlying45 rfl Try.zSc
    try simp only [Act.put, List.setIfInBounds_toArray, List.set_cons_zero, List.set_cons_succ]
    refine wpAnyH_ready (rs := [18]) (by kernel_rfl) (by simp) ?_
    refine AllReadyH.cons rfl (fun K hK => ?_) AllReadyH.nil
    go_simp
    (with_reducible refine (CR _).mono ?_)
    rintro e u47 ⟨rfl, b47⟩
    have r49_s := le_on r46_s b47
    have r49_b := le_on r46_b b47
    have r49_x := le_on r46_x b47
    have r49_y := le_on r46_y b47
    have r49_z := le_on r46_z b47
    have l49 := le_tr l46 b47
    clear r46_s r46_b r46_x r46_y r46_z l46
    clear b47
    go_wp2_with fail
    have y50 := Lib.hid (show (fun V : World => CB V g14 45 (siA X) ∧ CB V g31 45 (siA X) ∧ CB V g40 45 (siA X) ∧ CB V g1 40 (siA s)) u47 from ⟨r49_x, r49_y, r49_z, r49_s⟩)
    refine hK.out _ _ y50.out (fun hHeld => ?_)
    clear hK K y50
    try simp only [Act.put, List.setIfInBounds_toArray, List.set_cons_zero, List.set_cons_succ]
    refine wpAnyH_takeL (i := 19) (d := some 66) (v := .bool true) rfl rfl (by kernel_rfl) (by kernel_rfl) (by kernel_rfl) (fun _ _ _ h => h) (Or.inl ⟨by rfl, ?_⟩) hHeld ?_
    · intro w hSw; (try dsimp only at hSw); go_simp
    try simp only [Act.put, List.setIfInBounds_toArray, List.set_cons_zero, List.set_cons_succ]
    refine wpAnyH_takeL (i := 20) (d := some 67) (v := .bool true) rfl rfl (by kernel_rfl) (by kernel_rfl) (by kernel_rfl) (fun _ _ _ h => h) (Or.inl ⟨by rfl, ?_⟩) hHeld ?_
    · intro w hSw; (try dsimp only at hSw); go_simp
    try simp only [Act.put, List.setIfInBounds_toArray, List.set_cons_zero, List.set_cons_succ]
    refine wpAnyH_takeL (i := 21) (d := some 68) (v := .pointer (some ⟨g14, 1, none⟩)) rfl rfl (by kernel_rfl) (by kernel_rfl) (by kernel_rfl) (fun _ _ _ h => h) (Or.inl ⟨by rfl, ?_⟩) hHeld ?_
    · intro w hSw; (try dsimp only at hSw); go_simp
    try simp only [Act.put, List.setIfInBounds_toArray, List.set_cons_zero, List.set_cons_succ]
    refine wpAnyH_takeL (i := 22) (d := some 69) (v := .agg (lsA (X.l))) rfl rfl (by kernel_rfl) (by kernel_rfl) (by kernel_rfl) (fun _ _ _ h => h) (Or.inl ⟨by rfl, ?_⟩) hHeld ?_
    · intro w hSw; exact yl_part 43 _ g14 1 rfl (pt := lsA (X.l)) hSw.1 (siA_plc _) Try.underlying43 rfl Try.zLc
    try simp only [Act.put, List.setIfInBounds_toArray, List.set_cons_zero, List.set_cons_succ]
    refine wpAnyH_takeL (i := 23) (d := some 70) (v := .agg (siA s)) rfl rfl (by kernel_rfl) (by kernel_rfl) (by kernel_rfl) (fun _ _ _ h => h) (Or.inl ⟨by rfl, ?_⟩) hHeld ?_
    · intro w hSw; exact yl_whole 40 _ g1 rfl hSw.2.2.2 Try.underlying40 rfl Try.zSr
    try simp only [Act.put, List.setIfInBounds_toArray, List.set_cons_zero, List.set_cons_succ]
    refine wpAnyH_ready (rs := [24]) (by kernel_rfl) (by simp) ?_
    refine AllReadyH.cons rfl (fun K hK => ?_) AllReadyH.nil
    go_simp
    (with_reducible refine (side_c s _).mono ?_)
    rintro e u51 ⟨rfl, b51⟩
    have r53_s := le_on r49_s b51
    have r53_b := le_on r49_b b51
    have r53_x := le_on r49_x b51
    have r53_y := le_on r49_y b51
    have r53_z := le_on r49_z b51
    have l53 := le_tr l49 b51
    clear r49_s r49_b r49_x r49_y r49_z l49
    clear b51
    go_wp2_with fail
    have y54 := Lib.hid (show (fun V : World => CB V g14 45 (siA X) ∧ CB V g31 45 (siA X) ∧ CB V g40 45 (siA X) ∧ CB V g1 40 (siA s)) u51 from ⟨r53_x, r53_y, r53_z, r53_s⟩)
    refine hK.out _ _ y54.out (fun hHeld => ?_)
    clear hK K y54
    try simp only [Act.put, List.setIfInBounds_toArray, List.set_cons_zero, List.set_cons_succ]
    refine wpAnyH_takeL (i := 25) (d := some 72) (v := .agg (lsA s.l)) rfl rfl (by kernel_rfl) (by kernel_rfl) (by kernel_rfl) (fun _ _ _ h => h) (Or.inl ⟨by rfl, ?_⟩) hHeld ?_
    · intro w hSw; have hF := fld_sc s w; go_simp
    try simp only [Act.put, List.setIfInBounds_toArray, List.set_cons_zero, List.set_cons_succ]
    refine wpAnyH_takeL (i := 26) (d := some 73) (v := .bool true) rfl rfl (by kernel_rfl) (by kernel_rfl) (by kernel_rfl) (fun _ _ _ h => h) (Or.inl ⟨by rfl, ?_⟩) hHeld ?_
    · intro w hSw; have hE := EL w; go_simp
    try simp only [Act.put, List.setIfInBounds_toArray, List.set_cons_zero, List.set_cons_succ]
    refine wpAnyH_takeL (i := 27) (d := some 74) (v := .bool true) rfl rfl (by kernel_rfl) (by kernel_rfl) (by kernel_rfl) (fun _ _ _ h => h) (Or.inl ⟨by rfl, ?_⟩) hHeld ?_
    · intro w hSw; (try dsimp only at hSw); go_simp
    try simp only [Act.put, List.setIfInBounds_toArray, List.set_cons_zero, List.set_cons_succ]
    refine wpAnyH_takeL (i := 28) (d := some 4) (v := .bool true) rfl rfl (by kernel_rfl) (by kernel_rfl) (by kernel_rfl) (fun _ _ _ h => h) (Or.inl ⟨by rfl, ?_⟩) hHeld ?_
    · intro w hSw; (try dsimp only at hSw); go_simp
    try simp only [Act.put, List.setIfInBounds_toArray, List.set_cons_zero, List.set_cons_succ]
    refine wpAnyH_done (by kernel_rfl) ?_ _
    go_wp2_with fail
    go_ret
    exact ⟨rfl, l53⟩
end Go.Proofs.Ytfdboahcaiolgaa
