/-
  agent.rightBallot, the document's may, agent.follows. Conditions: the ballots can be read.
-/
import Derived.Test.YtfdboahcaiolgaaAgA
import Derived.Test.YtfdboahcaiolgaaMgA
set_option linter.unusedVariables false
set_option linter.unusedSimpArgs false
namespace Go.Proofs.Ytfdboahcaiolgaa
open Go.RowKit
open Dk (Nt InN RightN BoundN MsgN NoMsg KindN EpN bound_n)


set_option maxRecDepth 100000 in
set_option maxHeartbeats 4000000 in
theorem mayb_c (b : Bl) (w : World) : Calls Try.prog 38 #[.agg (btA b)] w fun zz w' => zz = .returned (.bool (decide (MayB b))) ∧ Below w.heap.size w w' := by
  by_cases d0 : 0 ≤ b.tx
  rotate_left
  · skip
    have H := Lib.hid (show decide (MayB b) = false from decide_eq_false (fun h => d0 h.1.1))
    have q0 : decide (0 ≤ b.tx) = false := decide_eq_false d0
    clear d0
    go_enter Try.func38, Try.ntmps38
    go_wp2_with (first | ((with_reducible refine st_box 49 _ (btA b) ?_ ?_); exact rfl))
    refine ⟨fun V1 g1 n1 f1 => ?_⟩
    have up1 : w.heap.size ≤ g1 := Nat.le_of_eq f1.at_
    have bl1 := f1.bel
    clear f1
    have l3 := le_tr (Below.refl _ _) bl1
    clear bl1
    have c4 : V1.cell? ⟨g1, 0, none⟩ = some (.int .i64 (b.tx)) := CB.cell n1 0
    have c5 : V1.cell? ⟨g1, 1, none⟩ = some (.int .i64 (b.vt)) := CB.cell n1 1
    go_wp2_with fail
    go_ret
    exact ⟨ret_bool H.out.symm, l3⟩
  by_cases d1 : b.tx < 1000
  rotate_left
  · skip
    have H := Lib.hid (show decide (MayB b) = false from decide_eq_false (fun h => d1 h.1.2))
    have q0 : decide (0 ≤ b.tx) = true := decide_eq_true d0
    have q1 : decide (b.tx < 1000) = false := decide_eq_false d1
    clear d0 d1
    go_enter Try.func38, Try.ntmps38
    go_wp2_with (first | ((with_reducible refine st_box 49 _ (btA b) ?_ ?_); exact rfl))
    refine ⟨fun V1 g1 n1 f1 => ?_⟩
    have up1 : w.heap.size ≤ g1 := Nat.le_of_eq f1.at_
    have bl1 := f1.bel
    clear f1
    have l3 := le_tr (Below.refl _ _) bl1
    clear bl1
    have c4 : V1.cell? ⟨g1, 0, none⟩ = some (.int .i64 (b.tx)) := CB.cell n1 0
    have c5 : V1.cell? ⟨g1, 1, none⟩ = some (.int .i64 (b.vt)) := CB.cell n1 1
    go_wp2_with fail
    go_ret
    exact ⟨ret_bool H.out.symm, l3⟩
  by_cases d2 : b.vt = 1
  · skip
    have H := Lib.hid (show decide (MayB b) = true from decide_eq_true ⟨⟨d0, d1⟩, .inl d2⟩)
    have q0 : decide (0 ≤ b.tx) = true := decide_eq_true d0
    have q1 : decide (b.tx < 1000) = true := decide_eq_true d1
    have q2 : (b.vt == 1) = true := by simp [d2]
    clear d0 d1 d2
    go_enter Try.func38, Try.ntmps38
    go_wp2_with (first | ((with_reducible refine st_box 49 _ (btA b) ?_ ?_); exact rfl))
    refine ⟨fun V1 g1 n1 f1 => ?_⟩
    have up1 : w.heap.size ≤ g1 := Nat.le_of_eq f1.at_
    have bl1 := f1.bel
    clear f1
    have l3 := le_tr (Below.refl _ _) bl1
    clear bl1
    have c4 : V1.cell? ⟨g1, 0, none⟩ = some (.int .i64 (b.tx)) := CB.cell n1 0
    have c5 : V1.cell? ⟨g1, 1, none⟩ = some (.int .i64 (b.vt)) := CB.cell n1 1
    go_wp2_with fail
    go_ret
    exact ⟨ret_bool H.out.symm, l3⟩
  by_cases d3 : b.vt = 2
  · skip
    have H := Lib.hid (show decide (MayB b) = true from decide_eq_true ⟨⟨d0, d1⟩, .inr d3⟩)
    have q0 : decide (0 ≤ b.tx) = true := decide_eq_true d0
    have q1 : decide (b.tx < 1000) = true := decide_eq_true d1
    have q2 : (b.vt == 1) = false := by simp [d2]
    have q3 : (b.vt == 2) = true := by simp [d3]
    clear d0 d1 d2 d3
    go_enter Try.func38, Try.ntmps38
    go_wp2_with (first | ((with_reducible refine st_box 49 _ (btA b) ?_ ?_); exact rfl))
    refine ⟨fun V1 g1 n1 f1 => ?_⟩
    have up1 : w.heap.size ≤ g1 := Nat.le_of_eq f1.at_
    have bl1 := f1.bel
    clear f1
    have l3 := le_tr (Below.refl _ _) bl1
    clear bl1
    have c4 : V1.cell? ⟨g1, 0, none⟩ = some (.int .i64 (b.tx)) := CB.cell n1 0
    have c5 : V1.cell? ⟨g1, 1, none⟩ = some (.int .i64 (b.vt)) := CB.cell n1 1
    go_wp2_with fail
    go_ret
    exact ⟨ret_bool H.out.symm, l3⟩
  have H := Lib.hid (show decide (MayB b) = false from decide_eq_false (fun h => h.2.elim d2 d3))
  have q0 : decide (0 ≤ b.tx) = true := decide_eq_true d0
  have q1 : decide (b.tx < 1000) = true := decide_eq_true d1
  have q2 : (b.vt == 1) = false := by simp [d2]
  have q3 : (b.vt == 2) = false := by simp [d3]
  clear d0 d1 d2 d3
  go_enter Try.func38, Try.ntmps38
  go_wp2_with (first | ((with_reducible refine st_box 49 _ (btA b) ?_ ?_); exact rfl))
  refine ⟨fun V1 g1 n1 f1 => ?_⟩
  have up1 : w.heap.size ≤ g1 := Nat.le_of_eq f1.at_
  have bl1 := f1.bel
  clear f1
  have l3 := le_tr (Below.refl _ _) bl1
  clear bl1
  have c4 : V1.cell? ⟨g1, 0, none⟩ = some (.int .i64 (b.tx)) := CB.cell n1 0
  have c5 : V1.cell? ⟨g1, 1, none⟩ = some (.int .i64 (b.vt)) := CB.cell n1 1
  go_wp2_with fail
  go_ret
  exact ⟨ret_bool H.out.symm, l3⟩
set_option maxRecDepth 100000 in
set_option maxHeartbeats 4000000 in
theorem mayb_r (b : Bl) (w : World) : Calls Try.prog 42 #[.agg (btA b)] w fun zz w' => zz = .returned (.bool (decide (MayB b))) ∧ Below w.heap.size w w' := by
  by_cases d0 : 0 ≤ b.tx
  rotate_left
  · skip
    have H := Lib.hid (show decide (MayB b) = false from decide_eq_false (fun h => d0 h.1.1))
    have q0 : decide (0 ≤ b.tx) = false := decide_eq_false d0
    clear d0
    go_enter Try.func42, Try.ntmps42
    go_wp2_with (first | ((with_reducible refine st_box 42 _ (btA b) ?_ ?_); exact rfl))
    refine ⟨fun V1 g1 n1 f1 => ?_⟩
    have up1 : w.heap.size ≤ g1 := Nat.le_of_eq f1.at_
    have bl1 := f1.bel
    clear f1
    have l3 := le_tr (Below.refl _ _) bl1
    clear bl1
    have c4 : V1.cell? ⟨g1, 0, none⟩ = some (.int .i64 (b.tx)) := CB.cell n1 0
    have c5 : V1.cell? ⟨g1, 1, none⟩ = some (.int .i64 (b.vt)) := CB.cell n1 1
    go_wp2_with fail
    go_ret
    exact ⟨ret_bool H.out.symm, l3⟩
  by_cases d1 : b.tx < 1000
  rotate_left
  · skip
    have H := Lib.hid (show decide (MayB b) = false from decide_eq_false (fun h => d1 h.1.2))
    have q0 : decide (0 ≤ b.tx) = true := decide_eq_true d0
    have q1 : decide (b.tx < 1000) = false := decide_eq_false d1
    clear d0 d1
    go_enter Try.func42, Try.ntmps42
    go_wp2_with (first | ((with_reducible refine st_box 42 _ (btA b) ?_ ?_); exact rfl))
    refine ⟨fun V1 g1 n1 f1 => ?_⟩
    have up1 : w.heap.size ≤ g1 := Nat.le_of_eq f1.at_
    have bl1 := f1.bel
    clear f1
    have l3 := le_tr (Below.refl _ _) bl1
    clear bl1
    have c4 : V1.cell? ⟨g1, 0, none⟩ = some (.int .i64 (b.tx)) := CB.cell n1 0
    have c5 : V1.cell? ⟨g1, 1, none⟩ = some (.int .i64 (b.vt)) := CB.cell n1 1
    go_wp2_with fail
    go_ret
    exact ⟨ret_bool H.out.symm, l3⟩
  by_cases d2 : b.vt = 1
  · skip
    have H := Lib.hid (show decide (MayB b) = true from decide_eq_true ⟨⟨d0, d1⟩, .inl d2⟩)
    have q0 : decide (0 ≤ b.tx) = true := decide_eq_true d0
    have q1 : decide (b.tx < 1000) = true := decide_eq_true d1
    have q2 : (b.vt == 1) = true := by simp [d2]
    clear d0 d1 d2
    go_enter Try.func42, Try.ntmps42
    go_wp2_with (first | ((with_reducible refine st_box 42 _ (btA b) ?_ ?_); exact rfl))
    refine ⟨fun V1 g1 n1 f1 => ?_⟩
    have up1 : w.heap.size ≤ g1 := Nat.le_of_eq f1.at_
    have bl1 := f1.bel
    clear f1
    have l3 := le_tr (Below.refl _ _) bl1
    clear bl1
    have c4 : V1.cell? ⟨g1, 0, none⟩ = some (.int .i64 (b.tx)) := CB.cell n1 0
    have c5 : V1.cell? ⟨g1, 1, none⟩ = some (.int .i64 (b.vt)) := CB.cell n1 1
    go_wp2_with fail
    go_ret
    exact ⟨ret_bool H.out.symm, l3⟩
  by_cases d3 : b.vt = 2
  · skip
    have H := Lib.hid (show decide (MayB b) = true from decide_eq_true ⟨⟨d0, d1⟩, .inr d3⟩)
    have q0 : decide (0 ≤ b.tx) = true := decide_eq_true d0
    have q1 : decide (b.tx < 1000) = true := decide_eq_true d1
    have q2 : (b.vt == 1) = false := by simp [d2]
    have q3 : (b.vt == 2) = true := by simp [d3]
    clear d0 d1 d2 d3
    go_enter Try.func42, Try.ntmps42
    go_wp2_with (first | ((with_reducible refine st_box 42 _ (btA b) ?_ ?_); exact rfl))
    refine ⟨fun V1 g1 n1 f1 => ?_⟩
    have up1 : w.heap.size ≤ g1 := Nat.le_of_eq f1.at_
    have bl1 := f1.bel
    clear f1
    have l3 := le_tr (Below.refl _ _) bl1
    clear bl1
    have c4 : V1.cell? ⟨g1, 0, none⟩ = some (.int .i64 (b.tx)) := CB.cell n1 0
    have c5 : V1.cell? ⟨g1, 1, none⟩ = some (.int .i64 (b.vt)) := CB.cell n1 1
    go_wp2_with fail
    go_ret
    exact ⟨ret_bool H.out.symm, l3⟩
  have H := Lib.hid (show decide (MayB b) = false from decide_eq_false (fun h => h.2.elim d2 d3))
  have q0 : decide (0 ≤ b.tx) = true := decide_eq_true d0
  have q1 : decide (b.tx < 1000) = true := decide_eq_true d1
  have q2 : (b.vt == 1) = false := by simp [d2]
  have q3 : (b.vt == 2) = false := by simp [d3]
  clear d0 d1 d2 d3
  go_enter Try.func42, Try.ntmps42
  go_wp2_with (first | ((with_reducible refine st_box 42 _ (btA b) ?_ ?_); exact rfl))
  refine ⟨fun V1 g1 n1 f1 => ?_⟩
  have up1 : w.heap.size ≤ g1 := Nat.le_of_eq f1.at_
  have bl1 := f1.bel
  clear f1
  have l3 := le_tr (Below.refl _ _) bl1
  clear bl1
  have c4 : V1.cell? ⟨g1, 0, none⟩ = some (.int .i64 (b.tx)) := CB.cell n1 0
  have c5 : V1.cell? ⟨g1, 1, none⟩ = some (.int .i64 (b.vt)) := CB.cell n1 1
  go_wp2_with fail
  go_ret
  exact ⟨ret_bool H.out.symm, l3⟩
set_option maxRecDepth 100000 in
set_option maxHeartbeats 4000000 in
theorem fol_c (A : Option Addr) (n q : Nat) (L : List Bl) (b : Bl) (w : World) (h : RR w dcl 2 A n q L) : Calls Try.prog 36 #[.slice A n q, .agg (btA b)] w fun zz w' => zz = .returned (.bool (decide (FolB L b))) ∧ Below w.heap.size w w' := by
  have hlen := h.len
  have hcap := h.cap
  have hmax := h.max
  simp only [maxLen] at hmax
  have CM := fun W => mayb_c b W
  have hx := RL.start h
  by_cases d0 : n < 50
  rotate_left
  · skip
    have H := Lib.hid (show decide (FolB L b) = false from decide_eq_false (fun hh => d0 (by rw [← hlen]; exact hh.1)))
    have q0 : decide ((n : Int) < 50) = false := by simp only [decide_eq_false_iff_not]; omega
    clear d0
    go_enter Try.func36, Try.ntmps36
    go_wp2_with (first | ((with_reducible refine st_box 49 _ (btA b) ?_ ?_); exact rfl))
    refine ⟨fun V1 g1 n1 f1 => ?_⟩
    have up1 : w.heap.size ≤ g1 := Nat.le_of_eq f1.at_
    have bl1 := f1.bel
    clear f1
    have r3_l := (hx).on bl1
    have l3 := le_tr (Below.refl _ _) bl1
    clear hx
    clear bl1
    go_wp2_with fail
    have y4 := Lib.hid (show (fun V : World => CB V g1 49 (btA b) ∧ RL w V dcl 2 A n q L) V1.drew from ⟨CB.drew n1, (r3_l).drew⟩)
    refine wp_region_held_drew (S := (fun V : World => CB V g1 49 (btA b) ∧ RL w V dcl 2 A n q L)) (by kernel_rfl) y4.out (fun hHeld => ?_)
    obtain ⟨D4, hD4⟩ : ∃ V, V1.drew = V := ⟨_, rfl⟩
    have b4 : Below V1.heap.size V1 D4 := by rw [← hD4]; exact le_dr (Below.refl _ _)
    rw [hD4] at hHeld ⊢
    clear hD4
    have r6_b := le_on n1 b4
    have r6_l := (r3_l).on b4
    have l6 := le_tr l3 b4
    clear n1 r3_l l3
    clear b4
    refine wpAnyH_takeL (i := 0) (d := some 8) (v := .int .i64 (n : Int)) rfl rfl (by kernel_rfl) (by kernel_rfl) (by kernel_rfl) (fun _ _ _ h => h) (Or.inl ⟨by rfl, ?_⟩) hHeld ?_
    · intro w hSw; (try dsimp only at hSw); go_simp
    try simp only [Act.put, List.setIfInBounds_toArray, List.set_cons_zero, List.set_cons_succ]
    refine wpAnyH_takeL (i := 1) (d := some 9) (v := .bool false) rfl rfl (by kernel_rfl) (by kernel_rfl) (by kernel_rfl) (fun _ _ _ h => h) (Or.inl ⟨by rfl, ?_⟩) hHeld ?_
    · intro w hSw; (try dsimp only at hSw); go_simp
    try simp only [Act.put, List.setIfInBounds_toArray, List.set_cons_zero, List.set_cons_succ]
    refine wpAnyH_takeL (i := 2) (d := some 10) (v := .bool false) rfl rfl (by kernel_rfl) (by kernel_rfl) (by kernel_rfl) (fun _ _ _ h => h) (Or.inl ⟨by rfl, ?_⟩) hHeld ?_
    · intro w hSw; (try dsimp only at hSw); go_simp
    try simp only [Act.put, List.setIfInBounds_toArray, List.set_cons_zero, List.set_cons_succ]
    refine wpAnyH_takeL (i := 3) (d := some 11) (v := undef) rfl rfl (by kernel_rfl) (by kernel_rfl) (by kernel_rfl) (fun _ _ _ h => h) (Or.inr ⟨by kernel_rfl, rfl⟩) hHeld ?_
    try simp only [Act.put, List.setIfInBounds_toArray, List.set_cons_zero, List.set_cons_succ]
    refine wpAnyH_takeL (i := 4) (d := some 12) (v := undef) rfl rfl (by kernel_rfl) (by kernel_rfl) (by kernel_rfl) (fun _ _ _ h => h) (Or.inr ⟨by kernel_rfl, rfl⟩) hHeld ?_
    try simp only [Act.put, List.setIfInBounds_toArray, List.set_cons_zero, List.set_cons_succ]
    refine wpAnyH_takeL (i := 5) (d := some 13) (v := .bool false) rfl rfl (by kernel_rfl) (by kernel_rfl) (by kernel_rfl) (fun _ _ _ h => h) (Or.inl ⟨by rfl, ?_⟩) hHeld ?_
    · intro w hSw; (try dsimp only at hSw); go_simp
    try simp only [Act.put, List.setIfInBounds_toArray, List.set_cons_zero, List.set_cons_succ]
    refine wpAnyH_takeL (i := 6) (d := some 14) (v := .bool false) rfl rfl (by kernel_rfl) (by kernel_rfl) (by kernel_rfl) (fun _ _ _ h => h) (Or.inl ⟨by rfl, ?_⟩) hHeld ?_
    · intro w hSw; (try dsimp only at hSw); go_simp
    try simp only [Act.put, List.setIfInBounds_toArray, List.set_cons_zero, List.set_cons_succ]
    refine wpAnyH_takeL (i := 7) (d := some 15) (v := undef) rfl rfl (by kernel_rfl) (by kernel_rfl) (by kernel_rfl) (fun _ _ _ h => h) (Or.inr ⟨by kernel_rfl, rfl⟩) hHeld ?_
    try simp only [Act.put, List.setIfInBounds_toArray, List.set_cons_zero, List.set_cons_succ]
    refine wpAnyH_takeL (i := 8) (d := some 16) (v := undef) rfl rfl (by kernel_rfl) (by kernel_rfl) (by kernel_rfl) (fun _ _ _ h => h) (Or.inr ⟨by kernel_rfl, rfl⟩) hHeld ?_
    try simp only [Act.put, List.setIfInBounds_toArray, List.set_cons_zero, List.set_cons_succ]
    refine wpAnyH_takeL (i := 9) (d := some 17) (v := undef) rfl rfl (by kernel_rfl) (by kernel_rfl) (by kernel_rfl) (fun _ _ _ h => h) (Or.inr ⟨by kernel_rfl, rfl⟩) hHeld ?_
    try simp only [Act.put, List.setIfInBounds_toArray, List.set_cons_zero, List.set_cons_succ]
    refine wpAnyH_takeL (i := 10) (d := some 18) (v := undef) rfl rfl (by kernel_rfl) (by kernel_rfl) (by kernel_rfl) (fun _ _ _ h => h) (Or.inr ⟨by kernel_rfl, rfl⟩) hHeld ?_
    try simp only [Act.put, List.setIfInBounds_toArray, List.set_cons_zero, List.set_cons_succ]
    refine wpAnyH_takeL (i := 11) (d := some 19) (v := undef) rfl rfl (by kernel_rfl) (by kernel_rfl) (by kernel_rfl) (fun _ _ _ h => h) (Or.inr ⟨by kernel_rfl, rfl⟩) hHeld ?_
    try simp only [Act.put, List.setIfInBounds_toArray, List.set_cons_zero, List.set_cons_succ]
    refine wpAnyH_takeL (i := 12) (d := some 20) (v := undef) rfl rfl (by kernel_rfl) (by kernel_rfl) (by kernel_rfl) (fun _ _ _ h => h) (Or.inr ⟨by kernel_rfl, rfl⟩) hHeld ?_
    try simp only [Act.put, List.setIfInBounds_toArray, List.set_cons_zero, List.set_cons_succ]
    refine wpAnyH_takeL (i := 13) (d := some 21) (v := undef) rfl rfl (by kernel_rfl) (by kernel_rfl) (by kernel_rfl) (fun _ _ _ h => h) (Or.inr ⟨by kernel_rfl, rfl⟩) hHeld ?_
    try simp only [Act.put, List.setIfInBounds_toArray, List.set_cons_zero, List.set_cons_succ]
    refine wpAnyH_takeL (i := 14) (d := some 22) (v := undef) rfl rfl (by kernel_rfl) (by kernel_rfl) (by kernel_rfl) (fun _ _ _ h => h) (Or.inr ⟨by kernel_rfl, rfl⟩) hHeld ?_
    try simp only [Act.put, List.setIfInBounds_toArray, List.set_cons_zero, List.set_cons_succ]
    refine wpAnyH_takeL (i := 15) (d := some 23) (v := undef) rfl rfl (by kernel_rfl) (by kernel_rfl) (by kernel_rfl) (fun _ _ _ h => h) (Or.inr ⟨by kernel_rfl, rfl⟩) hHeld ?_
    try simp only [Act.put, List.setIfInBounds_toArray, List.set_cons_zero, List.set_cons_succ]
    refine wpAnyH_takeL (i := 16) (d := some 24) (v := undef) rfl rfl (by kernel_rfl) (by kernel_rfl) (by kernel_rfl) (fun _ _ _ h => h) (Or.inr ⟨by kernel_rfl, rfl⟩) hHeld ?_
    try simp only [Act.put, List.setIfInBounds_toArray, List.set_cons_zero, List.set_cons_succ]
    refine wpAnyH_takeL (i := 17) (d := some 25) (v := undef) rfl rfl (by kernel_rfl) (by kernel_rfl) (by kernel_rfl) (fun _ _ _ h => h) (Or.inr ⟨by kernel_rfl, rfl⟩) hHeld ?_
    try simp only [Act.put, List.setIfInBounds_toArray, List.set_cons_zero, List.set_cons_succ]
    refine wpAnyH_takeL (i := 18) (d := some 26) (v := undef) rfl rfl (by kernel_rfl) (by kernel_rfl) (by kernel_rfl) (fun _ _ _ h => h) (Or.inr ⟨by kernel_rfl, rfl⟩) hHeld ?_
    try simp only [Act.put, List.setIfInBounds_toArray, List.set_cons_zero, List.set_cons_succ]
    refine wpAnyH_takeL (i := 19) (d := some 27) (v := undef) rfl rfl (by kernel_rfl) (by kernel_rfl) (by kernel_rfl) (fun _ _ _ h => h) (Or.inr ⟨by kernel_rfl, rfl⟩) hHeld ?_
    try simp only [Act.put, List.setIfInBounds_toArray, List.set_cons_zero, List.set_cons_succ]
    refine wpAnyH_takeL (i := 20) (d := some 28) (v := .bool false) rfl rfl (by kernel_rfl) (by kernel_rfl) (by kernel_rfl) (fun _ _ _ h => h) (Or.inl ⟨by rfl, ?_⟩) hHeld ?_
    · intro w hSw; (try dsimp only at hSw); go_simp
    try simp only [Act.put, List.setIfInBounds_toArray, List.set_cons_zero, List.set_cons_succ]
    refine wpAnyH_takeL (i := 21) (d := some 4) (v := .bool false) rfl rfl (by kernel_rfl) (by kernel_rfl) (by kernel_rfl) (fun _ _ _ h => h) (Or.inl ⟨by rfl, ?_⟩) hHeld ?_
    · intro w hSw; (try dsimp only at hSw); go_simp
    try simp only [Act.put, List.setIfInBounds_toArray, List.set_cons_zero, List.set_cons_succ]
    refine wpAnyH_done (by kernel_rfl) ?_ _
    go_wp2_with fail
    go_ret
    exact ⟨ret_bool H.out.symm, l6⟩
  have q0 : decide ((n : Int) < 50) = true := by rw [decide_eq_true_iff]; omega
  by_cases d1 : MayB b
  rotate_left
  · skip
    have H := Lib.hid (show decide (FolB L b) = false from decide_eq_false (fun hh => d1 hh.2.1))
    simp only [decide_eq_false d1] at CM
    clear d1
    go_enter Try.func36, Try.ntmps36
    go_wp2_with (first | ((with_reducible refine st_box 49 _ (btA b) ?_ ?_); exact rfl))
    refine ⟨fun V1 g1 n1 f1 => ?_⟩
    have up1 : w.heap.size ≤ g1 := Nat.le_of_eq f1.at_
    have bl1 := f1.bel
    clear f1
    have r3_l := (hx).on bl1
    have l3 := le_tr (Below.refl _ _) bl1
    clear hx
    clear bl1
    go_wp2_with fail
    have y4 := Lib.hid (show (fun V : World => CB V g1 49 (btA b) ∧ RL w V dcl 2 A n q L) V1.drew from ⟨CB.drew n1, (r3_l).drew⟩)
    refine wp_region_held_drew (S := (fun V : World => CB V g1 49 (btA b) ∧ RL w V dcl 2 A n q L)) (by kernel_rfl) y4.out (fun hHeld => ?_)
    obtain ⟨D4, hD4⟩ : ∃ V, V1.drew = V := ⟨_, rfl⟩
    have b4 : Below V1.heap.size V1 D4 := by rw [← hD4]; exact le_dr (Below.refl _ _)
    rw [hD4] at hHeld ⊢
    clear hD4
    have r6_b := le_on n1 b4
    have r6_l := (r3_l).on b4
    have l6 := le_tr l3 b4
    clear n1 r3_l l3
    clear b4
    refine wpAnyH_takeL (i := 0) (d := some 8) (v := .int .i64 (n : Int)) rfl rfl (by kernel_rfl) (by kernel_rfl) (by kernel_rfl) (fun _ _ _ h => h) (Or.inl ⟨by rfl, ?_⟩) hHeld ?_
    · intro w hSw; (try dsimp only at hSw); go_simp
    try simp only [Act.put, List.setIfInBounds_toArray, List.set_cons_zero, List.set_cons_succ]
    refine wpAnyH_takeL (i := 1) (d := some 9) (v := .bool true) rfl rfl (by kernel_rfl) (by kernel_rfl) (by kernel_rfl) (fun _ _ _ h => h) (Or.inl ⟨by rfl, ?_⟩) hHeld ?_
    · intro w hSw; (try dsimp only at hSw); go_simp
    try simp only [Act.put, List.setIfInBounds_toArray, List.set_cons_zero, List.set_cons_succ]
    refine wpAnyH_takeL (i := 2) (d := some 10) (v := .bool true) rfl rfl (by kernel_rfl) (by kernel_rfl) (by kernel_rfl) (fun _ _ _ h => h) (Or.inl ⟨by rfl, ?_⟩) hHeld ?_
    · intro w hSw; (try dsimp only at hSw); go_simp
    try simp only [Act.put, List.setIfInBounds_toArray, List.set_cons_zero, List.set_cons_succ]
    refine wpAnyH_takeL (i := 3) (d := some 11) (v := .agg (btA b)) rfl rfl (by kernel_rfl) (by kernel_rfl) (by kernel_rfl) (fun _ _ _ h => h) (Or.inl ⟨by rfl, ?_⟩) hHeld ?_
    · intro w hSw; exact yl_whole 49 _ g1 rfl hSw.1 Try.underlying49 rfl Try.zBc
    try simp only [Act.put, List.setIfInBounds_toArray, List.set_cons_zero, List.set_cons_succ]
    refine wpAnyH_ready (rs := [4]) (by kernel_rfl) (by simp) ?_
    refine AllReadyH.cons rfl (fun K hK => ?_) AllReadyH.nil
    go_simp
    (with_reducible refine (CM _).mono ?_)
    rintro e u7 ⟨rfl, b7⟩
    have r9_b := le_on r6_b b7
    have r9_l := (r6_l).on b7
    have l9 := le_tr l6 b7
    clear r6_b r6_l l6
    clear b7
    go_wp2_with fail
    have y10 := Lib.hid (show (fun V : World => CB V g1 49 (btA b) ∧ RL w V dcl 2 A n q L) u7 from ⟨r9_b, r9_l⟩)
    refine hK.out _ _ y10.out (fun hHeld => ?_)
    clear hK K y10
    try simp only [Act.put, List.setIfInBounds_toArray, List.set_cons_zero, List.set_cons_succ]
    refine wpAnyH_takeL (i := 5) (d := some 13) (v := .bool false) rfl rfl (by kernel_rfl) (by kernel_rfl) (by kernel_rfl) (fun _ _ _ h => h) (Or.inl ⟨by rfl, ?_⟩) hHeld ?_
    · intro w hSw; (try dsimp only at hSw); go_simp
    try simp only [Act.put, List.setIfInBounds_toArray, List.set_cons_zero, List.set_cons_succ]
    refine wpAnyH_takeL (i := 6) (d := some 14) (v := .bool false) rfl rfl (by kernel_rfl) (by kernel_rfl) (by kernel_rfl) (fun _ _ _ h => h) (Or.inl ⟨by rfl, ?_⟩) hHeld ?_
    · intro w hSw; (try dsimp only at hSw); go_simp
    try simp only [Act.put, List.setIfInBounds_toArray, List.set_cons_zero, List.set_cons_succ]
    refine wpAnyH_takeL (i := 7) (d := some 15) (v := undef) rfl rfl (by kernel_rfl) (by kernel_rfl) (by kernel_rfl) (fun _ _ _ h => h) (Or.inr ⟨by kernel_rfl, rfl⟩) hHeld ?_
    try simp only [Act.put, List.setIfInBounds_toArray, List.set_cons_zero, List.set_cons_succ]
    refine wpAnyH_takeL (i := 8) (d := some 16) (v := undef) rfl rfl (by kernel_rfl) (by kernel_rfl) (by kernel_rfl) (fun _ _ _ h => h) (Or.inr ⟨by kernel_rfl, rfl⟩) hHeld ?_
    try simp only [Act.put, List.setIfInBounds_toArray, List.set_cons_zero, List.set_cons_succ]
    refine wpAnyH_takeL (i := 9) (d := some 17) (v := undef) rfl rfl (by kernel_rfl) (by kernel_rfl) (by kernel_rfl) (fun _ _ _ h => h) (Or.inr ⟨by kernel_rfl, rfl⟩) hHeld ?_
    try simp only [Act.put, List.setIfInBounds_toArray, List.set_cons_zero, List.set_cons_succ]
    refine wpAnyH_takeL (i := 10) (d := some 18) (v := undef) rfl rfl (by kernel_rfl) (by kernel_rfl) (by kernel_rfl) (fun _ _ _ h => h) (Or.inr ⟨by kernel_rfl, rfl⟩) hHeld ?_
    try simp only [Act.put, List.setIfInBounds_toArray, List.set_cons_zero, List.set_cons_succ]
    refine wpAnyH_takeL (i := 11) (d := some 19) (v := undef) rfl rfl (by kernel_rfl) (by kernel_rfl) (by kernel_rfl) (fun _ _ _ h => h) (Or.inr ⟨by kernel_rfl, rfl⟩) hHeld ?_
    try simp only [Act.put, List.setIfInBounds_toArray, List.set_cons_zero, List.set_cons_succ]
    refine wpAnyH_takeL (i := 12) (d := some 20) (v := undef) rfl rfl (by kernel_rfl) (by kernel_rfl) (by kernel_rfl) (fun _ _ _ h => h) (Or.inr ⟨by kernel_rfl, rfl⟩) hHeld ?_
    try simp only [Act.put, List.setIfInBounds_toArray, List.set_cons_zero, List.set_cons_succ]
    refine wpAnyH_takeL (i := 13) (d := some 21) (v := undef) rfl rfl (by kernel_rfl) (by kernel_rfl) (by kernel_rfl) (fun _ _ _ h => h) (Or.inr ⟨by kernel_rfl, rfl⟩) hHeld ?_
    try simp only [Act.put, List.setIfInBounds_toArray, List.set_cons_zero, List.set_cons_succ]
    refine wpAnyH_takeL (i := 14) (d := some 22) (v := undef) rfl rfl (by kernel_rfl) (by kernel_rfl) (by kernel_rfl) (fun _ _ _ h => h) (Or.inr ⟨by kernel_rfl, rfl⟩) hHeld ?_
    try simp only [Act.put, List.setIfInBounds_toArray, List.set_cons_zero, List.set_cons_succ]
    refine wpAnyH_takeL (i := 15) (d := some 23) (v := undef) rfl rfl (by kernel_rfl) (by kernel_rfl) (by kernel_rfl) (fun _ _ _ h => h) (Or.inr ⟨by kernel_rfl, rfl⟩) hHeld ?_
    try simp only [Act.put, List.setIfInBounds_toArray, List.set_cons_zero, List.set_cons_succ]
    refine wpAnyH_takeL (i := 16) (d := some 24) (v := undef) rfl rfl (by kernel_rfl) (by kernel_rfl) (by kernel_rfl) (fun _ _ _ h => h) (Or.inr ⟨by kernel_rfl, rfl⟩) hHeld ?_
    try simp only [Act.put, List.setIfInBounds_toArray, List.set_cons_zero, List.set_cons_succ]
    refine wpAnyH_takeL (i := 17) (d := some 25) (v := undef) rfl rfl (by kernel_rfl) (by kernel_rfl) (by kernel_rfl) (fun _ _ _ h => h) (Or.inr ⟨by kernel_rfl, rfl⟩) hHeld ?_
    try simp only [Act.put, List.setIfInBounds_toArray, List.set_cons_zero, List.set_cons_succ]
    refine wpAnyH_takeL (i := 18) (d := some 26) (v := undef) rfl rfl (by kernel_rfl) (by kernel_rfl) (by kernel_rfl) (fun _ _ _ h => h) (Or.inr ⟨by kernel_rfl, rfl⟩) hHeld ?_
    try simp only [Act.put, List.setIfInBounds_toArray, List.set_cons_zero, List.set_cons_succ]
    refine wpAnyH_takeL (i := 19) (d := some 27) (v := undef) rfl rfl (by kernel_rfl) (by kernel_rfl) (by kernel_rfl) (fun _ _ _ h => h) (Or.inr ⟨by kernel_rfl, rfl⟩) hHeld ?_
    try simp only [Act.put, List.setIfInBounds_toArray, List.set_cons_zero, List.set_cons_succ]
    refine wpAnyH_takeL (i := 20) (d := some 28) (v := .bool false) rfl rfl (by kernel_rfl) (by kernel_rfl) (by kernel_rfl) (fun _ _ _ h => h) (Or.inl ⟨by rfl, ?_⟩) hHeld ?_
    · intro w hSw; (try dsimp only at hSw); go_simp
    try simp only [Act.put, List.setIfInBounds_toArray, List.set_cons_zero, List.set_cons_succ]
    refine wpAnyH_takeL (i := 21) (d := some 4) (v := .bool false) rfl rfl (by kernel_rfl) (by kernel_rfl) (by kernel_rfl) (fun _ _ _ h => h) (Or.inl ⟨by rfl, ?_⟩) hHeld ?_
    · intro w hSw; (try dsimp only at hSw); go_simp
    try simp only [Act.put, List.setIfInBounds_toArray, List.set_cons_zero, List.set_cons_succ]
    refine wpAnyH_done (by kernel_rfl) ?_ _
    go_wp2_with fail
    go_ret
    exact ⟨ret_bool H.out.symm, l9⟩
  by_cases d2 : n = 0
  · skip
    have hL : L = [] := List.eq_nil_of_length_eq_zero (by omega)
    have H := Lib.hid (show decide (FolB L b) = true from decide_eq_true ⟨by omega, d1, by rw [hL]; exact lst_nil b⟩)
    have q2 : ((n : Int) == 0) = true := by simp [d2]
    simp only [decide_eq_true d1] at CM
    clear d1 d2 hL
    go_enter Try.func36, Try.ntmps36
    go_wp2_with (first | ((with_reducible refine st_box 49 _ (btA b) ?_ ?_); exact rfl))
    refine ⟨fun V1 g1 n1 f1 => ?_⟩
    have up1 : w.heap.size ≤ g1 := Nat.le_of_eq f1.at_
    have bl1 := f1.bel
    clear f1
    have r3_l := (hx).on bl1
    have l3 := le_tr (Below.refl _ _) bl1
    clear hx
    clear bl1
    go_wp2_with fail
    have y4 := Lib.hid (show (fun V : World => CB V g1 49 (btA b) ∧ RL w V dcl 2 A n q L) V1.drew from ⟨CB.drew n1, (r3_l).drew⟩)
    refine wp_region_held_drew (S := (fun V : World => CB V g1 49 (btA b) ∧ RL w V dcl 2 A n q L)) (by kernel_rfl) y4.out (fun hHeld => ?_)
    obtain ⟨D4, hD4⟩ : ∃ V, V1.drew = V := ⟨_, rfl⟩
    have b4 : Below V1.heap.size V1 D4 := by rw [← hD4]; exact le_dr (Below.refl _ _)
    rw [hD4] at hHeld ⊢
    clear hD4
    have r6_b := le_on n1 b4
    have r6_l := (r3_l).on b4
    have l6 := le_tr l3 b4
    clear n1 r3_l l3
    clear b4
    refine wpAnyH_takeL (i := 0) (d := some 8) (v := .int .i64 (n : Int)) rfl rfl (by kernel_rfl) (by kernel_rfl) (by kernel_rfl) (fun _ _ _ h => h) (Or.inl ⟨by rfl, ?_⟩) hHeld ?_
    · intro w hSw; (try dsimp only at hSw); go_simp
    try simp only [Act.put, List.setIfInBounds_toArray, List.set_cons_zero, List.set_cons_succ]
    refine wpAnyH_takeL (i := 1) (d := some 9) (v := .bool true) rfl rfl (by kernel_rfl) (by kernel_rfl) (by kernel_rfl) (fun _ _ _ h => h) (Or.inl ⟨by rfl, ?_⟩) hHeld ?_
    · intro w hSw; (try dsimp only at hSw); go_simp
    try simp only [Act.put, List.setIfInBounds_toArray, List.set_cons_zero, List.set_cons_succ]
    refine wpAnyH_takeL (i := 2) (d := some 10) (v := .bool true) rfl rfl (by kernel_rfl) (by kernel_rfl) (by kernel_rfl) (fun _ _ _ h => h) (Or.inl ⟨by rfl, ?_⟩) hHeld ?_
    · intro w hSw; (try dsimp only at hSw); go_simp
    try simp only [Act.put, List.setIfInBounds_toArray, List.set_cons_zero, List.set_cons_succ]
    refine wpAnyH_takeL (i := 3) (d := some 11) (v := .agg (btA b)) rfl rfl (by kernel_rfl) (by kernel_rfl) (by kernel_rfl) (fun _ _ _ h => h) (Or.inl ⟨by rfl, ?_⟩) hHeld ?_
    · intro w hSw; exact yl_whole 49 _ g1 rfl hSw.1 Try.underlying49 rfl Try.zBc
    try simp only [Act.put, List.setIfInBounds_toArray, List.set_cons_zero, List.set_cons_succ]
    refine wpAnyH_ready (rs := [4]) (by kernel_rfl) (by simp) ?_
    refine AllReadyH.cons rfl (fun K hK => ?_) AllReadyH.nil
    go_simp
    (with_reducible refine (CM _).mono ?_)
    rintro e u7 ⟨rfl, b7⟩
    have r9_b := le_on r6_b b7
    have r9_l := (r6_l).on b7
    have l9 := le_tr l6 b7
    clear r6_b r6_l l6
    clear b7
    go_wp2_with fail
    have y10 := Lib.hid (show (fun V : World => CB V g1 49 (btA b) ∧ RL w V dcl 2 A n q L) u7 from ⟨r9_b, r9_l⟩)
    refine hK.out _ _ y10.out (fun hHeld => ?_)
    clear hK K y10
    try simp only [Act.put, List.setIfInBounds_toArray, List.set_cons_zero, List.set_cons_succ]
    refine wpAnyH_takeL (i := 5) (d := some 13) (v := .bool true) rfl rfl (by kernel_rfl) (by kernel_rfl) (by kernel_rfl) (fun _ _ _ h => h) (Or.inl ⟨by rfl, ?_⟩) hHeld ?_
    · intro w hSw; (try dsimp only at hSw); go_simp
    try simp only [Act.put, List.setIfInBounds_toArray, List.set_cons_zero, List.set_cons_succ]
    refine wpAnyH_takeL (i := 6) (d := some 14) (v := .bool true) rfl rfl (by kernel_rfl) (by kernel_rfl) (by kernel_rfl) (fun _ _ _ h => h) (Or.inl ⟨by rfl, ?_⟩) hHeld ?_
    · intro w hSw; (try dsimp only at hSw); go_simp
    try simp only [Act.put, List.setIfInBounds_toArray, List.set_cons_zero, List.set_cons_succ]
    refine wpAnyH_takeL (i := 7) (d := some 15) (v := .int .i64 (n : Int)) rfl rfl (by kernel_rfl) (by kernel_rfl) (by kernel_rfl) (fun _ _ _ h => h) (Or.inl ⟨by rfl, ?_⟩) hHeld ?_
    · intro w hSw; (try dsimp only at hSw); go_simp
    try simp only [Act.put, List.setIfInBounds_toArray, List.set_cons_zero, List.set_cons_succ]
    refine wpAnyH_takeL (i := 8) (d := some 16) (v := .bool true) rfl rfl (by kernel_rfl) (by kernel_rfl) (by kernel_rfl) (fun _ _ _ h => h) (Or.inl ⟨by rfl, ?_⟩) hHeld ?_
    · intro w hSw; (try dsimp only at hSw); go_simp
    try simp only [Act.put, List.setIfInBounds_toArray, List.set_cons_zero, List.set_cons_succ]
    refine wpAnyH_takeL (i := 9) (d := some 17) (v := .bool true) rfl rfl (by kernel_rfl) (by kernel_rfl) (by kernel_rfl) (fun _ _ _ h => h) (Or.inl ⟨by rfl, ?_⟩) hHeld ?_
    · intro w hSw; (try dsimp only at hSw); go_simp
    try simp only [Act.put, List.setIfInBounds_toArray, List.set_cons_zero, List.set_cons_succ]
    refine wpAnyH_takeL (i := 10) (d := some 18) (v := undef) rfl rfl (by kernel_rfl) (by kernel_rfl) (by kernel_rfl) (fun _ _ _ h => h) (Or.inr ⟨by kernel_rfl, rfl⟩) hHeld ?_
    try simp only [Act.put, List.setIfInBounds_toArray, List.set_cons_zero, List.set_cons_succ]
    refine wpAnyH_takeL (i := 11) (d := some 19) (v := undef) rfl rfl (by kernel_rfl) (by kernel_rfl) (by kernel_rfl) (fun _ _ _ h => h) (Or.inr ⟨by kernel_rfl, rfl⟩) hHeld ?_
    try simp only [Act.put, List.setIfInBounds_toArray, List.set_cons_zero, List.set_cons_succ]
    refine wpAnyH_takeL (i := 12) (d := some 20) (v := undef) rfl rfl (by kernel_rfl) (by kernel_rfl) (by kernel_rfl) (fun _ _ _ h => h) (Or.inr ⟨by kernel_rfl, rfl⟩) hHeld ?_
    try simp only [Act.put, List.setIfInBounds_toArray, List.set_cons_zero, List.set_cons_succ]
    refine wpAnyH_takeL (i := 13) (d := some 21) (v := undef) rfl rfl (by kernel_rfl) (by kernel_rfl) (by kernel_rfl) (fun _ _ _ h => h) (Or.inr ⟨by kernel_rfl, rfl⟩) hHeld ?_
    try simp only [Act.put, List.setIfInBounds_toArray, List.set_cons_zero, List.set_cons_succ]
    refine wpAnyH_takeL (i := 14) (d := some 22) (v := undef) rfl rfl (by kernel_rfl) (by kernel_rfl) (by kernel_rfl) (fun _ _ _ h => h) (Or.inr ⟨by kernel_rfl, rfl⟩) hHeld ?_
    try simp only [Act.put, List.setIfInBounds_toArray, List.set_cons_zero, List.set_cons_succ]
    refine wpAnyH_takeL (i := 15) (d := some 23) (v := undef) rfl rfl (by kernel_rfl) (by kernel_rfl) (by kernel_rfl) (fun _ _ _ h => h) (Or.inr ⟨by kernel_rfl, rfl⟩) hHeld ?_
    try simp only [Act.put, List.setIfInBounds_toArray, List.set_cons_zero, List.set_cons_succ]
    refine wpAnyH_takeL (i := 16) (d := some 24) (v := undef) rfl rfl (by kernel_rfl) (by kernel_rfl) (by kernel_rfl) (fun _ _ _ h => h) (Or.inr ⟨by kernel_rfl, rfl⟩) hHeld ?_
    try simp only [Act.put, List.setIfInBounds_toArray, List.set_cons_zero, List.set_cons_succ]
    refine wpAnyH_takeL (i := 17) (d := some 25) (v := undef) rfl rfl (by kernel_rfl) (by kernel_rfl) (by kernel_rfl) (fun _ _ _ h => h) (Or.inr ⟨by kernel_rfl, rfl⟩) hHeld ?_
    try simp only [Act.put, List.setIfInBounds_toArray, List.set_cons_zero, List.set_cons_succ]
    refine wpAnyH_takeL (i := 18) (d := some 26) (v := undef) rfl rfl (by kernel_rfl) (by kernel_rfl) (by kernel_rfl) (fun _ _ _ h => h) (Or.inr ⟨by kernel_rfl, rfl⟩) hHeld ?_
    try simp only [Act.put, List.setIfInBounds_toArray, List.set_cons_zero, List.set_cons_succ]
    refine wpAnyH_takeL (i := 19) (d := some 27) (v := .bool true) rfl rfl (by kernel_rfl) (by kernel_rfl) (by kernel_rfl) (fun _ _ _ h => h) (Or.inl ⟨by rfl, ?_⟩) hHeld ?_
    · intro w hSw; (try dsimp only at hSw); go_simp
    try simp only [Act.put, List.setIfInBounds_toArray, List.set_cons_zero, List.set_cons_succ]
    refine wpAnyH_takeL (i := 20) (d := some 28) (v := .bool true) rfl rfl (by kernel_rfl) (by kernel_rfl) (by kernel_rfl) (fun _ _ _ h => h) (Or.inl ⟨by rfl, ?_⟩) hHeld ?_
    · intro w hSw; (try dsimp only at hSw); go_simp
    try simp only [Act.put, List.setIfInBounds_toArray, List.set_cons_zero, List.set_cons_succ]
    refine wpAnyH_takeL (i := 21) (d := some 4) (v := .bool true) rfl rfl (by kernel_rfl) (by kernel_rfl) (by kernel_rfl) (fun _ _ _ h => h) (Or.inl ⟨by rfl, ?_⟩) hHeld ?_
    · intro w hSw; (try dsimp only at hSw); go_simp
    try simp only [Act.put, List.setIfInBounds_toArray, List.set_cons_zero, List.set_cons_succ]
    refine wpAnyH_done (by kernel_rfl) ?_ _
    go_wp2_with fail
    go_ret
    exact ⟨ret_bool H.out.symm, l9⟩
  have q2 : ((n : Int) == 0) = false := by simp [d2]
  obtain ⟨p, hp⟩ : ∃ p, n = p + 1 := ⟨n - 1, by omega⟩
  obtain ⟨g, off, x, hxp, hA, _⟩ := h.elem (show p < n by omega)
  subst hA
  have w1 : IntKind.i64.wrap ((n : Int) - 1) = (p : Int) := by rw [show (n : Int) - 1 = (p : Int) by omega]; exact IntWalk.i64_in _ (by omega)
  have H := Lib.hid (show decide (FolB L b) = decide (x.tx < b.tx) by rw [Bool.eq_iff_iff, decide_eq_true_iff, decide_eq_true_iff]; exact ⟨fun hh => (lst_at (by omega) hxp).1 hh.2.2, fun hh => ⟨by omega, d1, (lst_at (by omega) hxp).2 hh⟩⟩)
  have w2 : (n : Int) - 1 = (p : Int) := by omega
  have w3 : p < n := by omega
  have W2 := Lib.hid w2
  simp only [decide_eq_true d1] at CM
  clear d1 d2 hp w2 hlen
  go_enter Try.func36, Try.ntmps36
  go_wp2_with (first | ((with_reducible refine st_box 49 _ (btA b) ?_ ?_); exact rfl))
  refine ⟨fun V1 g1 n1 f1 => ?_⟩
  have up1 : w.heap.size ≤ g1 := Nat.le_of_eq f1.at_
  have bl1 := f1.bel
  clear f1
  have r3_l := (hx).on bl1
  have l3 := le_tr (Below.refl _ _) bl1
  clear hx
  clear bl1
  go_wp2_with fail
  have y4 := Lib.hid (show (fun V : World => CB V g1 49 (btA b) ∧ RL w V dcl 2 (some ⟨g, off, none⟩) n q L) V1.drew from ⟨CB.drew n1, (r3_l).drew⟩)
  refine wp_region_held_drew (S := (fun V : World => CB V g1 49 (btA b) ∧ RL w V dcl 2 (some ⟨g, off, none⟩) n q L)) (by kernel_rfl) y4.out (fun hHeld => ?_)
  obtain ⟨D4, hD4⟩ : ∃ V, V1.drew = V := ⟨_, rfl⟩
  have b4 : Below V1.heap.size V1 D4 := by rw [← hD4]; exact le_dr (Below.refl _ _)
  rw [hD4] at hHeld ⊢
  clear hD4
  have r6_b := le_on n1 b4
  have r6_l := (r3_l).on b4
  have l6 := le_tr l3 b4
  clear n1 r3_l l3
  clear b4
  refine wpAnyH_takeL (i := 0) (d := some 8) (v := .int .i64 (n : Int)) rfl rfl (by kernel_rfl) (by kernel_rfl) (by kernel_rfl) (fun _ _ _ h => h) (Or.inl ⟨by rfl, ?_⟩) hHeld ?_
  · intro w hSw; (try dsimp only at hSw); go_simp
  try simp only [Act.put, List.setIfInBounds_toArray, List.set_cons_zero, List.set_cons_succ]
  refine wpAnyH_takeL (i := 1) (d := some 9) (v := .bool true) rfl rfl (by kernel_rfl) (by kernel_rfl) (by kernel_rfl) (fun _ _ _ h => h) (Or.inl ⟨by rfl, ?_⟩) hHeld ?_
  · intro w hSw; (try dsimp only at hSw); go_simp
  try simp only [Act.put, List.setIfInBounds_toArray, List.set_cons_zero, List.set_cons_succ]
  refine wpAnyH_takeL (i := 2) (d := some 10) (v := .bool true) rfl rfl (by kernel_rfl) (by kernel_rfl) (by kernel_rfl) (fun _ _ _ h => h) (Or.inl ⟨by rfl, ?_⟩) hHeld ?_
  · intro w hSw; (try dsimp only at hSw); go_simp
  try simp only [Act.put, List.setIfInBounds_toArray, List.set_cons_zero, List.set_cons_succ]
  refine wpAnyH_takeL (i := 3) (d := some 11) (v := .agg (btA b)) rfl rfl (by kernel_rfl) (by kernel_rfl) (by kernel_rfl) (fun _ _ _ h => h) (Or.inl ⟨by rfl, ?_⟩) hHeld ?_
  · intro w hSw; exact yl_whole 49 _ g1 rfl hSw.1 Try.underlying49 rfl Try.zBc
  try simp only [Act.put, List.setIfInBounds_toArray, List.set_cons_zero, List.set_cons_succ]
  refine wpAnyH_ready (rs := [4]) (by kernel_rfl) (by simp) ?_
  refine AllReadyH.cons rfl (fun K hK => ?_) AllReadyH.nil
  go_simp
  (with_reducible refine (CM _).mono ?_)
  rintro e u7 ⟨rfl, b7⟩
  have r9_b := le_on r6_b b7
  have r9_l := (r6_l).on b7
  have l9 := le_tr l6 b7
  clear r6_b r6_l l6
  clear b7
  go_wp2_with fail
  have y10 := Lib.hid (show (fun V : World => CB V g1 49 (btA b) ∧ RL w V dcl 2 (some ⟨g, off, none⟩) n q L) u7 from ⟨r9_b, r9_l⟩)
  refine hK.out _ _ y10.out (fun hHeld => ?_)
  clear hK K y10
  try simp only [Act.put, List.setIfInBounds_toArray, List.set_cons_zero, List.set_cons_succ]
  refine wpAnyH_takeL (i := 5) (d := some 13) (v := .bool true) rfl rfl (by kernel_rfl) (by kernel_rfl) (by kernel_rfl) (fun _ _ _ h => h) (Or.inl ⟨by rfl, ?_⟩) hHeld ?_
  · intro w hSw; (try dsimp only at hSw); go_simp
  try simp only [Act.put, List.setIfInBounds_toArray, List.set_cons_zero, List.set_cons_succ]
  refine wpAnyH_takeL (i := 6) (d := some 14) (v := .bool true) rfl rfl (by kernel_rfl) (by kernel_rfl) (by kernel_rfl) (fun _ _ _ h => h) (Or.inl ⟨by rfl, ?_⟩) hHeld ?_
  · intro w hSw; (try dsimp only at hSw); go_simp
  try simp only [Act.put, List.setIfInBounds_toArray, List.set_cons_zero, List.set_cons_succ]
  refine wpAnyH_takeL (i := 7) (d := some 15) (v := .int .i64 (n : Int)) rfl rfl (by kernel_rfl) (by kernel_rfl) (by kernel_rfl) (fun _ _ _ h => h) (Or.inl ⟨by rfl, ?_⟩) hHeld ?_
  · intro w hSw; (try dsimp only at hSw); go_simp
  try simp only [Act.put, List.setIfInBounds_toArray, List.set_cons_zero, List.set_cons_succ]
  refine wpAnyH_takeL (i := 8) (d := some 16) (v := .bool false) rfl rfl (by kernel_rfl) (by kernel_rfl) (by kernel_rfl) (fun _ _ _ h => h) (Or.inl ⟨by rfl, ?_⟩) hHeld ?_
  · intro w hSw; (try dsimp only at hSw); go_simp
  try simp only [Act.put, List.setIfInBounds_toArray, List.set_cons_zero, List.set_cons_succ]
  refine wpAnyH_takeL (i := 9) (d := some 17) (v := .bool false) rfl rfl (by kernel_rfl) (by kernel_rfl) (by kernel_rfl) (fun _ _ _ h => h) (Or.inl ⟨by rfl, ?_⟩) hHeld ?_
  · intro w hSw; (try dsimp only at hSw); go_simp
  try simp only [Act.put, List.setIfInBounds_toArray, List.set_cons_zero, List.set_cons_succ]
  refine wpAnyH_takeL (i := 10) (d := some 18) (v := .slice (some ⟨g, off, none⟩) n q) rfl rfl (by kernel_rfl) (by kernel_rfl) (by kernel_rfl) (fun _ _ _ h => h) (Or.inl ⟨by rfl, ?_⟩) hHeld ?_
  · intro w hSw; (try dsimp only at hSw); go_simp
  try simp only [Act.put, List.setIfInBounds_toArray, List.set_cons_zero, List.set_cons_succ]
  refine wpAnyH_takeL (i := 11) (d := some 19) (v := .int .i64 (n : Int)) rfl rfl (by kernel_rfl) (by kernel_rfl) (by kernel_rfl) (fun _ _ _ h => h) (Or.inl ⟨by rfl, ?_⟩) hHeld ?_
  · intro w hSw; (try dsimp only at hSw); go_simp
  try simp only [Act.put, List.setIfInBounds_toArray, List.set_cons_zero, List.set_cons_succ]
  refine wpAnyH_takeL (i := 12) (d := some 20) (v := .int .i64 (p : Int)) rfl rfl (by kernel_rfl) (by kernel_rfl) (by kernel_rfl) (fun _ _ _ h => h) (Or.inl ⟨by rfl, ?_⟩) hHeld ?_
  · intro w hSw; (try dsimp only at hSw); go_simp
  try simp only [Act.put, List.setIfInBounds_toArray, List.set_cons_zero, List.set_cons_succ]
  refine wpAnyH_takeL (i := 13) (d := some 21) (v := .pointer (some ⟨g, off + p * 2, none⟩)) rfl rfl (by kernel_rfl) (by kernel_rfl) (by kernel_rfl) (fun _ _ _ h => h) (Or.inl ⟨by rfl, ?_⟩) hHeld ?_
  · intro w hSw; (try dsimp only at hSw); go_simp
  try simp only [Act.put, List.setIfInBounds_toArray, List.set_cons_zero, List.set_cons_succ]
  refine wpAnyH_takeL (i := 14) (d := some 22) (v := .pointer (some ⟨g, off + p * 2, none⟩)) rfl rfl (by kernel_rfl) (by kernel_rfl) (by kernel_rfl) (fun _ _ _ h => h) (Or.inl ⟨by rfl, ?_⟩) hHeld ?_
  · intro w hSw; (try dsimp only at hSw); go_simp
  try simp only [Act.put, List.setIfInBounds_toArray, List.set_cons_zero, List.set_cons_succ]
  refine wpAnyH_takeL (i := 15) (d := some 23) (v := .int .i64 x.tx) rfl rfl (by kernel_rfl) (by kernel_rfl) (by kernel_rfl) (fun _ _ _ h => h) (Or.inl ⟨by rfl, ?_⟩) hHeld ?_
  · intro w hSw; have hcc : w.cell? ⟨g, off + p * 2, none⟩ = some (.int .i64 x.tx) := RR.elemAt (hSw.2).rr hxp rfl 0 _ rfl; go_simp
  try simp only [Act.put, List.setIfInBounds_toArray, List.set_cons_zero, List.set_cons_succ]
  refine wpAnyH_takeL (i := 16) (d := some 24) (v := .pointer (some ⟨g1, 0, none⟩)) rfl rfl (by kernel_rfl) (by kernel_rfl) (by kernel_rfl) (fun _ _ _ h => h) (Or.inl ⟨by rfl, ?_⟩) hHeld ?_
  · intro w hSw; (try dsimp only at hSw); go_simp
  try simp only [Act.put, List.setIfInBounds_toArray, List.set_cons_zero, List.set_cons_succ]
  refine wpAnyH_takeL (i := 17) (d := some 25) (v := .int .i64 (b.tx)) rfl rfl (by kernel_rfl) (by kernel_rfl) (by kernel_rfl) (fun _ _ _ h => h) (Or.inl ⟨by rfl, ?_⟩) hHeld ?_
  · intro w hSw; (try dsimp only at hSw); have hcc : w.cell? ⟨g1, 0, none⟩ = some (.int .i64 (b.tx)) := CB.cell hSw.1 0; go_simp
  try simp only [Act.put, List.setIfInBounds_toArray, List.set_cons_zero, List.set_cons_succ]
  refine wpAnyH_takeL (i := 18) (d := some 26) (v := .bool (decide (x.tx < b.tx))) rfl rfl (by kernel_rfl) (by kernel_rfl) (by kernel_rfl) (fun _ _ _ h => h) (Or.inl ⟨by rfl, ?_⟩) hHeld ?_
  · intro w hSw; (try dsimp only at hSw); go_simp
  try simp only [Act.put, List.setIfInBounds_toArray, List.set_cons_zero, List.set_cons_succ]
  refine wpAnyH_takeL (i := 19) (d := some 27) (v := .bool (decide (x.tx < b.tx))) rfl rfl (by kernel_rfl) (by kernel_rfl) (by kernel_rfl) (fun _ _ _ h => h) (Or.inl ⟨by rfl, ?_⟩) hHeld ?_
  · intro w hSw; (try dsimp only at hSw); go_simp
  try simp only [Act.put, List.setIfInBounds_toArray, List.set_cons_zero, List.set_cons_succ]
  refine wpAnyH_takeL (i := 20) (d := some 28) (v := .bool (decide (x.tx < b.tx))) rfl rfl (by kernel_rfl) (by kernel_rfl) (by kernel_rfl) (fun _ _ _ h => h) (Or.inl ⟨by rfl, ?_⟩) hHeld ?_
  · intro w hSw; (try dsimp only at hSw); go_simp
  try simp only [Act.put, List.setIfInBounds_toArray, List.set_cons_zero, List.set_cons_succ]
  refine wpAnyH_takeL (i := 21) (d := some 4) (v := .bool (decide (x.tx < b.tx))) rfl rfl (by kernel_rfl) (by kernel_rfl) (by kernel_rfl) (fun _ _ _ h => h) (Or.inl ⟨by rfl, ?_⟩) hHeld ?_
  · intro w hSw; (try dsimp only at hSw); go_simp
  try simp only [Act.put, List.setIfInBounds_toArray, List.set_cons_zero, List.set_cons_succ]
  refine wpAnyH_done (by kernel_rfl) ?_ _
  go_wp2_with fail
  go_ret
  exact ⟨ret_bool H.out.symm, l9⟩
end Go.Proofs.Ytfdboahcaiolgaa
