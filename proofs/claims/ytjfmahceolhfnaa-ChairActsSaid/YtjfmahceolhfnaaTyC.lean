/-
  The small functions of package tally: epochInRange, rightMobile, allYes. No condition.
-/
import Derived.Test.YtjfmahceolhfnaaTyB
set_option linter.unusedVariables false
set_option linter.unusedSimpArgs false
namespace Go.Proofs.Ytjfmahceolhfnaa
open Go.RowKit

theorem zero_c (V : World) : (zeroValue 40).run Try.prog V = .ok (.agg (tA zeroY)) V := Try.zeroValue40 V
theorem zero_r (V : World) : (zeroValue 73).run Try.prog V = .ok (.agg (tA zeroY)) V := Try.zeroValue73 V
theorem zero_b (V : World) : (zeroValue 37).run Try.prog V = .ok (.agg (bA fun _ => false)) V := Try.zeroValue37 V
theorem zero_i (V : World) : (zeroValue 38).run Try.prog V = .ok (.agg (iA fun _ => 0)) V := Try.zeroValue38 V
theorem one_b : (Try.prog.info? 4).map (·.size) = some 1 := by kernel_rfl
theorem one_i : (Try.prog.info? 3).map (·.size) = some 1 := by kernel_rfl
theorem idx_b (f : Nat → Bool) {k : Nat} (hk : k < 8) (V : World) : (Instr.index 37 (.agg (bA f)) (.int .i64 (k : Int))).run Try.prog V = .ok (.bool (f k)) V := by
  have hs : (sizeOf 4).run Try.prog V = .ok 1 V := by kernel_rfl
  have ha : (isAgg 4).run Try.prog V = .ok false V := by kernel_rfl
  have hx := bA_get f hk
  simp [Instr.index, asIntOf, run_underlying Try.underlying37, hk, hs, part, ha, hx, go_sem]
theorem idx_i (f : Nat → Int) {k : Nat} (hk : k < 8) (V : World) : (Instr.index 38 (.agg (iA f)) (.int .i64 (k : Int))).run Try.prog V = .ok (.int .i64 (f k)) V := by
  have hs : (sizeOf 3).run Try.prog V = .ok 1 V := by kernel_rfl
  have ha : (isAgg 3).run Try.prog V = .ok false V := by kernel_rfl
  have hx := iA_get f hk
  simp [Instr.index, asIntOf, run_underlying Try.underlying38, hk, hs, part, ha, hx, go_sem]
/-- Yes for those of the first k that take part. -/
def yF (f : Nat → Bool) (k : Nat) : Nat → Int := fun i => if i < k ∧ f i = true then 1 else 0
theorem yF_0 (f : Nat → Bool) : yF f 0 = fun _ => 0 := by funext i; simp [yF]
theorem yF_no {f : Nat → Bool} {k : Nat} (h : f k = false) : yF f (k + 1) = yF f k := by
  funext i
  unfold yF
  by_cases e : i = k
  · subst e; simp [h]
  · have : (i < k + 1) ↔ (i < k) := by omega
    simp only [this]
theorem yF_yes {f : Nat → Bool} {k : Nat} (h : f k = true) : updI (yF f k) k 1 = yF f (k + 1) := by
  funext i
  unfold yF updI
  by_cases e : i = k
  · subst e; simp [h]
  · have : (i < k + 1) ↔ (i < k) := by omega
    simp only [this, if_neg e]
theorem yF_8 (f : Nat → Bool) : iA (yF f 8) = iA (allYesF f) := by simp [iA, yF, allYesF]
set_option maxHeartbeats 1000000 in
theorem epoch_c (x : Int) (w : World) : Calls Try.prog 75 #[.int .i64 x] w fun r w' => r = .returned (.bool (decide (1 ≤ x ∧ x ≤ 1048576))) ∧ Below w.heap.size w w' := by
  go_enter Try.func75, Try.ntmps75
  by_cases h : 1 ≤ x
  · have H := Lib.hid (show decide (1 ≤ x ∧ x ≤ 1048576) = decide (x ≤ 1048576) by simp [h])
    go_wp2_with fail
    go_ret
    exact ⟨by rw [H.out]; rfl, Below.refl _ _⟩
  · have H := Lib.hid (show decide (1 ≤ x ∧ x ≤ 1048576) = false by simp [h])
    have H2 := Lib.hid (show (decide (1 ≤ x) && decide (x ≤ 1048576)) = false by simp [h])
    go_wp2_with fail
    go_ret
    exact ⟨by first | (rw [H.out]; rfl) | (rw [H2.out]; rfl), Below.refl _ _⟩
set_option maxRecDepth 100000 in
set_option maxHeartbeats 4000000 in
theorem mobile_c (b : Bool) (v e : Int) (w : World) : Calls Try.prog 82 #[.bool b, .int .i64 v, .int .i64 e] w fun r w' => r = .returned (.bool (okM b v e)) ∧ Below w.heap.size w w' := by
  cases b with
  | false =>
    by_cases h0 : v = 0
    · subst h0
      have H := Lib.hid (show okM false 0 e = (e == 0) by apply bool_eq; rw [okM_iff]; simp; omega)
      go_enter Try.func82, Try.ntmps82
      go_wp2_with fail
      go_ret
      exact ⟨by rw [H.out]; rfl, Below.refl _ _⟩
    have q0 : (v == 0) = false := by simp [h0]
    have H := Lib.hid (show okM false v e = false by rw [← Bool.not_eq_true, okM_iff]; intro h; have := h.2.2.2.2 rfl; omega)
    clear h0
    go_enter Try.func82, Try.ntmps82
    go_wp2_with fail
    go_ret
    exact ⟨by rw [H.out]; rfl, Below.refl _ _⟩
  | true =>
    by_cases h0 : v = 0
    · subst h0
      by_cases h1 : e = 0
      · subst h1
        have H := Lib.hid (show okM true 0 0 = true by rw [okM_iff]; simp)
        go_enter Try.func82, Try.ntmps82
        go_wp2_with fail
        go_ret
        exact ⟨by rw [H.out]; rfl, Below.refl _ _⟩
      have q1 : (e == 0) = false := by simp [h1]
      have H := Lib.hid (show okM true 0 e = (decide (1 ≤ e) && decide (e ≤ 1048576)) by apply bool_eq; rw [okM_iff]; simp; omega)
      clear h1
      go_enter Try.func82, Try.ntmps82
      go_wp2_with fail
      refine (epoch_c e _).mono ?_
      rintro r w1 ⟨rfl, b1⟩
      go_wp2_with fail
      go_ret
      exact ⟨by rw [H.out]; rfl, b1⟩
    have q0 : (v == 0) = false := by simp [h0]
    by_cases h12 : v = 1 ∨ v = 2
    · have H := Lib.hid (show okM true v e = (decide (1 ≤ e) && decide (e ≤ 1048576)) by apply bool_eq; rw [okM_iff]; simp; omega)
      by_cases h1 : v = 1
      · subst h1
        clear h12 h0
        go_enter Try.func82, Try.ntmps82
        go_wp2_with fail
        refine (epoch_c e _).mono ?_
        rintro r w1 ⟨rfl, b1⟩
        go_wp2_with fail
        go_ret
        exact ⟨by rw [H.out]; rfl, b1⟩
      obtain rfl : v = 2 := by omega
      clear h12 h1 h0
      go_enter Try.func82, Try.ntmps82
      go_wp2_with fail
      refine (epoch_c e _).mono ?_
      rintro r w1 ⟨rfl, b1⟩
      go_wp2_with fail
      go_ret
      exact ⟨by rw [H.out]; rfl, b1⟩
    have q1 : (v == 1) = false := by simp; omega
    have q2 : (v == 2) = false := by simp; omega
    have H := Lib.hid (show okM true v e = false by rw [← Bool.not_eq_true, okM_iff]; omega)
    clear h12 h0
    go_enter Try.func82, Try.ntmps82
    go_wp2_with fail
    go_ret
    exact ⟨by rw [H.out]; rfl, Below.refl _ _⟩
set_option maxRecDepth 100000 in
set_option maxHeartbeats 4000000 in
theorem allYes_c (f : Nat → Bool) (w : World) : Calls Try.prog 74 #[.agg (bA f)] w fun r w' => r = .returned (.agg (iA (allYesF f))) ∧ Below w.heap.size w w' := by
  go_enter Try.func74, Try.ntmps74
  go_wp2_with (first | ((with_reducible refine st_box 37 _ (bA f) ?_ ?_); exact rfl))
  refine ⟨fun V1 g1 n1 f1 => ?_⟩
  have up1 : w.heap.size ≤ g1 := Nat.le_of_eq f1.at_
  have bl1 := f1.bel
  clear f1
  have l2 := le_tr (Below.refl _ _) bl1
  clear bl1
  go_wp2_with (first | ((with_reducible refine st_alloc 38 (iA (fun _ => 0)) ?_ ?_); exact zero_i))
  refine ⟨fun V3 g3 n3 f3 => ?_⟩
  have ne3_t := f3.ne n1
  have up3 : w.heap.size ≤ g3 := f3.up l2
  have bl3 := f3.bel
  clear f3
  have r4_t := le_on n1 bl3
  have l4 := le_tr l2 bl3
  clear n1 l2
  clear bl3
  go_wp2_with (first | ((with_reducible refine st_alloc 38 (iA (fun _ => 0)) ?_ ?_); exact zero_i))
  refine ⟨fun V5 g5 n5 f5 => ?_⟩
  have ne5_t := f5.ne r4_t
  have ne5_r := f5.ne n3
  have up5 : w.heap.size ≤ g5 := f5.up l4
  have bl5 := f5.bel
  clear f5
  have r6_t := le_on r4_t bl5
  have r6_r := le_on n3 bl5
  have l6 := le_tr l4 bl5
  clear r4_t n3 l4
  clear bl5
  rw [← yF_0 f] at n5
  go_wp2_with (first | ((with_reducible refine st_load 37 _ g1 ?_ r6_t Try.underlying37 ?_ ?_ ?_); exact rfl; exact rfl; exact Try.zB8))
  go_loopw [7] (fun iv wr => ∃ k : Nat, k ≤ 8 ∧ iv = .int .i64 k ∧ CB wr g5 38 (iA (yF f k)) ∧ CB wr g3 38 (iA fun _ => 0) ∧ Below w.heap.size w wr) (fun iv _ => 8 - (intOf iv).toNat)
  case atStart => exact ⟨0, by omega, rfl, n5, r6_r, l6⟩
  case round =>
    clear n5 r6_r r6_t l6
    obtain ⟨k, hk, rfl, hv, hr, hb⟩ := hrel
    by_cases hlt : k < 8
    · have j1 : (k : Int) < 8 := by omega
      have j2 : (0 : Int) ≤ (k : Int) := by omega
      have hx := fun V => idx_b f hlt V
      cases hf : f k with
      | false =>
        rw [hf] at hx
        rw [← yF_no hf] at hv
        clear hf
        go_wp2_with fail
        go_roundw
        case rel => exact ⟨k + 1, by omega, by go_num, hv, hr, hb⟩
        case measure => simp [intOf]; omega
      | true =>
        rw [hf] at hx
        have hy := Lib.hid (yF_yes hf)
        clear hf
        go_wp2_with (first | ((with_reducible refine st_cell 3 _ _ g5 k (.int .i64 1) ?_ ?_ hv (new := iA (updI (yF f k) k 1)) ?_ ?_ ?_ ?_ ?_ ?_); exact rfl; exact rfl; exact (by rw [iA_size]; omega); exact iA_set (yF f k) _ hlt; exact one_i; exact rfl; exact rfl))
        refine ⟨fun V101 n101 k101 => ?_⟩
        have m101_r := k101.on hr ne5_r
        have o101 := k101.bel _ _ hb up5
        clear k101
        clear hv hr hb
        rw [hy.out] at n101
        go_wp2_with fail
        go_roundw
        case rel => exact ⟨k + 1, by omega, by go_num, n101, m101_r, o101⟩
        case measure => simp [intOf]; omega
    obtain rfl : k = 8 := by omega
    have H := Lib.hid (yF_8 f)
    go_wp2_with (first | ((with_reducible refine st_load 38 _ g5 ?_ hv Try.underlying38 ?_ ?_ ?_); exact rfl; exact rfl; exact Try.zI8) | ((with_reducible refine st_store 38 _ _ g3 (iA (yF f 8)) ?_ ?_ hr ?_ ?_ ?_ ?_); exact rfl; exact rfl; exact Try.zI8; exact rfl; exact iA_one _))
    refine ⟨fun V201 n201 k201 => ?_⟩
    have m201_v := k201.on hv (Ne.symm ne5_r)
    have o201 := k201.bel _ _ hb up3
    clear k201
    clear hr hv hb
    go_wp2_with fail
    exact bodyPost_ret (v := .agg (iA (yF f 8))) (res_one Try.results74 rfl n201 Try.underlying38 rfl Try.zI8) rfl ⟨by rw [H.out], o201⟩
end Go.Proofs.Ytjfmahceolhfnaa
