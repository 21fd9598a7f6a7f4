/-
  Layer 16: inRange, fits, Right of package party. Conditions: what waits can be read and is right.
-/
import Derived.Test.YtcfdfimkgehdfaaQaA
set_option linter.unusedVariables false
set_option linter.unusedSimpArgs false
namespace Go.Proofs.Ytcfdfimkgehdfaa
open Go.RowKit

set_option maxRecDepth 100000 in
set_option maxHeartbeats 4000000 in
theorem range_c (x : Int) (w : World) : Calls Try.prog 49 #[.int .i64 x] w fun zz w' => zz = .returned (.bool (decide (0 ≤ x ∧ x ≤ 1048576))) ∧ Below w.heap.size w w' := by
  by_cases h1 : 0 ≤ x
  · by_cases h2 : x ≤ 1048576
    · have q : decide (0 ≤ x ∧ x ≤ 1048576) = true := by simp [h1, h2]
      rw [q]
      have q1 : decide (0 ≤ x) = true := by simp [h1]
      have q2 : decide (x ≤ 1048576) = true := by simp [h2]
      go_enter Try.func49, Try.ntmps49
      go_wp2_with fail
      go_ret
      exact ⟨rfl, Below.refl _ _⟩
    · have q : decide (0 ≤ x ∧ x ≤ 1048576) = false := by simp [h2]
      rw [q]
      have q1 : decide (0 ≤ x) = true := by simp [h1]
      have q2 : decide (x ≤ 1048576) = false := by simp; omega
      go_enter Try.func49, Try.ntmps49
      go_wp2_with fail
      go_ret
      exact ⟨rfl, Below.refl _ _⟩
  · have q : decide (0 ≤ x ∧ x ≤ 1048576) = false := by simp [h1]
    rw [q]
    have q1 : decide (0 ≤ x) = false := by simp; omega
    go_enter Try.func49, Try.ntmps49
    go_wp2_with fail
    go_ret
    exact ⟨rfl, Below.refl _ _⟩
set_option maxRecDepth 100000 in
set_option maxHeartbeats 4000000 in
theorem fits_c (t : ByteArray) (w : World) : Calls Try.prog 50 #[.string t] w fun zz w' => zz = .returned (.bool (decide (t.size ≤ 500))) ∧ Below w.heap.size w w' := by
  have q : decide ((t.size : Int) ≤ 500) = decide (t.size ≤ 500) := by rw [Bool.eq_iff_iff]; simp; omega
  go_enter Try.func50, Try.ntmps50
  go_wp2_with fail
  go_ret
  exact ⟨by first | rfl | rw [q], Below.refl _ _⟩
set_option maxRecDepth 100000 in
set_option maxHeartbeats 4000000 in
theorem right_t (nx : Int) (A : Option Addr) (n c : Nat) (L : List Pk) (rm : Int) (w : World) (h : RR w pcl 2 A n c L) (hR : RightO ⟨nx, L, rm⟩) : Calls Try.prog 51 #[.agg (oA ⟨nx, A, n, c, rm⟩)] w fun zz w' => zz = .returned (.bool true) ∧ Below w.heap.size w w' := by
  have hlen := h.len
  have hl := RL.start h
  have hR1 := hR.1
  obtain ⟨ha1, ha2⟩ := hR.2.1
  obtain ⟨hn1, hn2⟩ := hR.2.2.1
  have hlr := hR.2.2.2
  simp only at hR1 ha1 ha2 hn1 hn2 hlr
  rw [hlen] at hlr hR1
  have hn3 : n ≤ 100 := by omega
  have HR := Lib.hid hR1
  clear hR hR1 h
  have R1 := fun V => range_c nx V
  rw [show decide (0 ≤ nx ∧ nx ≤ 1048576) = true by simp [hn1, hn2]] at R1
  have q1 : decide (rm < 1) = false := by simp; omega
  have q2 : decide (100 < rm) = false := by simp; omega
  have q2' : decide (rm > 100) = false := by simp; omega
  have q3 : decide (rm < (n : Int)) = false := by simp; omega
  have q3' : decide ((n : Int) > rm) = false := by simp; omega
  go_enter Try.func51, Try.ntmps51
  go_wp2_with (first | ((with_reducible refine st_box 64 _ (oA ⟨nx, A, n, c, rm⟩) ?_ ?_); exact rfl))
  refine ⟨fun V1 g1 n1 f1 => ?_⟩
  have up1 : w.heap.size ≤ g1 := Nat.le_of_eq f1.at_
  have bl1 := f1.bel
  clear f1
  have r3_l := (hl).on bl1
  have l3 := le_tr (Below.refl _ _) bl1
  clear hl
  clear bl1
  have c4 : V1.cell? ⟨g1, 0, none⟩ = some (.int .i64 nx) := CB.cell n1 0
  have c5 : V1.cell? ⟨g1, 1, none⟩ = some (.slice A n c) := CB.cell n1 1
  have c6 : V1.cell? ⟨g1, 2, none⟩ = some (.int .i64 rm) := CB.cell n1 2
  go_wp2_with fail
  (with_reducible refine (R1 _).mono ?_)
  rintro e w7 ⟨rfl, b7⟩
  clear c4 c5 c6
  have r9_o := le_on n1 b7
  have r9_l := (r3_l).on b7
  have l9 := le_tr l3 b7
  clear n1 r3_l l3
  clear b7
  have c10 : w7.cell? ⟨g1, 0, none⟩ = some (.int .i64 nx) := CB.cell r9_o 0
  have c11 : w7.cell? ⟨g1, 1, none⟩ = some (.slice A n c) := CB.cell r9_o 1
  have c12 : w7.cell? ⟨g1, 2, none⟩ = some (.int .i64 rm) := CB.cell r9_o 2
  have q4 : IntKind.i64.wrap (nx - (n : Int)) = nx - (n : Int) := IntWalk.i64_in _ (by omega)
  go_wp2_with fail
  clear c10 c11 c12
  go_loopw [37] (fun iv wr => ∃ k : Nat, k ≤ n ∧ iv = .int .i64 k ∧ RL w wr pcl 2 A n c L ∧ Below w.heap.size w wr) (fun iv _ => n - (intOf iv).toNat)
  case atStart => exact ⟨0, by omega, rfl, r9_l, l9⟩
  case round =>
    clear r9_o r9_l l9
    obtain ⟨k, hk, rfl, hx, hb⟩ := hrel
    by_cases hlt : k < n
    · obtain ⟨ga, ofa, p, hp, rfl, hr⟩ := hx.rr.elem hlt
      obtain ⟨e1, e2, e3⟩ := HR.out k p hlt hp
      rw [hlen] at e2
      have hr2 : wr.rangeAt ga (ofa + k * 2) (pA p).toList := hr
      have l1 : (k : Int) < n := by omega
      have l2 : (0 : Int) ≤ (k : Int) := by omega
      have q5 : IntKind.i64.wrap (nx - (n : Int) + (k : Int)) = nx - (n : Int) + (k : Int) := IntWalk.i64_in _ (by omega)
      have q6 : decide (p.seq < 0) = false := by simp; omega
      have q7 : (p.seq == nx - (n : Int) + (k : Int)) = true := by simp [e2]
      have q8 : (p.seq != nx - (n : Int) + (k : Int)) = false := by simp [e2]
      have F1 := fun V => fits_c p.tx V
      rw [show decide (p.tx.size ≤ 500) = true by simp [e3]] at F1
      clear e2
      go_wp2_with (first | ((with_reducible refine st_elem 70 _ ga (ofa + k * 2) (pA p) ?_ hr2 Try.underlying70 ?_ ?_ ?_); exact rfl; exact rfl; exact Try.zPk) | ((with_reducible refine st_alloc 70 (pA zeroP) ?_ ?_); exact zero_pk))
      refine ⟨fun V101 g101 n101 f101 => ?_⟩
      have up101 : w.heap.size ≤ g101 := f101.up hb
      have bl101 := f101.bel
      clear f101
      have r103_l := (hx).on bl101
      have l103 := le_tr hb bl101
      clear hx hb
      clear bl101
      go_wp2_with (first | ((with_reducible refine st_store 70 _ _ g101 (pA p) ?_ ?_ n101 ?_ ?_ ?_ ?_); exact rfl; exact rfl; exact Try.zPk; exact rfl; exact pA_one _))
      refine ⟨fun V104 n104 k104 => ?_⟩
      have m104_l := (r103_l).wr k104 up101
      have o104 := k104.bel _ _ l103 up101
      clear k104
      clear n101 r103_l l103
      have c105 : V104.cell? ⟨g101, 0, none⟩ = some (.int .i64 (p.seq)) := CB.cell n104 0
      have c106 : V104.cell? ⟨g101, 1, none⟩ = some (.string (p.tx)) := CB.cell n104 1
      go_wp2_with fail
      (with_reducible refine (F1 _).mono ?_)
      rintro e w107 ⟨rfl, b107⟩
      clear c105 c106
      have r109_p := le_on n104 b107
      have r109_l := (m104_l).on b107
      have l109 := le_tr o104 b107
      clear n104 m104_l o104
      clear b107
      go_wp2_with fail
      go_roundw
      case rel => exact ⟨k + 1, by omega, by go_num, r109_l, l109⟩
      case measure => simp [intOf]; omega
    obtain rfl : k = n := by omega
    go_wp2_with fail
    go_ret
    exact ⟨rfl, hb⟩
end Go.Proofs.Ytcfdfimkgehdfaa
