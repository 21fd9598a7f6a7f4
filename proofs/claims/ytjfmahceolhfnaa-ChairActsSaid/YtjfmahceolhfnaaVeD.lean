/-
  The document's layer 13: New, Agree. Condition of the latter: the numbers can be read.
-/
import Derived.Test.YtjfmahceolhfnaaVeC
set_option linter.unusedVariables false
set_option linter.unusedSimpArgs false
namespace Go.Proofs.Ytjfmahceolhfnaa.Te
open Go.RowKit

set_option maxRecDepth 100000 in
set_option maxHeartbeats 4000000 in
theorem new_r (x s m : Int) (w : World) : Calls Try.prog 46 #[.int .i64 x, .int .i64 s, .int .i64 m] w fun r w' => r = .returned (.tuple #[.agg #[.int .i64 (sNew x s m).dl, .int .i64 (sNew x s m).sp, .int .i64 (sNew x s m).us, .int .i64 (sNew x s m).cp], .int .i64 ((eNew x s m : Nat) : Int)]) ∧ Below w.heap.size w w' := by
  by_cases g0 : x < 0
  · skip
    have He := eNew_2 (x := x) (s := s) (m := m) (by unfold okN; omega)
    have Hs := sNew_n (x := x) (s := s) (m := m) (by rw [He]; decide)
    have He := Lib.hid He
    have Hs := Lib.hid Hs
    have p0 : decide (x < 0) = true := by simp; omega
    have q0 : decide (0 ≤ x) = false := by simp; omega
    clear g0
    obtain ⟨W1, hW1⟩ : ∃ V, w.alloc (.cells #[.int .i64 0, .int .i64 0, .int .i64 0, .int .i64 0] 74) = V := ⟨_, rfl⟩
    have nW1_r : CB W1 (w.heap.size) 74 #[.int .i64 0, .int .i64 0, .int .i64 0, .int .i64 0] := by
      rw [← hW1]
      have := (CB.new w 74 #[.int .i64 0, .int .i64 0, .int .i64 0, .int .i64 0])
      simpa using this
    have lW1 : Below w.heap.size w W1 := by rw [← hW1]; exact le_al _ _
    have HW1 := Lib.hid hW1
    clear hW1
    go_enter Try.func46, Try.ntmps46
    go_wp2_with fail
    rw [HW1.out]
    have x_r0 : W1.cell? ⟨w.heap.size, 0, none⟩ = some (.int .i64 0) := CB.cell nW1_r 0
    have x_r1 : W1.cell? ⟨w.heap.size, 1, none⟩ = some (.int .i64 0) := CB.cell nW1_r 1
    have x_r2 : W1.cell? ⟨w.heap.size, 2, none⟩ = some (.int .i64 0) := CB.cell nW1_r 2
    have x_r3 : W1.cell? ⟨w.heap.size, 3, none⟩ = some (.int .i64 0) := CB.cell nW1_r 3
    exact bodyPost_ret (v := .tuple #[.agg #[.int .i64 0, .int .i64 0, .int .i64 0, .int .i64 0], .int .i64 2]) (by simp [results, Try.results46, go_sem, x_r0, x_r1, x_r2, x_r3]) rfl ⟨by rw [He.out, Hs.out]; rfl, lW1⟩
  by_cases g1 : 1099511627776 < x
  · skip
    have He := eNew_2 (x := x) (s := s) (m := m) (by unfold okN; omega)
    have Hs := sNew_n (x := x) (s := s) (m := m) (by rw [He]; decide)
    have He := Lib.hid He
    have Hs := Lib.hid Hs
    have p0 : decide (x < 0) = false := by simp; omega
    have q0 : decide (0 ≤ x) = true := by simp; omega
    have p1 : decide (1099511627776 < x) = true := by simp; omega
    have q1 : decide (x ≤ 1099511627776) = false := by simp; omega
    clear g0 g1
    obtain ⟨W1, hW1⟩ : ∃ V, w.alloc (.cells #[.int .i64 0, .int .i64 0, .int .i64 0, .int .i64 0] 74) = V := ⟨_, rfl⟩
    have nW1_r : CB W1 (w.heap.size) 74 #[.int .i64 0, .int .i64 0, .int .i64 0, .int .i64 0] := by
      rw [← hW1]
      have := (CB.new w 74 #[.int .i64 0, .int .i64 0, .int .i64 0, .int .i64 0])
      simpa using this
    have lW1 : Below w.heap.size w W1 := by rw [← hW1]; exact le_al _ _
    have HW1 := Lib.hid hW1
    clear hW1
    go_enter Try.func46, Try.ntmps46
    go_wp2_with fail
    rw [HW1.out]
    have x_r0 : W1.cell? ⟨w.heap.size, 0, none⟩ = some (.int .i64 0) := CB.cell nW1_r 0
    have x_r1 : W1.cell? ⟨w.heap.size, 1, none⟩ = some (.int .i64 0) := CB.cell nW1_r 1
    have x_r2 : W1.cell? ⟨w.heap.size, 2, none⟩ = some (.int .i64 0) := CB.cell nW1_r 2
    have x_r3 : W1.cell? ⟨w.heap.size, 3, none⟩ = some (.int .i64 0) := CB.cell nW1_r 3
    exact bodyPost_ret (v := .tuple #[.agg #[.int .i64 0, .int .i64 0, .int .i64 0, .int .i64 0], .int .i64 2]) (by simp [results, Try.results46, go_sem, x_r0, x_r1, x_r2, x_r3]) rfl ⟨by rw [He.out, Hs.out]; rfl, lW1⟩
  by_cases g2 : s < 1
  · skip
    have He := eNew_2 (x := x) (s := s) (m := m) (by unfold okN; omega)
    have Hs := sNew_n (x := x) (s := s) (m := m) (by rw [He]; decide)
    have He := Lib.hid He
    have Hs := Lib.hid Hs
    have p0 : decide (x < 0) = false := by simp; omega
    have q0 : decide (0 ≤ x) = true := by simp; omega
    have p1 : decide (1099511627776 < x) = false := by simp; omega
    have q1 : decide (x ≤ 1099511627776) = true := by simp; omega
    have p2 : decide (s < 1) = true := by simp; omega
    have q2 : decide (1 ≤ s) = false := by simp; omega
    clear g0 g1 g2
    obtain ⟨W1, hW1⟩ : ∃ V, w.alloc (.cells #[.int .i64 0, .int .i64 0, .int .i64 0, .int .i64 0] 74) = V := ⟨_, rfl⟩
    have nW1_r : CB W1 (w.heap.size) 74 #[.int .i64 0, .int .i64 0, .int .i64 0, .int .i64 0] := by
      rw [← hW1]
      have := (CB.new w 74 #[.int .i64 0, .int .i64 0, .int .i64 0, .int .i64 0])
      simpa using this
    have lW1 : Below w.heap.size w W1 := by rw [← hW1]; exact le_al _ _
    have HW1 := Lib.hid hW1
    clear hW1
    go_enter Try.func46, Try.ntmps46
    go_wp2_with fail
    rw [HW1.out]
    have x_r0 : W1.cell? ⟨w.heap.size, 0, none⟩ = some (.int .i64 0) := CB.cell nW1_r 0
    have x_r1 : W1.cell? ⟨w.heap.size, 1, none⟩ = some (.int .i64 0) := CB.cell nW1_r 1
    have x_r2 : W1.cell? ⟨w.heap.size, 2, none⟩ = some (.int .i64 0) := CB.cell nW1_r 2
    have x_r3 : W1.cell? ⟨w.heap.size, 3, none⟩ = some (.int .i64 0) := CB.cell nW1_r 3
    exact bodyPost_ret (v := .tuple #[.agg #[.int .i64 0, .int .i64 0, .int .i64 0, .int .i64 0], .int .i64 2]) (by simp [results, Try.results46, go_sem, x_r0, x_r1, x_r2, x_r3]) rfl ⟨by rw [He.out, Hs.out]; rfl, lW1⟩
  by_cases g3 : 1048576 < s
  · skip
    have He := eNew_2 (x := x) (s := s) (m := m) (by unfold okN; omega)
    have Hs := sNew_n (x := x) (s := s) (m := m) (by rw [He]; decide)
    have He := Lib.hid He
    have Hs := Lib.hid Hs
    have p0 : decide (x < 0) = false := by simp; omega
    have q0 : decide (0 ≤ x) = true := by simp; omega
    have p1 : decide (1099511627776 < x) = false := by simp; omega
    have q1 : decide (x ≤ 1099511627776) = true := by simp; omega
    have p2 : decide (s < 1) = false := by simp; omega
    have q2 : decide (1 ≤ s) = true := by simp; omega
    have p3 : decide (1048576 < s) = true := by simp; omega
    have q3 : decide (s ≤ 1048576) = false := by simp; omega
    clear g0 g1 g2 g3
    obtain ⟨W1, hW1⟩ : ∃ V, w.alloc (.cells #[.int .i64 0, .int .i64 0, .int .i64 0, .int .i64 0] 74) = V := ⟨_, rfl⟩
    have nW1_r : CB W1 (w.heap.size) 74 #[.int .i64 0, .int .i64 0, .int .i64 0, .int .i64 0] := by
      rw [← hW1]
      have := (CB.new w 74 #[.int .i64 0, .int .i64 0, .int .i64 0, .int .i64 0])
      simpa using this
    have lW1 : Below w.heap.size w W1 := by rw [← hW1]; exact le_al _ _
    have HW1 := Lib.hid hW1
    clear hW1
    go_enter Try.func46, Try.ntmps46
    go_wp2_with fail
    rw [HW1.out]
    have x_r0 : W1.cell? ⟨w.heap.size, 0, none⟩ = some (.int .i64 0) := CB.cell nW1_r 0
    have x_r1 : W1.cell? ⟨w.heap.size, 1, none⟩ = some (.int .i64 0) := CB.cell nW1_r 1
    have x_r2 : W1.cell? ⟨w.heap.size, 2, none⟩ = some (.int .i64 0) := CB.cell nW1_r 2
    have x_r3 : W1.cell? ⟨w.heap.size, 3, none⟩ = some (.int .i64 0) := CB.cell nW1_r 3
    exact bodyPost_ret (v := .tuple #[.agg #[.int .i64 0, .int .i64 0, .int .i64 0, .int .i64 0], .int .i64 2]) (by simp [results, Try.results46, go_sem, x_r0, x_r1, x_r2, x_r3]) rfl ⟨by rw [He.out, Hs.out]; rfl, lW1⟩
  by_cases g4 : m < 0
  · skip
    have He := eNew_2 (x := x) (s := s) (m := m) (by unfold okN; omega)
    have Hs := sNew_n (x := x) (s := s) (m := m) (by rw [He]; decide)
    have He := Lib.hid He
    have Hs := Lib.hid Hs
    have p0 : decide (x < 0) = false := by simp; omega
    have q0 : decide (0 ≤ x) = true := by simp; omega
    have p1 : decide (1099511627776 < x) = false := by simp; omega
    have q1 : decide (x ≤ 1099511627776) = true := by simp; omega
    have p2 : decide (s < 1) = false := by simp; omega
    have q2 : decide (1 ≤ s) = true := by simp; omega
    have p3 : decide (1048576 < s) = false := by simp; omega
    have q3 : decide (s ≤ 1048576) = true := by simp; omega
    have p4 : decide (m < 0) = true := by simp; omega
    have q4 : decide (0 ≤ m) = false := by simp; omega
    clear g0 g1 g2 g3 g4
    obtain ⟨W1, hW1⟩ : ∃ V, w.alloc (.cells #[.int .i64 0, .int .i64 0, .int .i64 0, .int .i64 0] 74) = V := ⟨_, rfl⟩
    have nW1_r : CB W1 (w.heap.size) 74 #[.int .i64 0, .int .i64 0, .int .i64 0, .int .i64 0] := by
      rw [← hW1]
      have := (CB.new w 74 #[.int .i64 0, .int .i64 0, .int .i64 0, .int .i64 0])
      simpa using this
    have lW1 : Below w.heap.size w W1 := by rw [← hW1]; exact le_al _ _
    have HW1 := Lib.hid hW1
    clear hW1
    go_enter Try.func46, Try.ntmps46
    go_wp2_with fail
    rw [HW1.out]
    have x_r0 : W1.cell? ⟨w.heap.size, 0, none⟩ = some (.int .i64 0) := CB.cell nW1_r 0
    have x_r1 : W1.cell? ⟨w.heap.size, 1, none⟩ = some (.int .i64 0) := CB.cell nW1_r 1
    have x_r2 : W1.cell? ⟨w.heap.size, 2, none⟩ = some (.int .i64 0) := CB.cell nW1_r 2
    have x_r3 : W1.cell? ⟨w.heap.size, 3, none⟩ = some (.int .i64 0) := CB.cell nW1_r 3
    exact bodyPost_ret (v := .tuple #[.agg #[.int .i64 0, .int .i64 0, .int .i64 0, .int .i64 0], .int .i64 2]) (by simp [results, Try.results46, go_sem, x_r0, x_r1, x_r2, x_r3]) rfl ⟨by rw [He.out, Hs.out]; rfl, lW1⟩
  by_cases g5 : 100 < m
  · skip
    have He := eNew_2 (x := x) (s := s) (m := m) (by unfold okN; omega)
    have Hs := sNew_n (x := x) (s := s) (m := m) (by rw [He]; decide)
    have He := Lib.hid He
    have Hs := Lib.hid Hs
    have p0 : decide (x < 0) = false := by simp; omega
    have q0 : decide (0 ≤ x) = true := by simp; omega
    have p1 : decide (1099511627776 < x) = false := by simp; omega
    have q1 : decide (x ≤ 1099511627776) = true := by simp; omega
    have p2 : decide (s < 1) = false := by simp; omega
    have q2 : decide (1 ≤ s) = true := by simp; omega
    have p3 : decide (1048576 < s) = false := by simp; omega
    have q3 : decide (s ≤ 1048576) = true := by simp; omega
    have p4 : decide (m < 0) = false := by simp; omega
    have q4 : decide (0 ≤ m) = true := by simp; omega
    have p5 : decide (100 < m) = true := by simp; omega
    have q5 : decide (m ≤ 100) = false := by simp; omega
    clear g0 g1 g2 g3 g4 g5
    obtain ⟨W1, hW1⟩ : ∃ V, w.alloc (.cells #[.int .i64 0, .int .i64 0, .int .i64 0, .int .i64 0] 74) = V := ⟨_, rfl⟩
    have nW1_r : CB W1 (w.heap.size) 74 #[.int .i64 0, .int .i64 0, .int .i64 0, .int .i64 0] := by
      rw [← hW1]
      have := (CB.new w 74 #[.int .i64 0, .int .i64 0, .int .i64 0, .int .i64 0])
      simpa using this
    have lW1 : Below w.heap.size w W1 := by rw [← hW1]; exact le_al _ _
    have HW1 := Lib.hid hW1
    clear hW1
    go_enter Try.func46, Try.ntmps46
    go_wp2_with fail
    rw [HW1.out]
    have x_r0 : W1.cell? ⟨w.heap.size, 0, none⟩ = some (.int .i64 0) := CB.cell nW1_r 0
    have x_r1 : W1.cell? ⟨w.heap.size, 1, none⟩ = some (.int .i64 0) := CB.cell nW1_r 1
    have x_r2 : W1.cell? ⟨w.heap.size, 2, none⟩ = some (.int .i64 0) := CB.cell nW1_r 2
    have x_r3 : W1.cell? ⟨w.heap.size, 3, none⟩ = some (.int .i64 0) := CB.cell nW1_r 3
    exact bodyPost_ret (v := .tuple #[.agg #[.int .i64 0, .int .i64 0, .int .i64 0, .int .i64 0], .int .i64 2]) (by simp [results, Try.results46, go_sem, x_r0, x_r1, x_r2, x_r3]) rfl ⟨by rw [He.out, Hs.out]; rfl, lW1⟩
  have ho : okN x s m := by unfold okN; omega
  have hm := mul_in (a := m) (s := s) (by omega) (by omega) (by omega) (by omega)
  have hd : (m + 1) * s = m * s + s := by rw [Int.add_mul, Int.one_mul]
  by_cases hb : 1099511627776 < x + (m + 1) * s
  · skip
    have He := eNew_3 ho hb
    have Hs := sNew_n (x := x) (s := s) (m := m) (by rw [He]; decide)
    have He := Lib.hid He
    have Hs := Lib.hid Hs
    have p0 : decide (x < 0) = false := by simp; omega
    have q0 : decide (0 ≤ x) = true := by simp; omega
    have p1 : decide (1099511627776 < x) = false := by simp; omega
    have q1 : decide (x ≤ 1099511627776) = true := by simp; omega
    have p2 : decide (s < 1) = false := by simp; omega
    have q2 : decide (1 ≤ s) = true := by simp; omega
    have p3 : decide (1048576 < s) = false := by simp; omega
    have q3 : decide (s ≤ 1048576) = true := by simp; omega
    have p4 : decide (m < 0) = false := by simp; omega
    have q4 : decide (0 ≤ m) = true := by simp; omega
    have p5 : decide (100 < m) = false := by simp; omega
    have q5 : decide (m ≤ 100) = true := by simp; omega
    have v1 : IntKind.i64.wrap (x + s) = x + s := IntWalk.i64_in _ (by omega)
    have v2 : IntKind.i64.wrap (m + 1) = m + 1 := IntWalk.i64_in _ (by omega)
    have v3 : IntKind.i64.wrap ((m + 1) * s) = (m + 1) * s := IntWalk.i64_in _ (by omega)
    have v4 : IntKind.i64.wrap (x + (m + 1) * s) = x + (m + 1) * s := IntWalk.i64_in _ (by omega)
    have t1 : decide (1099511627776 < x + (m + 1) * s) = true := by simp; omega
    clear ho hm hd hb g0 g1 g2 g3 g4 g5
    obtain ⟨W1, hW1⟩ : ∃ V, w.alloc (.cells #[.int .i64 0, .int .i64 0, .int .i64 0, .int .i64 0] 74) = V := ⟨_, rfl⟩
    have nW1_r : CB W1 (w.heap.size) 74 #[.int .i64 0, .int .i64 0, .int .i64 0, .int .i64 0] := by
      rw [← hW1]
      have := (CB.new w 74 #[.int .i64 0, .int .i64 0, .int .i64 0, .int .i64 0])
      simpa using this
    have lW1 : Below w.heap.size w W1 := by rw [← hW1]; exact le_al _ _
    have HW1 := Lib.hid hW1
    clear hW1
    go_enter Try.func46, Try.ntmps46
    go_wp2_with fail
    rw [HW1.out]
    have x_r0 : W1.cell? ⟨w.heap.size, 0, none⟩ = some (.int .i64 0) := CB.cell nW1_r 0
    have x_r1 : W1.cell? ⟨w.heap.size, 1, none⟩ = some (.int .i64 0) := CB.cell nW1_r 1
    have x_r2 : W1.cell? ⟨w.heap.size, 2, none⟩ = some (.int .i64 0) := CB.cell nW1_r 2
    have x_r3 : W1.cell? ⟨w.heap.size, 3, none⟩ = some (.int .i64 0) := CB.cell nW1_r 3
    exact bodyPost_ret (v := .tuple #[.agg #[.int .i64 0, .int .i64 0, .int .i64 0, .int .i64 0], .int .i64 3]) (by simp [results, Try.results46, go_sem, x_r0, x_r1, x_r2, x_r3]) rfl ⟨by rw [He.out, Hs.out]; rfl, lW1⟩
  · skip
    have He := eNew_0 ho hb
    have Hs := sNew_z He
    have He := Lib.hid He
    have Hs := Lib.hid Hs
    have p0 : decide (x < 0) = false := by simp; omega
    have q0 : decide (0 ≤ x) = true := by simp; omega
    have p1 : decide (1099511627776 < x) = false := by simp; omega
    have q1 : decide (x ≤ 1099511627776) = true := by simp; omega
    have p2 : decide (s < 1) = false := by simp; omega
    have q2 : decide (1 ≤ s) = true := by simp; omega
    have p3 : decide (1048576 < s) = false := by simp; omega
    have q3 : decide (s ≤ 1048576) = true := by simp; omega
    have p4 : decide (m < 0) = false := by simp; omega
    have q4 : decide (0 ≤ m) = true := by simp; omega
    have p5 : decide (100 < m) = false := by simp; omega
    have q5 : decide (m ≤ 100) = true := by simp; omega
    have v1 : IntKind.i64.wrap (x + s) = x + s := IntWalk.i64_in _ (by omega)
    have v2 : IntKind.i64.wrap (m + 1) = m + 1 := IntWalk.i64_in _ (by omega)
    have v3 : IntKind.i64.wrap ((m + 1) * s) = (m + 1) * s := IntWalk.i64_in _ (by omega)
    have v4 : IntKind.i64.wrap (x + (m + 1) * s) = x + (m + 1) * s := IntWalk.i64_in _ (by omega)
    have t1 : decide (1099511627776 < x + (m + 1) * s) = false := by simp; omega
    clear ho hm hd hb g0 g1 g2 g3 g4 g5
    obtain ⟨W1, hW1⟩ : ∃ V, w.alloc (.cells #[.int .i64 (x + s), .int .i64 s, .int .i64 0, .int .i64 m] 74) = V := ⟨_, rfl⟩
    have nW1_r : CB W1 (w.heap.size) 74 #[.int .i64 (x + s), .int .i64 s, .int .i64 0, .int .i64 m] := by
      rw [← hW1]
      have := (CB.new w 74 #[.int .i64 (x + s), .int .i64 s, .int .i64 0, .int .i64 m])
      simpa using this
    have lW1 : Below w.heap.size w W1 := by rw [← hW1]; exact le_al _ _
    have HW1 := Lib.hid hW1
    clear hW1
    go_enter Try.func46, Try.ntmps46
    go_wp2_with fail
    rw [HW1.out]
    have x_r0 : W1.cell? ⟨w.heap.size, 0, none⟩ = some (.int .i64 (x + s)) := CB.cell nW1_r 0
    have x_r1 : W1.cell? ⟨w.heap.size, 1, none⟩ = some (.int .i64 s) := CB.cell nW1_r 1
    have x_r2 : W1.cell? ⟨w.heap.size, 2, none⟩ = some (.int .i64 0) := CB.cell nW1_r 2
    have x_r3 : W1.cell? ⟨w.heap.size, 3, none⟩ = some (.int .i64 m) := CB.cell nW1_r 3
    exact bodyPost_ret (v := .tuple #[.agg #[.int .i64 (x + s), .int .i64 s, .int .i64 0, .int .i64 m], .int .i64 0]) (by simp [results, Try.results46, go_sem, x_r0, x_r1, x_r2, x_r3]) rfl ⟨by rw [He.out, Hs.out]; rfl, lW1⟩
end Go.Proofs.Ytjfmahceolhfnaa.Te
