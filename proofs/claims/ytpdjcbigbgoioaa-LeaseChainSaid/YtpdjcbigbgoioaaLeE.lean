/-
  alive of layer 11's laws: it returns true. No condition.
-/
import Derived.Test.YtpdjcbigbgoioaaLeB
import Derived.Test.YtpdjcbigbgoioaaLeC
set_option linter.unusedVariables false
set_option linter.unusedSimpArgs false
namespace Go.Proofs.Ytpdjcbigbgoioaa
open Go.RowKit

set_option maxRecDepth 100000 in
set_option maxHeartbeats 1000000 in
theorem alive_c (w : World) : Calls Try.prog 9 #[] w fun r w' => r = .returned (.bool true) ∧ Below w.heap.size w w' := by
  go_enter Try.func9, Try.ntmps9
  go_wp2_with fail
  refine (take_c 0 0 0 3 _).mono ?_
  rintro e w1 ⟨h1, b1⟩
  simp only [show sTakeL ⟨0, 0, 0⟩ 3 = ⟨3, 1, 0⟩ from rfl, show eTakeL ⟨0, 0, 0⟩ 3 = 0 from rfl] at h1
  subst h1
  obtain ⟨W1, hW1⟩ : ∃ W, w1.alloc (.cells #[.int .i64 3, .int .i64 1, .int .u8 0] 27) = W := ⟨_, rfl⟩
  have p1 : LB W1 w1.heap.size 27 ⟨3, 1, 0⟩ := by rw [← hW1]; exact LB.new w1 _ ⟨3, 1, 0⟩
  have b2 : Below w.heap.size w W1 := by rw [← hW1]; exact le_tr b1 (le_al _ _)
  have HW1 := Lib.hid hW1
  clear hW1
  go_wp2_with fail
  rw [HW1.out]
  refine (give_c 3 1 0 5 _).mono ?_
  rintro e w2 ⟨h1, b3⟩
  simp only [show sGiveL ⟨3, 1, 0⟩ 5 = ⟨3, 2, 5⟩ from rfl, show eGiveL ⟨3, 1, 0⟩ 5 = 0 from rfl] at h1
  subst h1
  obtain ⟨W2, hW2⟩ : ∃ W, w2.alloc (.cells #[.int .i64 3, .int .i64 2, .int .u8 5] 27) = W := ⟨_, rfl⟩
  have p2 : LB W2 w2.heap.size 27 ⟨3, 2, 5⟩ := by rw [← hW2]; exact LB.new w2 _ ⟨3, 2, 5⟩
  have p1' : LB W2 w1.heap.size 27 ⟨3, 1, 0⟩ := by rw [← hW2]; exact (p1.on b3).alloc _
  have b4 : Below w.heap.size w W2 := by rw [← hW2]; exact le_tr (le_tr b2 b3) (le_al _ _)
  have HW2 := Lib.hid hW2
  clear hW2 p1 b3 b2 b1
  go_wp2_with fail
  rw [HW2.out]
  refine (take_c 3 2 5 3 _).mono ?_
  rintro e w3 ⟨h1, b5⟩
  simp only [show sTakeL ⟨3, 2, 5⟩ 3 = ⟨3, 2, 5⟩ from rfl, show eTakeL ⟨3, 2, 5⟩ 3 = 10 from rfl] at h1
  subst h1
  obtain ⟨W3, hW3⟩ : ∃ W, w3.alloc (.cells #[.int .i64 3, .int .i64 2, .int .u8 5] 27) = W := ⟨_, rfl⟩
  have q1 : LB W3 w1.heap.size 27 ⟨3, 1, 0⟩ := by rw [← hW3]; exact (p1'.on b5).alloc _
  have q2 : LB W3 w2.heap.size 27 ⟨3, 2, 5⟩ := by rw [← hW3]; exact (p2.on b5).alloc _
  have b6 : Below w.heap.size w W3 := by rw [← hW3]; exact le_tr (le_tr b4 b5) (le_al _ _)
  have HW3 := Lib.hid hW3
  have hW3' := hW3
  clear p1' p2 b5 b4
  obtain ⟨c0, c1, c2⟩ := q1.cells
  obtain ⟨d0, d1, d2⟩ := q2.cells
  rw [← hW3'] at c0 c1 c2 d0 d1 d2
  simp only at c0 c1 c2 d0 d1 d2
  clear hW3 hW3'
  go_wp2_with fail
  rw [HW3.out]
  refine (speaks_c 3 1 0 3 _).mono ?_
  rintro e w4 ⟨h1, b7⟩
  rw [show speaksL ⟨3, 1, 0⟩ 3 = true from rfl] at h1
  subst h1
  obtain ⟨e0, e1, e2⟩ := (q2.on b7).cells
  simp only at e0 e1 e2
  clear c0 c1 c2 d0 d1 d2
  go_wp2_with fail
  refine (speaks_c 3 2 5 3 _).mono ?_
  rintro e w5 ⟨h1, b8⟩
  rw [show speaksL ⟨3, 2, 5⟩ 3 = false from rfl] at h1
  subst h1
  obtain ⟨g0, g1, g2⟩ := ((q2.on b7).on b8).cells
  simp only at g0 g1 g2
  clear e0 e1 e2
  go_wp2_with fail
  refine (right_c 3 2 5 _).mono ?_
  rintro e w6 ⟨h1, b9⟩
  rw [show rightL ⟨3, 2, 5⟩ = true from rfl] at h1
  subst h1
  go_wp2_with fail
  go_ret
  exact ⟨rfl, le_tr (le_tr (le_tr b6 b7) b8) b9⟩
end Go.Proofs.Ytpdjcbigbgoioaa
