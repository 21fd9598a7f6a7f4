/-
  alive of layer 7's laws: it returns true. No condition.
-/
import Derived.Test.YtifppmpknnpmpaaLkH
set_option linter.unusedVariables false
set_option linter.unusedSimpArgs false
namespace Go.Proofs.Ytifppmpknnpmpaa
open Go.RowKit

theorem al_1 : eTake [] 1 5 false = 0 ∧ sTake [] 1 5 false = [⟨5, 1, false⟩] := ⟨by decide, by rfl⟩
theorem al_2 : eTake [⟨5, 1, false⟩] 2 5 false = 0 ∧ sTake [⟨5, 1, false⟩] 2 5 false = [⟨5, 1, false⟩, ⟨5, 2, false⟩] := ⟨by decide, by rfl⟩
theorem al_3 : eTake [⟨5, 1, false⟩, ⟨5, 2, false⟩] 1 5 true = 9 := by decide
theorem al_4 : fre [⟨5, 1, false⟩, ⟨5, 2, false⟩] 2 = [⟨5, 1, false⟩] := by rfl
theorem al_5 : eTake [⟨5, 1, false⟩] 1 5 true = 0 ∧ sTake [⟨5, 1, false⟩] 1 5 true = [⟨5, 1, true⟩] := ⟨by decide, by rfl⟩
theorem al_6 : eTake [⟨5, 1, true⟩] 2 5 false = 9 := by decide
theorem al_7 : hold [⟨5, 1, true⟩] 1 5 = 2 := by decide
theorem al_8 : rightB [⟨5, 1, true⟩] = true := by decide

set_option maxRecDepth 100000 in
set_option maxHeartbeats 4000000 in
theorem alive_c (w : World) : Calls Try.prog 10 #[] w fun e w' => e = .returned (.bool true) ∧ Below w.heap.size w w' := by
  go_enter Try.func10, Try.ntmps10
  go_wp2_with fail
  refine (take_c none 0 0 1 5 false [] w (RR.nil w hc 3) (by omega)).mono ?_
  rw [al_1.1, al_1.2]
  rintro e w1 ⟨A1, n1, c1, rfl, hx1, hb1⟩
  obtain rfl : n1 = 1 := hx1.len.symm
  go_wp2_with fail
  refine (take_c A1 1 c1 2 5 false _ w1 hx1.rr (by omega)).mono ?_
  rw [al_2.1, al_2.2]
  rintro e w2 ⟨A2, n2, c2, rfl, hx2, hb2⟩
  obtain rfl : n2 = 2 := hx2.len.symm
  have hl2 := bel2 hb1 hb2
  clear hx1 hb1 hb2
  go_wp2_with fail
  refine (take_c A2 2 c2 1 5 true _ w2 hx2.rr (by omega)).mono ?_
  rw [al_3]
  rintro e w3 ⟨A3, n3, c3, rfl, hx3, hb3⟩
  have hy3 := hx2.on hb3
  have hl3 := bel2 hl2 hb3
  clear hx2 hx3 hb3 hl2
  go_wp2_with fail
  refine (free_c A2 2 c2 2 _ w3 hy3.rr (by omega)).mono ?_
  rw [al_4]
  rintro e w4 ⟨A4, n4, c4, rfl, hx4, hb4⟩
  obtain rfl : n4 = 1 := hx4.len.symm
  have hl4 := bel2 hl3 hb4
  clear hy3 hb4 hl3
  go_wp2_with fail
  refine (take_c A4 1 c4 1 5 true _ w4 hx4.rr (by omega)).mono ?_
  rw [al_5.1, al_5.2]
  rintro e w5 ⟨A5, n5, c5, rfl, hx5, hb5⟩
  obtain rfl : n5 = 1 := hx5.len.symm
  have hl5 := bel2 hl4 hb5
  clear hx4 hb5 hl4
  go_wp2_with fail
  refine (take_c A5 1 c5 2 5 false _ w5 hx5.rr (by omega)).mono ?_
  rw [al_6]
  rintro e w6 ⟨A6, n6, c6, rfl, hx6, hb6⟩
  have hy6 := hx5.on hb6
  have hl6 := bel2 hl5 hb6
  clear hx5 hx6 hb6 hl5
  have hh := holds_c A5 1 c5 1 5 _ w6 hy6.rr (by omega)
  rw [al_7] at hh
  go_wp2_with fail
  refine hh.mono ?_
  rintro e w7 ⟨rfl, hb7⟩
  have hy7 := hy6.on hb7
  have hl7 := bel2 hl6 hb7
  have hr := right_c A5 1 c5 _ w7 hy7.rr (by omega)
  rw [al_8] at hr
  clear hh hy6 hb7 hl6
  go_wp2_with fail
  refine hr.mono ?_
  rintro e w8 ⟨rfl, hb8⟩
  have hl8 := bel2 hl7 hb8
  clear hr hb8 hl7
  go_wp2_with fail
  go_ret
  exact ⟨rfl, hl8⟩
end Go.Proofs.Ytifppmpknnpmpaa
