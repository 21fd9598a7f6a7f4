/-
  alive of layer 8's laws: it returns true. No condition.
-/
import Derived.Test.YtdekijaognfjcaaLgG
set_option linter.unusedVariables false
set_option linter.unusedSimpArgs false
namespace Go.Proofs.Ytdekijaognfjcaa
open Go.RowKit

theorem wf_one {k b : Int} (h : inD ⟨k, b⟩) : WfL [⟨k, b⟩] := fun x hx => by simp at hx; subst hx; exact h
theorem put_ok {L M : List Dl} (h : RightP L) (k : KeysP M) : sPut L M = ofD (L ++ M) ∧ ePut L M = 0 := by unfold sPut ePut; rw [if_pos ⟨h, k⟩, if_pos ⟨h, k⟩]; exact ⟨rfl, rfl⟩
theorem sum_ok {L M : List Dl} (h : RightP L) (k : RightP M) : sSum L M = ofD (L ++ M) ∧ eSum L M = 0 := by unfold sSum eSum; rw [if_pos ⟨h, k⟩, if_pos ⟨h, k⟩]; exact ⟨rfl, rfl⟩
theorem less_ok {L : List Dl} (h : RightP L) : sLess L = L.map negD ∧ eLess L = 0 := by unfold sLess eLess; rw [if_pos h, if_pos h]; exact ⟨rfl, rfl⟩
theorem al_1 : sPut [] [⟨3, 5⟩] = [⟨3, 5⟩] ∧ ePut [] [⟨3, 5⟩] = 0 := by
  obtain ⟨h1, h2⟩ := put_ok (L := []) (M := [⟨3, 5⟩]) (by decide) (by decide)
  rw [h1, h2]
  exact ⟨of_self (by decide) (wf_one ⟨by decide, by decide⟩), rfl⟩
theorem al_2 : sPut [⟨3, 5⟩] [⟨3, -5⟩] = [] ∧ ePut [⟨3, 5⟩] [⟨3, -5⟩] = 0 := by
  obtain ⟨h1, h2⟩ := put_ok (L := [⟨3, 5⟩]) (M := [⟨3, -5⟩]) (by decide) (by decide)
  rw [h1, h2]
  refine ⟨of_none fun i _ => ?_, rfl⟩
  simp only [num, tot, List.cons_append, List.nil_append]
  unfold wrap64
  split <;> omega
theorem al_3 : sPut [⟨1, 9223372036854775807⟩] [⟨1, 1⟩] = [⟨1, -9223372036854775808⟩] ∧ ePut [⟨1, 9223372036854775807⟩] [⟨1, 1⟩] = 0 := by
  obtain ⟨h1, h2⟩ := put_ok (L := [⟨1, 9223372036854775807⟩]) (M := [⟨1, 1⟩]) (by decide) (by decide)
  rw [h1, h2]
  refine ⟨(of_congr (M := [⟨1, -9223372036854775808⟩]) fun i _ => ?_).trans (of_self (by decide) (wf_one ⟨by decide, by decide⟩)), rfl⟩
  simp only [num, tot, List.cons_append, List.nil_append]
  unfold wrap64
  split <;> omega
theorem al_4 : ePut [] [⟨64, 1⟩] = 2 := by decide
theorem al_5 : getD [⟨3, 5⟩] 3 = 5 := by decide
theorem al_6 : getD [⟨1, -9223372036854775808⟩] 1 = -9223372036854775808 := by decide
theorem al_7 : rightB [⟨1, -9223372036854775808⟩] = true := by decide

set_option maxRecDepth 100000 in
set_option maxHeartbeats 4000000 in
theorem alive_c (w : World) : Calls Try.prog 9 #[] w fun e w' => e = .returned (.bool true) ∧ Below w.heap.size w w' := by
  go_enter Try.func9, Try.ntmps9
  go_wp2_with fail
  refine (add_c none 0 0 [] 3 5 w (RR.nil w dc 2) (by omega) (fun x hx => by simp at hx) ⟨by decide, by decide⟩).mono ?_
  rw [al_1.1, al_1.2]
  rintro e w1 ⟨A1, n1, c1, rfl, hx1, hb1⟩
  obtain rfl : n1 = 1 := hx1.len.symm
  go_wp2_with fail
  refine (add_c A1 1 c1 _ 3 (-5) w1 hx1 (by omega) (wf_one ⟨by decide, by decide⟩) ⟨by decide, by decide⟩).mono ?_
  rw [al_2.1, al_2.2]
  rintro e w2 ⟨A2, n2, c2, rfl, hx2, hb2⟩
  obtain rfl : n2 = 0 := hx2.len.symm
  have hl2 := bel2 hb1 hb2
  have hy2 := hx1.on hb2
  clear hx1 hb1 hb2 hx2
  obtain ⟨W, hW⟩ : ∃ W, w2.alloc (.cells #[.int .u8 1, .int .i64 9223372036854775807] 24) = W := ⟨_, rfl⟩
  have hlW : DR W (some ⟨w2.heap.size, 0, none⟩) 1 1 [⟨1, 9223372036854775807⟩] := by rw [← hW]; exact lit1 w2 1 9223372036854775807 _
  have hbW : Below w2.heap.size w2 W := by rw [← hW]; exact belA w2 _
  have hyW := hy2.on hbW
  have hl3 := bel2 hl2 hbW
  have HW := Lib.hid hW
  have had := add_c (some ⟨w2.heap.size, 0, none⟩) 1 1 _ 1 1 W hlW (by omega) (wf_one ⟨by decide, by decide⟩) ⟨by decide, by decide⟩
  rw [al_3.1, al_3.2] at had
  clear hW hl2 hy2 hbW hlW
  go_wp2_with fail
  rw [HW.out]
  refine had.mono ?_
  rintro e w3 ⟨A3, n3, c3, rfl, hx3, hb3⟩
  obtain rfl : n3 = 1 := hx3.len.symm
  have hy3 := hyW.on hb3
  have hl4 := bel2 hl3 hb3
  clear hyW hb3 hl3 had HW
  have had := add_c none 0 0 [] 64 1 w3 (RR.nil w3 dc 2) (by omega) (fun x hx => by simp at hx) ⟨by decide, by decide⟩
  rw [al_4] at had
  go_wp2_with fail
  refine had.mono ?_
  rintro e w4 ⟨A4, n4, c4, rfl, hx4, hb4⟩
  have hy4 := hy3.on hb4
  have hz4 := hx3.on hb4
  have hl5 := bel2 hl4 hb4
  clear hx4 hb4 hl4 hy3 hx3 had
  have hg := get_c A1 1 c1 3 _ w4 hy4 (by omega)
  rw [al_5] at hg
  go_wp2_with fail
  refine hg.mono ?_
  rintro e w5 ⟨rfl, hb5⟩
  have hz5 := hz4.on hb5
  have hl6 := bel2 hl5 hb5
  clear hg hb5 hl5 hy4 hz4
  have hg := get_c A3 1 c3 1 _ w5 hz5 (by omega)
  rw [al_6] at hg
  go_wp2_with fail
  refine hg.mono ?_
  rintro e w6 ⟨rfl, hb6⟩
  have hz6 := hz5.on hb6
  have hl7 := bel2 hl6 hb6
  clear hg hb6 hl6 hz5
  have hg := right_c A3 1 c3 _ w6 hz6 (by omega)
  rw [al_7] at hg
  go_wp2_with fail
  refine hg.mono ?_
  rintro e w7 ⟨rfl, hb7⟩
  have hl8 := bel2 hl7 hb7
  clear hg hb7 hl7 hz6
  go_wp2_with fail
  go_ret
  exact ⟨rfl, hl8⟩
end Go.Proofs.Ytdekijaognfjcaa
