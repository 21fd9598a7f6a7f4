/-
  The walk of LedgerCalls: it returns true. Condition: the deltas can be read and are such as a program can have.
-/
import Derived.Test.YtdekijaognfjcaaLgR
set_option linter.unusedVariables false
set_option linter.unusedSimpArgs false
namespace Go.Proofs.Ytdekijaognfjcaa
open Go.RowKit

set_option maxRecDepth 100000 in
set_option maxHeartbeats 4000000 in
theorem calls_walk (A : Option Addr) (n c : Nat) (A' : Option Addr) (n' c' : Nat) (x : Dl) (L M : List Dl) (w : World) (h : DR w A n c L) (h' : DR w A' n' c' M) (wL : WfL L) (wM : WfL M) (hx : inD x) :
    Calls Try.prog 3 #[.slice A n c, .slice A' n' c', dv x] w fun e w' => e = .returned (.bool true) ∧ Below w.heap.size w w' := by
  have WL := Lib.hid wL
  have WM := Lib.hid wM
  have HX := Lib.hid hx
  have hmx : n ≤ maxLen := Nat.le_trans h.cap h.max
  have hmx' : n' ≤ maxLen := Nat.le_trans h'.cap h'.max
  simp only [maxLen] at hmx hmx'
  obtain ⟨W0, hW0⟩ : ∃ W0, w.alloc (.cells #[.int .u8 x.k, .int .i64 x.b] 24) = W0 := ⟨_, rfl⟩
  have l0 : Below w.heap.size w W0 := by rw [← hW0]; exact belA w _
  have bx : BX W0 w.heap.size x := by rw [← hW0]; exact CB.new w _ _
  have h0 := h.on l0
  have h0' := h'.on l0
  have HW0 := Lib.hid hW0
  clear wL wM hx hW0
  obtain ⟨B0, hB0⟩ : ∃ B0, w.heap.size = B0 := ⟨_, rfl⟩
  rw [hB0] at bx
  have HB0 := Lib.hid hB0
  clear hB0
  obtain ⟨P1, hP1⟩ : ∃ P, sPut L M = P := ⟨_, rfl⟩
  obtain ⟨E1, hE1⟩ : ∃ E, ePut L M = E := ⟨_, rfl⟩
  obtain ⟨P2, hP2⟩ : ∃ P, sPut L [⟨x.k, x.b⟩] = P := ⟨_, rfl⟩
  obtain ⟨E2, hE2⟩ : ∃ E, ePut L [⟨x.k, x.b⟩] = E := ⟨_, rfl⟩
  obtain ⟨P3, hP3⟩ : ∃ P, sSum L M = P := ⟨_, rfl⟩
  obtain ⟨E3, hE3⟩ : ∃ E, eSum L M = E := ⟨_, rfl⟩
  obtain ⟨P4, hP4⟩ : ∃ P, sLess L = P := ⟨_, rfl⟩
  obtain ⟨E4, hE4⟩ : ∃ E, eLess L = E := ⟨_, rfl⟩
  have Q1 := Lib.hid (And.intro hP1 hE1)
  have Q2 := Lib.hid (And.intro hP2 hE2)
  have Q3 := Lib.hid (And.intro hP3 hE3)
  have Q4 := Lib.hid (And.intro hP4 hE4)
  clear hP1 hE1 hP2 hE2 hP3 hE3 hP4 hE4
  have f1 : (E1 != E1) = false := by simp
  have f2 : (E2 != E2) = false := by simp
  have f3 : (E3 != E3) = false := by simp
  have f4 : (E4 != E4) = false := by simp
  go_enter Try.func3, Try.ntmps3
  have hc := alive_c W0
  go_wp2_with fail
  rw [HW0.out, HB0.out]
  refine hc.mono ?_
  rintro e w1 ⟨rfl, b1⟩
  have r1_a := h0.on b1
  have r1_b := h0'.on b1
  have r1_bx := bx.on b1
  have l1 := bel2 l0 b1
  clear hc b1 h0 h0' bx l0
  by_cases hbign : 100 < n
  · have hbi : (100 : Int) < (n : Int) := by omega
    go_wp2_with fail
    go_ret
    exact ⟨rfl, l1⟩
  have hbin : ¬ (100 : Int) < (n : Int) := by omega
  have hnn : n ≤ 100000 := by omega
  by_cases hbign_ : 100 < n'
  · have hbi : (100 : Int) < (n' : Int) := by omega
    go_wp2_with fail
    go_ret
    exact ⟨rfl, l1⟩
  have hbin_ : ¬ (100 : Int) < (n' : Int) := by omega
  have hnn_ : n' ≤ 100000 := by omega
  have hc := put_c A n c L A' n' c' M w1 r1_a r1_b hnn hnn_ WL.out WM.out
  rw [Q1.out.1] at hc
  rw [Q1.out.2] at hc
  go_wp2_with fail
  refine hc.mono ?_
  rintro e w2 ⟨A2, n2, c2, rfl, x2, b2⟩
  have r2_a := r1_a.on b2
  have r2_b := r1_b.on b2
  have r2_bx := r1_bx.on b2
  have l2 := bel2 l1 b2
  clear hc b2 r1_a r1_b r1_bx l1
  have hc := putR_c A n c L A' n' c' M w2 r2_a r2_b hnn hnn_
  rw [Q1.out.1] at hc
  rw [Q1.out.2] at hc
  go_wp2_with fail
  refine hc.mono ?_
  rintro e w3 ⟨A3, n3, c3, rfl, x3, b3⟩
  have r3_a := r2_a.on b3
  have r3_b := r2_b.on b3
  have r3_bx := r2_bx.on b3
  have r3_c := x2.on b3
  have l3 := bel2 l2 b3
  clear hc b3 r2_a r2_b r2_bx x2 l2
  obtain ⟨z0, z1⟩ := bx_cells r3_bx
  have hc := add_c A n c L x.k x.b w3 r3_a hnn WL.out HX.out
  rw [Q2.out.1] at hc
  rw [Q2.out.2] at hc
  go_wp2_with fail
  refine hc.mono ?_
  rintro e w4 ⟨A4, n4, c4, rfl, x4, b4⟩
  have r4_a := r3_a.on b4
  have r4_b := r3_b.on b4
  have r4_bx := r3_bx.on b4
  have r4_c := r3_c.on b4
  have r4_d := x3.on b4
  have l4 := bel2 l3 b4
  clear hc b4 r3_a r3_b r3_bx r3_c x3 l3
  clear z0 z1
  obtain ⟨z0, z1⟩ := bx_cells r4_bx
  obtain ⟨V, hV⟩ : ∃ V, w4.alloc (.cells #[.int .u8 x.k, .int .i64 x.b] 24) = V := ⟨_, rfl⟩
  have hlV : DR V (some ⟨w4.heap.size, 0, none⟩) 1 1 [⟨x.k, x.b⟩] := by rw [← hV]; exact lit1 w4 x.k x.b _
  have hbV : Below w4.heap.size w4 V := by rw [← hV]; exact belA w4 _
  have HV := Lib.hid hV
  clear hV
  have r90_a := r4_a.on hbV
  have r90_b := r4_b.on hbV
  have r90_bx := r4_bx.on hbV
  have r90_c := r4_c.on hbV
  have r90_d := r4_d.on hbV
  have r90_g := x4.on hbV
  have l90 := bel2 l4 hbV
  clear hbV r4_a r4_b r4_bx r4_c r4_d x4 l4
  have hc := putR_c A n c L (some ⟨w4.heap.size, 0, none⟩) 1 1 _ V r90_a hlV hnn (by omega)
  rw [Q2.out.1] at hc
  rw [Q2.out.2] at hc
  go_wp2_with fail
  rw [HV.out]
  refine hc.mono ?_
  rintro e w5 ⟨A5, n5, c5, rfl, x5, b5⟩
  have r5_a := r90_a.on b5
  have r5_b := r90_b.on b5
  have r5_bx := r90_bx.on b5
  have r5_c := r90_c.on b5
  have r5_d := r90_d.on b5
  have r5_g := r90_g.on b5
  have l5 := bel2 l90 b5
  clear hc b5 r90_a r90_b r90_bx r90_c r90_d r90_g l90
  clear z0 z1 hlV HV
  have hc := sum_c A n c L A' n' c' M w5 r5_a r5_b hnn hnn_ WL.out WM.out
  rw [Q3.out.1] at hc
  rw [Q3.out.2] at hc
  go_wp2_with fail
  refine hc.mono ?_
  rintro e w6 ⟨A6, n6, c6, rfl, x6, b6⟩
  have r6_a := r5_a.on b6
  have r6_b := r5_b.on b6
  have r6_bx := r5_bx.on b6
  have r6_c := r5_c.on b6
  have r6_d := r5_d.on b6
  have r6_g := r5_g.on b6
  have r6_i := x5.on b6
  have l6 := bel2 l5 b6
  clear hc b6 r5_a r5_b r5_bx r5_c r5_d r5_g x5 l5
  have hc := sumR_c A n c L A' n' c' M w6 r6_a r6_b hnn hnn_
  rw [Q3.out.1] at hc
  rw [Q3.out.2] at hc
  go_wp2_with fail
  refine hc.mono ?_
  rintro e w7 ⟨A7, n7, c7, rfl, x7, b7⟩
  have r7_a := r6_a.on b7
  have r7_bx := r6_bx.on b7
  have r7_c := r6_c.on b7
  have r7_d := r6_d.on b7
  have r7_g := r6_g.on b7
  have r7_i := r6_i.on b7
  have r7_m := x6.on b7
  have l7 := bel2 l6 b7
  clear hc b7 r6_a r6_b r6_bx r6_c r6_d r6_g r6_i x6 l6
  have hc := less_c A n c L w7 r7_a hnn
  rw [Q4.out.1] at hc
  rw [Q4.out.2] at hc
  go_wp2_with fail
  refine hc.mono ?_
  rintro e w8 ⟨A8, n8, c8, rfl, x8, b8⟩
  have r8_a := r7_a.on b8
  have r8_bx := r7_bx.on b8
  have r8_c := r7_c.on b8
  have r8_d := r7_d.on b8
  have r8_g := r7_g.on b8
  have r8_i := r7_i.on b8
  have r8_m := r7_m.on b8
  have r8_o := x7.on b8
  have l8 := bel2 l7 b8
  clear hc b8 r7_a r7_bx r7_c r7_d r7_g r7_i r7_m x7 l7
  have hc := lessR_c A n c L w8 r8_a hnn
  rw [Q4.out.1] at hc
  rw [Q4.out.2] at hc
  go_wp2_with fail
  refine hc.mono ?_
  rintro e w9 ⟨A9, n9, c9, rfl, x9, b9⟩
  have r9_a := r8_a.on b9
  have r9_bx := r8_bx.on b9
  have r9_c := r8_c.on b9
  have r9_d := r8_d.on b9
  have r9_g := r8_g.on b9
  have r9_i := r8_i.on b9
  have r9_m := r8_m.on b9
  have r9_o := r8_o.on b9
  have r9_q := x8.on b9
  have l9 := bel2 l8 b9
  clear hc b9 r8_a r8_bx r8_c r8_d r8_g r8_i r8_m r8_o x8 l8
  have hc := same_c A2 A3 n2 c2 n3 c3 P1 w9 r9_c r9_d
  go_wp2_with fail
  refine hc.mono ?_
  rintro e w10 ⟨rfl, b10⟩
  have r10_a := r9_a.on b10
  have r10_bx := r9_bx.on b10
  have r10_g := r9_g.on b10
  have r10_i := r9_i.on b10
  have r10_m := r9_m.on b10
  have r10_o := r9_o.on b10
  have r10_q := r9_q.on b10
  have r10_s := x9.on b10
  have l10 := bel2 l9 b10
  clear hc b10 r9_a r9_bx r9_c r9_d r9_g r9_i r9_m r9_o r9_q x9 l9
  have hc := same_c A4 A5 n4 c4 n5 c5 P2 w10 r10_g r10_i
  go_wp2_with fail
  refine hc.mono ?_
  rintro e w11 ⟨rfl, b11⟩
  have r11_a := r10_a.on b11
  have r11_bx := r10_bx.on b11
  have r11_m := r10_m.on b11
  have r11_o := r10_o.on b11
  have r11_q := r10_q.on b11
  have r11_s := r10_s.on b11
  have l11 := bel2 l10 b11
  clear hc b11 r10_a r10_bx r10_g r10_i r10_m r10_o r10_q r10_s l10
  have hc := same_c A6 A7 n6 c6 n7 c7 P3 w11 r11_m r11_o
  go_wp2_with fail
  refine hc.mono ?_
  rintro e w12 ⟨rfl, b12⟩
  have r12_a := r11_a.on b12
  have r12_bx := r11_bx.on b12
  have r12_q := r11_q.on b12
  have r12_s := r11_s.on b12
  have l12 := bel2 l11 b12
  clear hc b12 r11_a r11_bx r11_m r11_o r11_q r11_s l11
  have hc := same_c A8 A9 n8 c8 n9 c9 P4 w12 r12_q r12_s
  go_wp2_with fail
  refine hc.mono ?_
  rintro e w13 ⟨rfl, b13⟩
  have r13_a := r12_a.on b13
  have r13_bx := r12_bx.on b13
  have l13 := bel2 l12 b13
  clear hc b13 r12_a r12_bx r12_q r12_s l12
  obtain ⟨z0, z1⟩ := bx_cells r13_bx
  obtain ⟨r, hr⟩ : ∃ r, rightB L = r := ⟨_, rfl⟩
  obtain ⟨q, hq⟩ : ∃ q, getD L x.k = q := ⟨_, rfl⟩
  have Hr := Lib.hid hr
  have Hq := Lib.hid hq
  have hqq : (q == q) = true := by simp
  clear hr hq
  have c1 := right_c A n c L w13.drew r13_a.drew hnn
  rw [Hr.out] at c1
  rcases (show r = false ∨ r = true by cases r <;> simp) with rfl | rfl
  all_goals go_wp2_with fail
  all_goals go_region_held3 (fun W' => W'.cell? ⟨B0, 0, none⟩ = some (.int .u8 x.k)) (first | exact z0 | exact t1 | exact t2 | exact t3 | exact t4) (first
    | (go_at_call 18; refine c1.mono ?_; rintro e u1 ⟨rfl, y1⟩; have y1 := below_drew (W := w13) y1; have t1 := cell_on y1 z0; have k1 := r13_a.on y1; have c2 := rightR_c A n c L u1 k1 hnn; rw [Hr.out] at c2)
    | (go_at_call 19; refine c2.mono ?_; rintro e u2 ⟨rfl, y2⟩; have t2 := cell_on y2 t1; have k2 := k1.on y2; have c3 := get_c A n c x.k L u2 k2 hnn; rw [Hq.out] at c3)
    | (go_at_call 20; refine c3.mono ?_; rintro e u3 ⟨rfl, y3⟩; have t3 := cell_on y3 t2; have k3 := k2.on y3; have c4 := getR_c A n c x.k L u3 k3 hnn; rw [Hq.out] at c4)
    | (go_at_call 21; refine c4.mono ?_; rintro e u4 ⟨rfl, y4⟩; have t4 := cell_on y4 t3))
  all_goals have lz := bel2 l13 (bel2 (bel2 (bel2 y1 y2) y3) y4)
  all_goals clear c1 c2 c3 c4 y1 y2 y3 y4 t1 t2 t3 t4 k1 k2 k3 z0 z1
  all_goals go_wp2_with fail
  all_goals go_ret
  all_goals exact ⟨rfl, lz⟩
end Go.Proofs.Ytdekijaognfjcaa
