/-
  Right of the document's answer for wheels. Condition: the timers can be read, a hundred thousand at most.
-/
import Derived.Test.YtgpmgghjcocfmaaWhF
set_option linter.unusedVariables false
set_option linter.unusedSimpArgs false
namespace Go.Proofs.Ytgpmgghjcocfmaa
open Go.RowKit

set_option maxRecDepth 100000 in
set_option maxHeartbeats 4000000 in
theorem right_r (now : Int) (A : Option Addr) (n c : Nat) (L : List (Int × Int)) (w : World) (h : TR w A n c L) (hn : n ≤ 100000) :
    Calls Try.prog 19 #[.agg #[.int .i64 now, .slice A n c]] w fun e w' => e = .returned (.bool (rightB now L)) ∧ Below w.heap.size w w' := by
  obtain ⟨W, hW, bx, hb0⟩ := boxed w 24 now A n c
  have HW := Lib.hid hW
  clear hW
  have hlen := Lib.hid h.len
  have hWT := h.on hb0
  clear h
  go_enter Try.func19, Try.ntmps19
  go_wp2_with fail
  rw [HW.out]
  clear HW
  go_loopw [3] (fun i wr => ∃ j : Nat, j ≤ n ∧ i = .int .i64 j ∧ (AheadP now (L.take j) ∧ OrdP (L.take j) ∧ DisP (L.take j)) ∧ Below W.heap.size W wr) (fun i _ => n - (intOf i).toNat)
  case atStart => exact ⟨0, by omega, rfl, ⟨fun p hp => by simp at hp, by simp [OrdP], by simp [DisP]⟩, Below.refl _ _⟩
  case round =>
    obtain ⟨j, hj, rfl, ha, hlow⟩ := hrel
    have Ha := Lib.hid ha
    clear ha
    have bR := bx.on hlow bx.lt
    obtain ⟨x0, x1⟩ := bR.cells
    by_cases hlt : j < n
    · obtain ⟨g, off, rfl, _, d1, d2⟩ := (hWT.on hlow).at_ hlt
      have hjl : j < L.length := by rw [hlen.out]; exact hlt
      have htk := Lib.hid (tk_take (L := L) hjl)
      generalize tk L j = x at *
      obtain ⟨xk, xv⟩ := x
      simp only at d1 d2
      obtain ⟨V0, hV0⟩ : ∃ V0, wr.alloc (.cells #[.int .i64 xk, .int .i64 xv] 46) = V0 := ⟨_, rfl⟩
      have hbV0 : Below wr.heap.size wr V0 := by rw [← hV0]; exact (Below.refl _ _).alloc (Nat.le_refl _) _
      have hc0 : V0.cell? ⟨wr.heap.size, 0, none⟩ = some (.int .i64 xk) := by rw [← hV0]; exact (CB.new wr 46 #[.int .i64 xk, .int .i64 xv]).cell 0
      have hc1 : V0.cell? ⟨wr.heap.size, 1, none⟩ = some (.int .i64 xv) := by rw [← hV0]; exact (CB.new wr 46 #[.int .i64 xk, .int .i64 xv]).cell 1
      have HV0 := Lib.hid hV0
      have bV0 := bR.on hbV0 bR.lt
      have hTV0 := (hWT.on hlow).on hbV0
      have hWV0 := bel2 hlow hbV0
      have hbb0 := bel2 hb0 hWV0
      clear hV0
      by_cases hok : now < xv ∧ xv ≤ lastT
      · have Hok := Lib.hid hok
        have k1 : ¬ xv ≤ now := by omega
        have k2 : ¬ 1099511627776 < xv := by have := hok.2; simp only [lastT] at this; omega
        clear hok
        rcases Nat.eq_zero_or_pos j with hj0 | hj0
        · have Hord := Lib.hid (show OrdP (L.take (j + 1)) by rw [htk.out, hj0]; simp [OrdP])
          have hjz := Lib.hid hj0
          clear hj0
          go_wp2_with fail
          rw [HV0.out]
          obtain ⟨y0, y1⟩ := bV0.cells
          have q1 : decide (xv ≤ now) = false := by rw [decide_eq_false_iff_not]; omega
          have q2 : decide (1099511627776 < xv) = false := by rw [decide_eq_false_iff_not]; omega
          have q3 : decide ((0 : Int) < (j : Int)) = false := by have := hjz.out; rw [decide_eq_false_iff_not]; omega
          have q4 : decide (0 < j) = false := by have := hjz.out; rw [decide_eq_false_iff_not]; omega
          go_quiet (fail)
          clear y0 y1 q1 q2 q3 q4
          obtain ⟨V, hV⟩ : ∃ V, V0.drewN nq = V := ⟨_, rfl⟩
          rw [hV]
          have bV : Box V w.heap.size 24 now (some ⟨g, off, none⟩) n c := by rw [← hV]; exact bV0.drewN nq
          have hVT : TR V (some ⟨g, off, none⟩) n c L := by rw [← hV]; exact hTV0.drewN nq
          have t0 : V.cell? ⟨wr.heap.size, 0, none⟩ = some (.int .i64 xk) := by rw [← hV]; exact hc0
          have t1 : V.cell? ⟨wr.heap.size, 1, none⟩ = some (.int .i64 xv) := by rw [← hV]; exact hc1
          have hWV : Below W.heap.size W V := by rw [← hV]; exact belowN hWV0 nq
          have hbV := bel2 hb0 hWV
          clear hV hc0 hc1 hTV0 hWV0 hbb0 bV0 HV0 hbV0 d1 d2 x0 x1 bR hlow
          go_wp2_with fail
          go_loopw [5] (fun k wi => ∃ q : Nat, q ≤ j ∧ k = .int .i64 q ∧ (∀ p ∈ L.take q, p.1 ≠ xk) ∧ Below V.heap.size V wi) (fun k _ => j - (intOf k).toNat)
          case atStart => exact ⟨0, by omega, rfl, fun p hp => by simp at hp, Below.refl _ _⟩
          case round =>
            obtain ⟨q, hq, rfl, hno, hlw⟩ := hrel
            have Hno := Lib.hid hno
            clear hno
            obtain ⟨b0, b1⟩ := (bV.on hlw bV.lt).cells
            have t0' := cell_on hlw t0
            have t1' := cell_on hlw t1
            by_cases hqj : q < j
            · obtain ⟨gq, oq, eA, _, s1, s2⟩ := (hVT.on hlw).at_ (k := q) (by omega)
              cases eA
              have hql : q < L.length := by rw [hlen.out]; omega
              have Htq := Lib.hid (tk_take (L := L) hql)
              have Hmem := Lib.hid (show tk L q ∈ L.take j by
                have h1 : tk L q ∈ L.take (q + 1) := by rw [tk_take hql]; simp
                exact (List.take_sublist_take_left (by omega)).subset h1)
              generalize tk L q = y at *
              obtain ⟨yk, yv⟩ := y
              simp only at s1 s2
              have hqn : q < n := by omega
              by_cases hyx : yk = xk
              · have hq2 : (yk == xk) = true := by simp [hyx]
                have Hf := Lib.hid (show rightB now L = false by
                  cases hR : rightB now L with
                  | false => rfl
                  | true =>
                    have hD := (rightB_iff.1 hR).2.2.2.2.2.sub (List.take_sublist (j + 1) L)
                    rw [htk.out, dis_snoc] at hD
                    exact absurd hyx (hD.2 _ Hmem.out))
                clear hyx Hmem Htq
                go_wp2_with fail
                go_quiet (fail)
                have hl2 := Lib.hid (belowN (bel2 hbV hlw) nq)
                clear hlw s1 s2 t0' t1' b0 b1
                go_wp2_with fail
                go_ret
                exact ⟨by rw [Hf.out]; rfl, hl2.out⟩
              · have hq2 : (yk == xk) = false := by simp [hyx]
                have Hn2 := Lib.hid (show ∀ p ∈ L.take (q + 1), p.1 ≠ xk by
                  rw [Htq.out]
                  intro p hp
                  rcases List.mem_append.1 hp with hp | hp
                  · exact Hno.out p hp
                  · simp at hp; subst hp; exact hyx)
                clear hyx Hmem Htq Hno
                go_wp2_with fail
                go_quiet (fail)
                have hl2 := Lib.hid (belowN hlw nq)
                clear hlw s1 s2 t0' t1' b0 b1
                go_wp2_with fail
                go_roundw
                case rel => exact ⟨q + 1, by omega, by go_num, Hn2.out, hl2.out⟩
                case measure => simp [intOf]; omega
            · obtain rfl : q = j := by omega
              have Hn3 := Lib.hid (show AheadP now (L.take (q + 1)) ∧ OrdP (L.take (q + 1)) ∧ DisP (L.take (q + 1)) by
                refine ⟨?_, Hord.out, ?_⟩
                · rw [htk.out, ahead_snoc]; exact ⟨Ha.out.1, Hok.out⟩
                · rw [htk.out, dis_snoc]; exact ⟨Ha.out.2.2, Hno.out⟩)
              have hl2 := Lib.hid (bel2 hWV hlw)
              clear hlw t0' t1' b0 b1
              go_wp2_with fail
              go_roundw
              case rel => exact ⟨q + 1, by omega, by go_num, Hn3.out, hl2.out⟩
              case measure => simp [intOf]; omega
        · have i0 : j - 1 < n := by omega
          obtain ⟨gp, op, eA, _, p1, p2⟩ := hTV0.at_ i0
          cases eA
          have htp := Lib.hid (show L.take j = L.take (j - 1) ++ [tk L (j - 1)] by
            have := tk_take (L := L) (j := j - 1) (by rw [hlen.out]; omega)
            rwa [show j - 1 + 1 = j by omega] at this)
          generalize tk L (j - 1) = z at *
          obtain ⟨zk, zv⟩ := z
          simp only at p1 p2
          have HT := Lib.hid (show OrdP (L.take (j + 1)) ↔ bef (zk, zv) (xk, xv) by
            have := Ha.out.2.1
            rw [htp.out] at this
            rw [htk.out, htp.out]
            exact ord_two this)
          have q5 : IntKind.i64.wrap ((j : Int) - 1) = ((j - 1 : Nat) : Int) := by rw [show (j : Int) - 1 = ((j - 1 : Nat) : Int) by omega]; exact IntWalk.i64_in _ (by omega)
          generalize j - 1 = i at *
          have i1 : (0 : Int) ≤ (i : Int) := by omega
          have i2 : (i : Int) < (n : Int) := by omega
          have i3 : (i : Int) ≤ (n : Int) := by omega
          cases hb : befB (zk, zv) (xk, xv) with
          | false =>
            have Hf := Lib.hid (show rightB now L = false by
              cases hR : rightB now L with
              | false => rfl
              | true => exact absurd (HT.out.1 ((rightB_iff.1 hR).2.2.2.2.1.sub (List.take_sublist (j + 1) L))) (befB_no.1 hb))
            go_wp2_with fail
            rw [HV0.out]
            have y01 := bV0.cells
            have q1 : decide (xv ≤ now) = false := by rw [decide_eq_false_iff_not]; omega
            have q2 : decide (1099511627776 < xv) = false := by rw [decide_eq_false_iff_not]; omega
            have q3 : decide ((0 : Int) < (j : Int)) = true := by rw [decide_eq_true_iff]; omega
            have q4 : decide (0 < j) = true := by rw [decide_eq_true_iff]; omega
            go_region_held3 (fun W' => (W'.cell? ⟨w.heap.size, 0, none⟩ = some (.int .i64 now) ∧ W'.cell? ⟨w.heap.size, 1, none⟩ = some (.slice (some ⟨g, off, none⟩) n c)) ∧ W'.cell? ⟨wr.heap.size, 0, none⟩ = some (.int .i64 xk) ∧ W'.cell? ⟨wr.heap.size, 1, none⟩ = some (.int .i64 xv) ∧ W'.cell? ⟨g, off + i * 2, none⟩ = some (.int .i64 zk) ∧ W'.cell? ⟨g, off + i * 2 + 1, none⟩ = some (.int .i64 zv)) (first | exact ⟨y01, hc0, hc1, p1, p2⟩ | exact ⟨⟨cell_on hb1 y01.1, cell_on hb1 y01.2⟩, cell_on hb1 hc0, cell_on hb1 hc1, cell_on hb1 p1, cell_on hb1 p2⟩) (first
              | (go_at_call 28; refine (aheadR_c zk zv xk xv V0.drew).mono ?_; rintro e V ⟨rfl, hb1⟩; rw [hb]))
            have hb2 := below_drew hb1
            have hbe := Lib.hid (bel2 hbb0 hb2)
            clear y01 q1 q2 q3 q4 q5 hb1 hb2 hc0 hc1 p1 p2 x0 x1
            go_wp2_with fail
            go_ret
            exact ⟨by rw [Hf.out]; rfl, hbe.out⟩
          | true =>
            have Hord := Lib.hid (HT.out.2 (befB_iff.1 hb))
            go_wp2_with fail
            rw [HV0.out]
            have y01 := bV0.cells
            have q1 : decide (xv ≤ now) = false := by rw [decide_eq_false_iff_not]; omega
            have q2 : decide (1099511627776 < xv) = false := by rw [decide_eq_false_iff_not]; omega
            have q3 : decide ((0 : Int) < (j : Int)) = true := by rw [decide_eq_true_iff]; omega
            have q4 : decide (0 < j) = true := by rw [decide_eq_true_iff]; omega
            go_region_held3 (fun W' => (W'.cell? ⟨w.heap.size, 0, none⟩ = some (.int .i64 now) ∧ W'.cell? ⟨w.heap.size, 1, none⟩ = some (.slice (some ⟨g, off, none⟩) n c)) ∧ W'.cell? ⟨wr.heap.size, 0, none⟩ = some (.int .i64 xk) ∧ W'.cell? ⟨wr.heap.size, 1, none⟩ = some (.int .i64 xv) ∧ W'.cell? ⟨g, off + i * 2, none⟩ = some (.int .i64 zk) ∧ W'.cell? ⟨g, off + i * 2 + 1, none⟩ = some (.int .i64 zv)) (first | exact ⟨y01, hc0, hc1, p1, p2⟩ | exact ⟨⟨cell_on hb1 y01.1, cell_on hb1 y01.2⟩, cell_on hb1 hc0, cell_on hb1 hc1, cell_on hb1 p1, cell_on hb1 p2⟩) (first
              | (go_at_call 28; refine (aheadR_c zk zv xk xv V0.drew).mono ?_; rintro e V ⟨rfl, hb1⟩; rw [hb]))
            have hb2 := below_drew hb1
            have bV := bV0.on hb2 bV0.lt
            have hVT := hTV0.on hb2
            have t0 := cell_on hb2 hc0
            have t1 := cell_on hb2 hc1
            have hWV := bel2 hWV0 hb2
            have hbV := bel2 hb0 hWV
            clear y01 q1 q2 q3 q4 q5 hb1 hb2 p1 p2 hc0 hc1 hTV0 hWV0 hbb0 bV0 HV0 hbV0 d1 d2 x0 x1 bR hlow
            go_wp2_with fail
            go_loopw [5] (fun k wi => ∃ q : Nat, q ≤ j ∧ k = .int .i64 q ∧ (∀ p ∈ L.take q, p.1 ≠ xk) ∧ Below V.heap.size V wi) (fun k _ => j - (intOf k).toNat)
            case atStart => exact ⟨0, by omega, rfl, fun p hp => by simp at hp, Below.refl _ _⟩
            case round =>
              obtain ⟨q, hq, rfl, hno, hlw⟩ := hrel
              have Hno := Lib.hid hno
              clear hno
              obtain ⟨b0, b1⟩ := (bV.on hlw bV.lt).cells
              have t0' := cell_on hlw t0
              have t1' := cell_on hlw t1
              by_cases hqj : q < j
              · obtain ⟨gq, oq, eA, _, s1, s2⟩ := (hVT.on hlw).at_ (k := q) (by omega)
                cases eA
                have hql : q < L.length := by rw [hlen.out]; omega
                have Htq := Lib.hid (tk_take (L := L) hql)
                have Hmem := Lib.hid (show tk L q ∈ L.take j by
                  have h1 : tk L q ∈ L.take (q + 1) := by rw [tk_take hql]; simp
                  exact (List.take_sublist_take_left (by omega)).subset h1)
                generalize tk L q = y at *
                obtain ⟨yk, yv⟩ := y
                simp only at s1 s2
                have hqn : q < n := by omega
                by_cases hyx : yk = xk
                · have hq2 : (yk == xk) = true := by simp [hyx]
                  have Hf := Lib.hid (show rightB now L = false by
                    cases hR : rightB now L with
                    | false => rfl
                    | true =>
                      have hD := (rightB_iff.1 hR).2.2.2.2.2.sub (List.take_sublist (j + 1) L)
                      rw [htk.out, dis_snoc] at hD
                      exact absurd hyx (hD.2 _ Hmem.out))
                  clear hyx Hmem Htq
                  go_wp2_with fail
                  go_quiet (fail)
                  have hl2 := Lib.hid (belowN (bel2 hbV hlw) nq)
                  clear hlw s1 s2 t0' t1' b0 b1
                  go_wp2_with fail
                  go_ret
                  exact ⟨by rw [Hf.out]; rfl, hl2.out⟩
                · have hq2 : (yk == xk) = false := by simp [hyx]
                  have Hn2 := Lib.hid (show ∀ p ∈ L.take (q + 1), p.1 ≠ xk by
                    rw [Htq.out]
                    intro p hp
                    rcases List.mem_append.1 hp with hp | hp
                    · exact Hno.out p hp
                    · simp at hp; subst hp; exact hyx)
                  clear hyx Hmem Htq Hno
                  go_wp2_with fail
                  go_quiet (fail)
                  have hl2 := Lib.hid (belowN hlw nq)
                  clear hlw s1 s2 t0' t1' b0 b1
                  go_wp2_with fail
                  go_roundw
                  case rel => exact ⟨q + 1, by omega, by go_num, Hn2.out, hl2.out⟩
                  case measure => simp [intOf]; omega
              · obtain rfl : q = j := by omega
                have Hn3 := Lib.hid (show AheadP now (L.take (q + 1)) ∧ OrdP (L.take (q + 1)) ∧ DisP (L.take (q + 1)) by
                  refine ⟨?_, Hord.out, ?_⟩
                  · rw [htk.out, ahead_snoc]; exact ⟨Ha.out.1, Hok.out⟩
                  · rw [htk.out, dis_snoc]; exact ⟨Ha.out.2.2, Hno.out⟩)
                have hl2 := Lib.hid (bel2 hWV hlw)
                clear hlw t0' t1' b0 b1
                go_wp2_with fail
                go_roundw
                case rel => exact ⟨q + 1, by omega, by go_num, Hn3.out, hl2.out⟩
                case measure => simp [intOf]; omega
      · have Hf := Lib.hid (show rightB now L = false by
          cases hR : rightB now L with
          | false => rfl
          | true =>
            have hD := (rightB_iff.1 hR).2.2.2.1.sub (List.take_sublist (j + 1) L)
            rw [htk.out, ahead_snoc] at hD
            exact absurd hD.2 hok)
        rcases Int.lt_or_le now xv with hx | hx
        · have k1 : ¬ xv ≤ now := by omega
          have k2 : 1099511627776 < xv := by simp only [lastT] at hok; omega
          clear hok
          go_wp2_with fail
          rw [HV0.out]
          obtain ⟨y0, y1⟩ := bV0.cells
          have q1 : decide (xv ≤ now) = false := by rw [decide_eq_false_iff_not]; omega
          have q2 : decide (1099511627776 < xv) = true := by rw [decide_eq_true_iff]; omega
          go_quiet (fail)
          clear y0 y1 x0 x1 q1 q2
          go_wp2_with fail
          go_ret
          exact ⟨by rw [Hf.out]; rfl, belowN hbb0 nq⟩
        · clear hok
          go_wp2_with fail
          rw [HV0.out]
          obtain ⟨y0, y1⟩ := bV0.cells
          have q1 : decide (xv ≤ now) = true := by rw [decide_eq_true_iff]; omega
          go_quiet (fail)
          clear y0 y1 x0 x1 q1
          go_wp2_with fail
          go_ret
          exact ⟨by rw [Hf.out]; rfl, belowN hbb0 nq⟩
    · obtain rfl : j = n := by omega
      have hal := Ha.out
      rw [List.take_of_length_le (by rw [hlen.out]; exact Nat.le_refl _)] at hal
      have HR := Lib.hid (show rightB now L = true ↔ 0 ≤ now ∧ now ≤ 1099511627776 ∧ j ≤ 1000 by
        rw [rightB_iff]
        unfold RightP
        rw [hlen.out]
        constructor
        · rintro ⟨a, b, c, _⟩; exact ⟨b, c, a⟩
        · rintro ⟨a, b, c⟩; exact ⟨c, a, b, hal.1, hal.2.1, hal.2.2⟩)
      have hbb := bel2 hb0 hlow
      clear hal Ha hlow bR hWT bx hb0
      go_wp2_with fail
      all_goals go_ret
      all_goals refine ⟨ret_bool ?_, hbb⟩
      all_goals rw [Bool.eq_iff_iff, HR.out]; simp only [decide_eq_true_eq, Bool.false_eq_true, false_iff, true_iff]; omega
end Go.Proofs.Ytgpmgghjcocfmaa
