/-
  The law WheelNext: its walk. Condition: the timers can be read.
-/
import Derived.Test.YtgpmgghjcocfmaaWhK
set_option linter.unusedVariables false
set_option linter.unusedSimpArgs false
namespace Go.Proofs.Ytgpmgghjcocfmaa
open Go.RowKit

theorem wrap_in {x : Int} (h : -9223372036854775808 ≤ x ∧ x < 9223372036854775808) : wrap64 x = x := by unfold wrap64; omega

set_option maxRecDepth 100000 in
set_option maxHeartbeats 4000000 in
theorem next_walk (now : Int) (A : Option Addr) (n c : Nat) (L : List (Int × Int)) (w : World) (h : TR w A n c L) :
    Calls Try.prog 8 #[.agg #[.int .i64 now, .slice A n c]] w fun e w' => e = .returned (.bool true) ∧ Below w.heap.size w w' := by
  obtain ⟨W, hW, bx, hb0⟩ := boxed w 24 now A n c
  have HW := Lib.hid hW
  clear hW
  have hT0 := h.on hb0
  have hlen := h.len
  clear h
  go_enter Try.func8, Try.ntmps8
  go_wp2_with fail
  rw [HW.out]
  refine (alive_c W).mono ?_
  rintro e w1 ⟨rfl, k1⟩
  have bx1 := bx.on k1 bx.lt
  have h1 := hT0.on k1
  have hb1 := bel2 hb0 k1
  clear bx hT0 hb0 k1 HW
  obtain ⟨d0, d1⟩ := bx1.cells
  by_cases hbig : (100 : Int) < (n : Int)
  · go_wp2_with fail
    go_ret
    exact ⟨rfl, hb1⟩
  have hn : n ≤ 100000 := by omega
  have hr := right_r now A n c L w1 h1 hn
  cases hR : rightB now L with
  | false =>
    rw [hR] at hr
    clear hR
    go_wp2_with fail
    refine hr.mono ?_
    rintro e w2 ⟨rfl, k2⟩
    have hb2 := bel2 hb1 k2
    clear hr d0 d1
    go_wp2_with fail
    go_ret
    exact ⟨rfl, hb2⟩
  | true =>
    rw [hR] at hr
    have HR := Lib.hid (rightB_iff.1 hR)
    have HRb := Lib.hid hR
    clear hR
    go_wp2_with fail
    refine hr.mono ?_
    rintro e w2 ⟨rfl, k2⟩
    have bx2 := bx1.on k2 bx1.lt
    have h2 := h1.on k2
    have hb2 := bel2 hb1 k2
    clear hr d0 d1 bx1 h1 hb1 k2
    obtain ⟨d0, d1⟩ := bx2.cells
    go_wp2_with fail
    refine (theirs_c now A n c L w2 h2 hn).mono ?_
    rintro e w3 ⟨A3, n3, c3, rfl, hx3, k3⟩
    have bx3 := bx2.on k3 bx2.lt
    have h3 := h2.on k3
    have hb3 := bel2 hb2 k3
    have hn3 : n3 ≤ 100000 := by have := hx3.len; omega
    clear d0 d1 bx2 h2 hb2 k3
    have hnx := next_w now A3 n3 c3 L w3 hx3.tr hn3
    rcases Nat.eq_zero_or_pos n with h0 | h0
    · have e1 : xNext now L = 0 := by unfold xNext; rw [hlen, h0]; simp
      have e2 : bNext now L = false := by unfold bNext; rw [hlen, h0]; simp
      rw [e1, e2] at hnx
      clear e1 e2
      subst h0
      go_wp2_with fail
      refine hnx.mono ?_
      rintro e w4 ⟨rfl, k4⟩
      have bx4 := bx3.on k4 bx3.lt
      have hb4 := bel2 hb3 k4
      obtain ⟨d0, d1⟩ := bx4.cells
      clear hnx bx3 h3 hb3 hx3 k4
      go_wp2_with fail
      go_ret
      exact ⟨rfl, hb4⟩
    · have hL0 : 0 < L.length := by omega
      obtain ⟨q1, q2, q3, q4, q5, q6⟩ := HR.out
      have hA0 := q4 _ (tk_mem hL0)
      simp only [lastT] at hA0 q3
      have e1 : xNext now L = (tk L 0).2 - now := by unfold xNext; rw [if_pos ⟨HRb.out, hL0⟩]
      have e2 : bNext now L = true := by unfold bNext; rw [HRb.out]; simp; omega
      have hmin : ∀ p ∈ L, (tk L 0).2 ≤ p.2 := by
        intro p hp
        have e := tk_drop hL0
        simp only [List.drop_zero] at e
        rw [e] at hp q5
        rcases List.mem_cons.1 hp with rfl | hp
        · exact Int.le_refl _
        · exact ord_low q5 hp
      have hmem := tk_mem hL0
      rw [e1, e2] at hnx
      clear e1 e2
      obtain ⟨N, hN⟩ : ∃ N, (tk L 0).2 - now = N := ⟨_, rfl⟩
      rw [hN] at hnx
      have t1 : eTick now L (N - 1) = 0 := eTick_ok.2 ⟨HR.out, by omega, by simp only [lastT]; omega⟩
      have t2 : rTick now L (N - 1) = [] := by
        unfold rTick
        rw [if_pos t1, fr_none (fun p hp => by have := hmin p hp; omega)]
        rfl
      have t3 : sTick now L (N - 1) = L := by
        unfold sTick
        rw [if_pos t1, lf_all (fun p hp => by have := hmin p hp; omega)]
      have t4 : nTick now L (N - 1) = now + (N - 1) := by unfold nTick; rw [if_pos t1]
      have hR2 : RightP (now + (N - 1)) L := by
        have := right_tick (by_ := N - 1) HR.out
        rwa [t3, t4] at this
      have u1 : eTick (now + (N - 1)) L 1 = 0 := eTick_ok.2 ⟨hR2, by omega, by simp only [lastT]; omega⟩
      have u2 : 0 < (rTick (now + (N - 1)) L 1).length := by
        unfold rTick
        rw [if_pos u1, List.length_map]
        refine List.length_pos_of_mem (a := tk L 0) ?_
        unfold fr
        refine List.mem_filter.2 ⟨hmem, ?_⟩
        simp
        omega
      have Hu2 := Lib.hid u2
      have hNw : wrap64 (N - 1) = N - 1 := wrap_in (by omega)
      have hN1 : 1 ≤ N := by omega
      clear u2 hmin hmem hA0 q1 q2 q3 q4 q5 q6 hR2 HR hN
      go_wp2_with fail
      refine hnx.mono ?_
      rintro e w4 ⟨rfl, k4⟩
      have bx4 := bx3.on k4 bx3.lt
      have hb4 := bel2 hb3 k4
      have h4 := h3.on k4
      obtain ⟨d0, d1⟩ := bx4.cells
      clear hnx bx3 h3 hb3 hx3 k4
      go_wp2_with fail
      refine (theirs_c now A n c L w4 h4 hn).mono ?_
      rintro e w5 ⟨A5, n5, c5, rfl, hx5, k5⟩
      have hb5 := bel2 hb4 k5
      have hn5 : n5 ≤ 100000 := by have := hx5.len; omega
      have htk := tick_w now A5 n5 c5 (N - 1) L w5 hx5.tr hn5
      rw [t1, t2, t3, t4] at htk
      clear d0 d1 bx4 h4 hb4 k5 t1 t2 t3 t4
      go_wp2_with fail
      refine htk.mono ?_
      rintro e w6 ⟨A6, n6, c6, B6, m6, s6, rfl, hx6, hi6, k6⟩
      obtain rfl : m6 = 0 := by have := hi6.len; simpa using this.symm
      have hb6 := bel2 hb5 k6
      have hn6 : n6 ≤ 100000 := by have := hx6.len; omega
      clear htk hx5 hb5 k6
      generalize now + (N - 1) = nw at *
      go_wp2_with fail
      obtain ⟨W6, hW6, bx6, kW6⟩ := boxed w6 28 nw A6 n6 c6
      rw [hW6]
      have hx7 := hx6.on kW6
      have hb7 := bel2 hb6 kW6
      clear hW6 hx6 hi6 hb6 kW6
      generalize w6.heap.size = b6 at *
      have htk := tick_w nw A6 n6 c6 1 L W6 hx7.tr hn6
      rw [u1] at htk
      refine htk.mono ?_
      rintro e w8 ⟨A8, n8, c8, B8, m8, s8, rfl, hx8, hi8, k8⟩
      have hm8 : (1 : Int) ≤ (m8 : Int) := by have := hi8.len; have := Hu2.out; omega
      have hb8 := bel2 hb7 k8
      have hb9 : Below w.heap.size w (w8.alloc (.cells #[.int .i64 (nTick nw L 1), .slice A8 n8 c8] 28)) := hb8.alloc hb8.size _
      clear htk hx7 hb7 k8 hx8 hi8 u1
      go_wp2_with fail
      go_ret
      exact ⟨rfl, hb9⟩
end Go.Proofs.Ytgpmgghjcocfmaa
