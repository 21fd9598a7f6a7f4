/-
  The walk of the law TermsBounded: it returns true and leaves all memory that was there. Condition: the moments can be read.
-/
import Derived.Test.YtgmkjpkbkiimdaaTeB
import Derived.Test.YtgmkjpkbkiimdaaTeE
set_option linter.unusedVariables false
set_option linter.unusedSimpArgs false
namespace Go.Proofs.Ytgmkjpkbkiimdaa
open Go.RowKit

set_option maxRecDepth 100000 in
set_option maxHeartbeats 8000000 in
theorem bounded_walk (dl sp us cp : Int) (A : Option Addr) (n c : Nat) (l : List Int) (w : World) (h : RR w ic 1 A n c l) : Calls Try.prog 5 #[.agg #[.int .i64 dl, .int .i64 sp, .int .i64 us, .int .i64 cp], .slice A n c] w fun r w' => r = .returned (.bool true) ∧ Below w.heap.size w w' := by
  have hmx : n ≤ maxLen := Nat.le_trans h.cap h.max
  simp only [maxLen] at hmx
  cases hrt : rightT ⟨dl, sp, us, cp⟩ with
  | false =>
    have R1 := fun W => right_r dl sp us cp W
    simp only [hrt] at R1
    clear hrt h
    obtain ⟨W1, hW1⟩ : ∃ V, w.alloc (.cells #[.int .i64 dl, .int .i64 sp, .int .i64 us, .int .i64 cp] 23) = V := ⟨_, rfl⟩
    have nW1_t : CB W1 (w.heap.size) 23 #[.int .i64 dl, .int .i64 sp, .int .i64 us, .int .i64 cp] := by
      rw [← hW1]
      have := (CB.new w 23 #[.int .i64 dl, .int .i64 sp, .int .i64 us, .int .i64 cp])
      simpa using this
    have lW1 : Below w.heap.size w W1 := by rw [← hW1]; exact le_al _ _
    have HW1 := Lib.hid hW1
    clear hW1
    go_enter Try.func5, Try.ntmps5
    go_wp2_with fail
    rw [HW1.out]
    refine (alive_c _).mono ?_
    rintro e w2 ⟨rfl, b2⟩
    have r3_t := le_on nW1_t b2
    have l3 := le_tr lW1 b2
    clear nW1_t lW1
    clear b2
    have f3_t0 : w2.cell? ⟨w.heap.size, 0, none⟩ = some (.int .i64 dl) := CB.cell r3_t 0
    have f3_t1 : w2.cell? ⟨w.heap.size, 1, none⟩ = some (.int .i64 sp) := CB.cell r3_t 1
    have f3_t2 : w2.cell? ⟨w.heap.size, 2, none⟩ = some (.int .i64 us) := CB.cell r3_t 2
    have f3_t3 : w2.cell? ⟨w.heap.size, 3, none⟩ = some (.int .i64 cp) := CB.cell r3_t 3
    go_wp2_with fail
    refine (R1 _).mono ?_
    rintro e w4 ⟨rfl, b4⟩
    clear f3_t0 f3_t1 f3_t2 f3_t3
    have r5_t := le_on r3_t b4
    have l5 := le_tr l3 b4
    clear r3_t l3
    clear b4
    go_wp2_with fail
    go_ret
    exact ⟨rfl, l5⟩
  | true =>
    by_cases hn : 200 < n
    · have hn' : decide ((200 : Int) < (n : Int)) = true := by simp; omega
      have R1 := fun W => right_r dl sp us cp W
      simp only [hrt] at R1
      clear hrt h hn
      obtain ⟨W1, hW1⟩ : ∃ V, w.alloc (.cells #[.int .i64 dl, .int .i64 sp, .int .i64 us, .int .i64 cp] 23) = V := ⟨_, rfl⟩
      have nW1_t : CB W1 (w.heap.size) 23 #[.int .i64 dl, .int .i64 sp, .int .i64 us, .int .i64 cp] := by
        rw [← hW1]
        have := (CB.new w 23 #[.int .i64 dl, .int .i64 sp, .int .i64 us, .int .i64 cp])
        simpa using this
      have lW1 : Below w.heap.size w W1 := by rw [← hW1]; exact le_al _ _
      have HW1 := Lib.hid hW1
      clear hW1
      go_enter Try.func5, Try.ntmps5
      go_wp2_with fail
      rw [HW1.out]
      refine (alive_c _).mono ?_
      rintro e w2 ⟨rfl, b2⟩
      have r3_t := le_on nW1_t b2
      have l3 := le_tr lW1 b2
      clear nW1_t lW1
      clear b2
      have f3_t0 : w2.cell? ⟨w.heap.size, 0, none⟩ = some (.int .i64 dl) := CB.cell r3_t 0
      have f3_t1 : w2.cell? ⟨w.heap.size, 1, none⟩ = some (.int .i64 sp) := CB.cell r3_t 1
      have f3_t2 : w2.cell? ⟨w.heap.size, 2, none⟩ = some (.int .i64 us) := CB.cell r3_t 2
      have f3_t3 : w2.cell? ⟨w.heap.size, 3, none⟩ = some (.int .i64 cp) := CB.cell r3_t 3
      go_wp2_with fail
      refine (R1 _).mono ?_
      rintro e w4 ⟨rfl, b4⟩
      clear f3_t0 f3_t1 f3_t2 f3_t3
      have r5_t := le_on r3_t b4
      have l5 := le_tr l3 b4
      clear r3_t l3
      clear b4
      go_wp2_with fail
      go_ret
      exact ⟨rfl, l5⟩
    have hn' : decide ((200 : Int) < (n : Int)) = false := by simp; omega
    clear hn
    have R1 := fun W => right_r dl sp us cp W
    have L1 := fun W => last_c dl sp us cp W
    have HR := Lib.hid (right_iff.1 hrt)
    obtain ⟨la, hla⟩ : ∃ z, lastT ⟨dl, sp, us, cp⟩ = z := ⟨_, rfl⟩
    have hl0 : lastR ⟨dl, sp, us, cp⟩ = la := by unfold lastR; rw [if_pos hrt, hla]
    simp only [hrt] at R1
    simp only [hl0] at L1
    have HL := Lib.hid hla
    clear hl0 hrt hla
    obtain ⟨W1, hW1⟩ : ∃ V, w.alloc (.cells #[.int .i64 dl, .int .i64 sp, .int .i64 us, .int .i64 cp] 23) = V := ⟨_, rfl⟩
    have nW1_t : CB W1 (w.heap.size) 23 #[.int .i64 dl, .int .i64 sp, .int .i64 us, .int .i64 cp] := by
      rw [← hW1]
      have := (CB.new w 23 #[.int .i64 dl, .int .i64 sp, .int .i64 us, .int .i64 cp])
      simpa using this
    have lW1 : Below w.heap.size w W1 := by rw [← hW1]; exact le_al _ _
    have HW1 := Lib.hid hW1
    clear hW1
    go_enter Try.func5, Try.ntmps5
    go_wp2_with fail
    rw [HW1.out]
    refine (alive_c _).mono ?_
    rintro e w2 ⟨rfl, b2⟩
    have r3_t := le_on nW1_t b2
    have l3 := le_tr lW1 b2
    clear nW1_t lW1
    clear b2
    have f3_t0 : w2.cell? ⟨w.heap.size, 0, none⟩ = some (.int .i64 dl) := CB.cell r3_t 0
    have f3_t1 : w2.cell? ⟨w.heap.size, 1, none⟩ = some (.int .i64 sp) := CB.cell r3_t 1
    have f3_t2 : w2.cell? ⟨w.heap.size, 2, none⟩ = some (.int .i64 us) := CB.cell r3_t 2
    have f3_t3 : w2.cell? ⟨w.heap.size, 3, none⟩ = some (.int .i64 cp) := CB.cell r3_t 3
    go_wp2_with fail
    refine (R1 _).mono ?_
    rintro e w4 ⟨rfl, b4⟩
    clear f3_t0 f3_t1 f3_t2 f3_t3
    have r5_t := le_on r3_t b4
    have l5 := le_tr l3 b4
    clear r3_t l3
    clear b4
    have f5_t0 : w4.cell? ⟨w.heap.size, 0, none⟩ = some (.int .i64 dl) := CB.cell r5_t 0
    have f5_t1 : w4.cell? ⟨w.heap.size, 1, none⟩ = some (.int .i64 sp) := CB.cell r5_t 1
    have f5_t2 : w4.cell? ⟨w.heap.size, 2, none⟩ = some (.int .i64 us) := CB.cell r5_t 2
    have f5_t3 : w4.cell? ⟨w.heap.size, 3, none⟩ = some (.int .i64 cp) := CB.cell r5_t 3
    have av_x : w.heap.size ≤ w4.heap.size := by have := l5.size; omega
    obtain ⟨W6, hW6⟩ : ∃ V, w4.alloc (.cells #[.int .i64 dl, .int .i64 sp, .int .i64 us, .int .i64 cp] 25) = V := ⟨_, rfl⟩
    have zW6 : w4.heap.size = w4.heap.size := by rfl
    have nW6 : CB W6 (w4.heap.size) 25 #[.int .i64 dl, .int .i64 sp, .int .i64 us, .int .i64 cp] := by rw [← zW6, ← hW6]; exact CB.new _ _ _
    have bW6 : Below w4.heap.size w4 W6 := by rw [← hW6]; exact le_al _ _
    have neW6_t : w.heap.size ≠ w4.heap.size := by have := CB.lt r5_t; omega
    have HW6 := Lib.hid hW6
    clear hW6 zW6
    have r7_t := le_on r5_t bW6
    have l7 := le_tr l5 bW6
    clear r5_t l5
    clear bW6
    have f7_t0 : (w4.alloc (.cells #[.int .i64 dl, .int .i64 sp, .int .i64 us, .int .i64 cp] 25)).cell? ⟨w.heap.size, 0, none⟩ = some (.int .i64 dl) := by rw [HW6.out]; exact CB.cell r7_t 0
    have f7_t1 : (w4.alloc (.cells #[.int .i64 dl, .int .i64 sp, .int .i64 us, .int .i64 cp] 25)).cell? ⟨w.heap.size, 1, none⟩ = some (.int .i64 sp) := by rw [HW6.out]; exact CB.cell r7_t 1
    have f7_t2 : (w4.alloc (.cells #[.int .i64 dl, .int .i64 sp, .int .i64 us, .int .i64 cp] 25)).cell? ⟨w.heap.size, 2, none⟩ = some (.int .i64 us) := by rw [HW6.out]; exact CB.cell r7_t 2
    have f7_t3 : (w4.alloc (.cells #[.int .i64 dl, .int .i64 sp, .int .i64 us, .int .i64 cp] 25)).cell? ⟨w.heap.size, 3, none⟩ = some (.int .i64 cp) := by rw [HW6.out]; exact CB.cell r7_t 3
    have f7_x0 : (w4.alloc (.cells #[.int .i64 dl, .int .i64 sp, .int .i64 us, .int .i64 cp] 25)).cell? ⟨w4.heap.size, 0, none⟩ = some (.int .i64 dl) := by rw [HW6.out]; exact CB.cell nW6 0
    have f7_x1 : (w4.alloc (.cells #[.int .i64 dl, .int .i64 sp, .int .i64 us, .int .i64 cp] 25)).cell? ⟨w4.heap.size, 1, none⟩ = some (.int .i64 sp) := by rw [HW6.out]; exact CB.cell nW6 1
    have f7_x2 : (w4.alloc (.cells #[.int .i64 dl, .int .i64 sp, .int .i64 us, .int .i64 cp] 25)).cell? ⟨w4.heap.size, 2, none⟩ = some (.int .i64 us) := by rw [HW6.out]; exact CB.cell nW6 2
    have f7_x3 : (w4.alloc (.cells #[.int .i64 dl, .int .i64 sp, .int .i64 us, .int .i64 cp] 25)).cell? ⟨w4.heap.size, 3, none⟩ = some (.int .i64 cp) := by rw [HW6.out]; exact CB.cell nW6 3
    go_wp2_with fail
    rw [HW6.out]
    refine (L1 _).mono ?_
    rintro e w8 ⟨rfl, b8⟩
    clear f5_t0 f5_t1 f5_t2 f5_t3 f7_t0 f7_t1 f7_t2 f7_t3 f7_x0 f7_x1 f7_x2 f7_x3
    have r9_x := le_on nW6 b8
    have l9 := le_tr l7 b8
    clear r7_t nW6 l7
    clear b8
    go_wp2_with fail
    go_loopw [26] (fun iv wr => ∃ (k : Nat) (d u : Int), k ≤ n ∧ iv = .int .i64 k ∧ Hid (RightT ⟨d, sp, u, cp⟩) ∧ Hid (lastT ⟨d, sp, u, cp⟩ = la) ∧ CB wr (w4.heap.size) 25 #[.int .i64 d, .int .i64 sp, .int .i64 u, .int .i64 cp] ∧ Below w.heap.size w wr) (fun iv _ => n - (intOf iv).toNat)
    case atStart => exact ⟨0, dl, us, by omega, rfl, HR, HL, r9_x, l9⟩
    case round =>
      clear r9_x l9 HR HL
      obtain ⟨k, d, u, hk, rfl, HQ, HM, hx', hb'⟩ := hrel
      by_cases hlt : k < n
      · obtain ⟨g, off, x, hx, rfl, c1⟩ := (h.on hb').i64 hlt
        clear hx
        have hrt := right_iff.2 HQ.out
        have Hnext := right_ext x HQ.out
        have hdl := dl_last Hnext.1
        rw [Hnext.2.1, HM.out] at hdl
        have E1 := fun W => extend_c d sp u cp x W
        by_cases hv : d ≤ x
        · have He := eExt_11 (t := ⟨d, sp, u, cp⟩) (x := x) hrt hv
          have Hs := sExt_n (t := ⟨d, sp, u, cp⟩) (x := x) (by rw [He]; decide)
          simp only [He, Hs] at E1
          rw [Hs] at Hnext hdl
          have Hn := Hnext
          have R2 := fun W => right_c d sp u cp W
          have L2 := fun W => last_c d sp u cp W
          have hr2 := right_iff.2 Hn.1
          have hl2 : lastR ⟨d, sp, u, cp⟩ = la := by unfold lastR; rw [if_pos hr2, Hn.2.1, HM.out]
          simp only [hr2] at R2
          simp only [hl2] at L2
          have HQ2 := Lib.hid Hn.1
          have HM2 := Lib.hid (Hn.2.1.trans HM.out)
          have t1 : decide (la < d) = false := by simp; omega
          have t2 : (la != la) = false := by simp
          have t3 : (cp != cp) = false := by simp
          have t4 : (sp != sp) = false := by simp
          have t5 : (d == d) = true := by simp
          have t6 : (u == u) = true := by simp
          have t7 : (sp == sp) = true := by simp
          have t8 : (cp == cp) = true := by simp
          clear hv
          clear Hnext Hn hr2 hl2 He Hs hdl hrt HQ HM
          have f211_x0 : wr.cell? ⟨w4.heap.size, 0, none⟩ = some (.int .i64 d) := CB.cell hx' 0
          have f211_x1 : wr.cell? ⟨w4.heap.size, 1, none⟩ = some (.int .i64 sp) := CB.cell hx' 1
          have f211_x2 : wr.cell? ⟨w4.heap.size, 2, none⟩ = some (.int .i64 u) := CB.cell hx' 2
          have f211_x3 : wr.cell? ⟨w4.heap.size, 3, none⟩ = some (.int .i64 cp) := CB.cell hx' 3
          go_wp2_with fail
          refine (E1 _).mono ?_
          rintro e w212 ⟨rfl, b212⟩
          clear f211_x0 f211_x1 f211_x2 f211_x3
          have r213_x := le_on hx' b212
          have l213 := le_tr hb' b212
          clear hx' hb'
          clear b212
          clear c1
          have av_y : w.heap.size ≤ w212.heap.size := by have := l213.size; omega
          obtain ⟨W214, hW214⟩ : ∃ V, w212.alloc (.cells #[.int .i64 d, .int .i64 sp, .int .i64 u, .int .i64 cp] 25) = V := ⟨_, rfl⟩
          have zW214 : w212.heap.size = w212.heap.size := by rfl
          have nW214 : CB W214 (w212.heap.size) 25 #[.int .i64 d, .int .i64 sp, .int .i64 u, .int .i64 cp] := by rw [← zW214, ← hW214]; exact CB.new _ _ _
          have bW214 : Below w212.heap.size w212 W214 := by rw [← hW214]; exact le_al _ _
          have neW214_x : w4.heap.size ≠ w212.heap.size := by have := CB.lt r213_x; omega
          have HW214 := Lib.hid hW214
          clear hW214 zW214
          have r215_x := le_on r213_x bW214
          have l215 := le_tr l213 bW214
          clear r213_x l213
          clear bW214
          have f215_x0 : (w212.alloc (.cells #[.int .i64 d, .int .i64 sp, .int .i64 u, .int .i64 cp] 25)).cell? ⟨w4.heap.size, 0, none⟩ = some (.int .i64 d) := by rw [HW214.out]; exact CB.cell r215_x 0
          have f215_x1 : (w212.alloc (.cells #[.int .i64 d, .int .i64 sp, .int .i64 u, .int .i64 cp] 25)).cell? ⟨w4.heap.size, 1, none⟩ = some (.int .i64 sp) := by rw [HW214.out]; exact CB.cell r215_x 1
          have f215_x2 : (w212.alloc (.cells #[.int .i64 d, .int .i64 sp, .int .i64 u, .int .i64 cp] 25)).cell? ⟨w4.heap.size, 2, none⟩ = some (.int .i64 u) := by rw [HW214.out]; exact CB.cell r215_x 2
          have f215_x3 : (w212.alloc (.cells #[.int .i64 d, .int .i64 sp, .int .i64 u, .int .i64 cp] 25)).cell? ⟨w4.heap.size, 3, none⟩ = some (.int .i64 cp) := by rw [HW214.out]; exact CB.cell r215_x 3
          have f215_y0 : (w212.alloc (.cells #[.int .i64 d, .int .i64 sp, .int .i64 u, .int .i64 cp] 25)).cell? ⟨w212.heap.size, 0, none⟩ = some (.int .i64 d) := by rw [HW214.out]; exact CB.cell nW214 0
          have f215_y1 : (w212.alloc (.cells #[.int .i64 d, .int .i64 sp, .int .i64 u, .int .i64 cp] 25)).cell? ⟨w212.heap.size, 1, none⟩ = some (.int .i64 sp) := by rw [HW214.out]; exact CB.cell nW214 1
          have f215_y2 : (w212.alloc (.cells #[.int .i64 d, .int .i64 sp, .int .i64 u, .int .i64 cp] 25)).cell? ⟨w212.heap.size, 2, none⟩ = some (.int .i64 u) := by rw [HW214.out]; exact CB.cell nW214 2
          have f215_y3 : (w212.alloc (.cells #[.int .i64 d, .int .i64 sp, .int .i64 u, .int .i64 cp] 25)).cell? ⟨w212.heap.size, 3, none⟩ = some (.int .i64 cp) := by rw [HW214.out]; exact CB.cell nW214 3
          go_wp2_with fail
          rw [HW214.out]
          refine (R2 _).mono ?_
          rintro e w216 ⟨rfl, b216⟩
          clear f215_x0 f215_x1 f215_x2 f215_x3 f215_y0 f215_y1 f215_y2 f215_y3
          have r217_x := le_on r215_x b216
          have r217_y := le_on nW214 b216
          have l217 := le_tr l215 b216
          clear r215_x nW214 l215
          clear b216
          have f217_x0 : w216.cell? ⟨w4.heap.size, 0, none⟩ = some (.int .i64 d) := CB.cell r217_x 0
          have f217_x1 : w216.cell? ⟨w4.heap.size, 1, none⟩ = some (.int .i64 sp) := CB.cell r217_x 1
          have f217_x2 : w216.cell? ⟨w4.heap.size, 2, none⟩ = some (.int .i64 u) := CB.cell r217_x 2
          have f217_x3 : w216.cell? ⟨w4.heap.size, 3, none⟩ = some (.int .i64 cp) := CB.cell r217_x 3
          have f217_y0 : w216.cell? ⟨w212.heap.size, 0, none⟩ = some (.int .i64 d) := CB.cell r217_y 0
          have f217_y1 : w216.cell? ⟨w212.heap.size, 1, none⟩ = some (.int .i64 sp) := CB.cell r217_y 1
          have f217_y2 : w216.cell? ⟨w212.heap.size, 2, none⟩ = some (.int .i64 u) := CB.cell r217_y 2
          have f217_y3 : w216.cell? ⟨w212.heap.size, 3, none⟩ = some (.int .i64 cp) := CB.cell r217_y 3
          go_wp2_with fail
          refine (L2 _).mono ?_
          rintro e w218 ⟨rfl, b218⟩
          clear f217_x0 f217_x1 f217_x2 f217_x3 f217_y0 f217_y1 f217_y2 f217_y3
          have r219_x := le_on r217_x b218
          have r219_y := le_on r217_y b218
          have l219 := le_tr l217 b218
          clear r217_x r217_y l217
          clear b218
          have f219_x0 : w218.cell? ⟨w4.heap.size, 0, none⟩ = some (.int .i64 d) := CB.cell r219_x 0
          have f219_x1 : w218.cell? ⟨w4.heap.size, 1, none⟩ = some (.int .i64 sp) := CB.cell r219_x 1
          have f219_x2 : w218.cell? ⟨w4.heap.size, 2, none⟩ = some (.int .i64 u) := CB.cell r219_x 2
          have f219_x3 : w218.cell? ⟨w4.heap.size, 3, none⟩ = some (.int .i64 cp) := CB.cell r219_x 3
          have f219_y0 : w218.cell? ⟨w212.heap.size, 0, none⟩ = some (.int .i64 d) := CB.cell r219_y 0
          have f219_y1 : w218.cell? ⟨w212.heap.size, 1, none⟩ = some (.int .i64 sp) := CB.cell r219_y 1
          have f219_y2 : w218.cell? ⟨w212.heap.size, 2, none⟩ = some (.int .i64 u) := CB.cell r219_y 2
          have f219_y3 : w218.cell? ⟨w212.heap.size, 3, none⟩ = some (.int .i64 cp) := CB.cell r219_y 3
          have z219_x0 : w218.frozen? ⟨w4.heap.size, 0, none⟩ = false := CB.frozen r219_x 0
          have z219_x1 : w218.frozen? ⟨w4.heap.size, 1, none⟩ = false := CB.frozen r219_x 1
          have z219_x2 : w218.frozen? ⟨w4.heap.size, 2, none⟩ = false := CB.frozen r219_x 2
          have z219_x3 : w218.frozen? ⟨w4.heap.size, 3, none⟩ = false := CB.frozen r219_x 3
          obtain ⟨V220, hV220⟩ : ∃ V, (((w218.setCell ⟨w4.heap.size, 0, none⟩ (.int .i64 d)).setCell ⟨w4.heap.size, 1, none⟩ (.int .i64 sp)).setCell ⟨w4.heap.size, 2, none⟩ (.int .i64 u)).setCell ⟨w4.heap.size, 3, none⟩ (.int .i64 cp) = V := ⟨_, rfl⟩
          have nV220 : CB V220 (w4.heap.size) 25 #[.int .i64 d, .int .i64 sp, .int .i64 u, .int .i64 cp] := by rw [← hV220]; exact cb_cast (CB.put (CB.put (CB.put (CB.put r219_x 0 (.int .i64 d)) 1 (.int .i64 sp)) 2 (.int .i64 u)) 3 (.int .i64 cp)) (by kernel_rfl)
          have mV220_y : CB V220 (w212.heap.size) 25 #[.int .i64 d, .int .i64 sp, .int .i64 u, .int .i64 cp] := by rw [← hV220]; exact (CB.far (CB.far (CB.far (CB.far r219_y (p := ⟨w4.heap.size, 0, none⟩) (Ne.symm neW214_x) (.int .i64 d)) (p := ⟨w4.heap.size, 1, none⟩) (Ne.symm neW214_x) (.int .i64 sp)) (p := ⟨w4.heap.size, 2, none⟩) (Ne.symm neW214_x) (.int .i64 u)) (p := ⟨w4.heap.size, 3, none⟩) (Ne.symm neW214_x) (.int .i64 cp))
          have oV220 := (Below.setCell (Below.setCell (Below.setCell (Below.setCell l219 (p := ⟨w4.heap.size, 0, none⟩) (by have := av_x; dsimp only; omega) (.int .i64 d)) (p := ⟨w4.heap.size, 1, none⟩) (by have := av_x; dsimp only; omega) (.int .i64 sp)) (p := ⟨w4.heap.size, 2, none⟩) (by have := av_x; dsimp only; omega) (.int .i64 u)) (p := ⟨w4.heap.size, 3, none⟩) (by have := av_x; dsimp only; omega) (.int .i64 cp))
          rw [hV220] at oV220
          have HV220 := Lib.hid hV220
          clear hV220
          clear r219_x r219_y l219
          go_wp2_with fail
          rw [HV220.out]
          go_roundw
          case rel => exact ⟨k + 1, d, u, by omega, by go_num, HQ2, HM2, nV220, oV220⟩
          case measure => simp [intOf]; omega
        by_cases hu : u = cp
        · have He := eExt_12 (t := ⟨d, sp, u, cp⟩) (x := x) hrt hv hu
          have Hs := sExt_n (t := ⟨d, sp, u, cp⟩) (x := x) (by rw [He]; decide)
          simp only [He, Hs] at E1
          rw [Hs] at Hnext hdl
          have Hn := Hnext
          have R2 := fun W => right_c d sp u cp W
          have L2 := fun W => last_c d sp u cp W
          have hr2 := right_iff.2 Hn.1
          have hl2 : lastR ⟨d, sp, u, cp⟩ = la := by unfold lastR; rw [if_pos hr2, Hn.2.1, HM.out]
          simp only [hr2] at R2
          simp only [hl2] at L2
          have HQ2 := Lib.hid Hn.1
          have HM2 := Lib.hid (Hn.2.1.trans HM.out)
          have t1 : decide (la < d) = false := by simp; omega
          have t2 : (la != la) = false := by simp
          have t3 : (cp != cp) = false := by simp
          have t4 : (sp != sp) = false := by simp
          have t5 : (d == d) = true := by simp
          have t6 : (u == u) = true := by simp
          have t7 : (sp == sp) = true := by simp
          have t8 : (cp == cp) = true := by simp
          clear hv hu
          clear Hnext Hn hr2 hl2 He Hs hdl hrt HQ HM
          have f212_x0 : wr.cell? ⟨w4.heap.size, 0, none⟩ = some (.int .i64 d) := CB.cell hx' 0
          have f212_x1 : wr.cell? ⟨w4.heap.size, 1, none⟩ = some (.int .i64 sp) := CB.cell hx' 1
          have f212_x2 : wr.cell? ⟨w4.heap.size, 2, none⟩ = some (.int .i64 u) := CB.cell hx' 2
          have f212_x3 : wr.cell? ⟨w4.heap.size, 3, none⟩ = some (.int .i64 cp) := CB.cell hx' 3
          go_wp2_with fail
          refine (E1 _).mono ?_
          rintro e w213 ⟨rfl, b213⟩
          clear f212_x0 f212_x1 f212_x2 f212_x3
          have r214_x := le_on hx' b213
          have l214 := le_tr hb' b213
          clear hx' hb'
          clear b213
          clear c1
          have av_y : w.heap.size ≤ w213.heap.size := by have := l214.size; omega
          obtain ⟨W215, hW215⟩ : ∃ V, w213.alloc (.cells #[.int .i64 d, .int .i64 sp, .int .i64 u, .int .i64 cp] 25) = V := ⟨_, rfl⟩
          have zW215 : w213.heap.size = w213.heap.size := by rfl
          have nW215 : CB W215 (w213.heap.size) 25 #[.int .i64 d, .int .i64 sp, .int .i64 u, .int .i64 cp] := by rw [← zW215, ← hW215]; exact CB.new _ _ _
          have bW215 : Below w213.heap.size w213 W215 := by rw [← hW215]; exact le_al _ _
          have neW215_x : w4.heap.size ≠ w213.heap.size := by have := CB.lt r214_x; omega
          have HW215 := Lib.hid hW215
          clear hW215 zW215
          have r216_x := le_on r214_x bW215
          have l216 := le_tr l214 bW215
          clear r214_x l214
          clear bW215
          have f216_x0 : (w213.alloc (.cells #[.int .i64 d, .int .i64 sp, .int .i64 u, .int .i64 cp] 25)).cell? ⟨w4.heap.size, 0, none⟩ = some (.int .i64 d) := by rw [HW215.out]; exact CB.cell r216_x 0
          have f216_x1 : (w213.alloc (.cells #[.int .i64 d, .int .i64 sp, .int .i64 u, .int .i64 cp] 25)).cell? ⟨w4.heap.size, 1, none⟩ = some (.int .i64 sp) := by rw [HW215.out]; exact CB.cell r216_x 1
          have f216_x2 : (w213.alloc (.cells #[.int .i64 d, .int .i64 sp, .int .i64 u, .int .i64 cp] 25)).cell? ⟨w4.heap.size, 2, none⟩ = some (.int .i64 u) := by rw [HW215.out]; exact CB.cell r216_x 2
          have f216_x3 : (w213.alloc (.cells #[.int .i64 d, .int .i64 sp, .int .i64 u, .int .i64 cp] 25)).cell? ⟨w4.heap.size, 3, none⟩ = some (.int .i64 cp) := by rw [HW215.out]; exact CB.cell r216_x 3
          have f216_y0 : (w213.alloc (.cells #[.int .i64 d, .int .i64 sp, .int .i64 u, .int .i64 cp] 25)).cell? ⟨w213.heap.size, 0, none⟩ = some (.int .i64 d) := by rw [HW215.out]; exact CB.cell nW215 0
          have f216_y1 : (w213.alloc (.cells #[.int .i64 d, .int .i64 sp, .int .i64 u, .int .i64 cp] 25)).cell? ⟨w213.heap.size, 1, none⟩ = some (.int .i64 sp) := by rw [HW215.out]; exact CB.cell nW215 1
          have f216_y2 : (w213.alloc (.cells #[.int .i64 d, .int .i64 sp, .int .i64 u, .int .i64 cp] 25)).cell? ⟨w213.heap.size, 2, none⟩ = some (.int .i64 u) := by rw [HW215.out]; exact CB.cell nW215 2
          have f216_y3 : (w213.alloc (.cells #[.int .i64 d, .int .i64 sp, .int .i64 u, .int .i64 cp] 25)).cell? ⟨w213.heap.size, 3, none⟩ = some (.int .i64 cp) := by rw [HW215.out]; exact CB.cell nW215 3
          go_wp2_with fail
          rw [HW215.out]
          refine (R2 _).mono ?_
          rintro e w217 ⟨rfl, b217⟩
          clear f216_x0 f216_x1 f216_x2 f216_x3 f216_y0 f216_y1 f216_y2 f216_y3
          have r218_x := le_on r216_x b217
          have r218_y := le_on nW215 b217
          have l218 := le_tr l216 b217
          clear r216_x nW215 l216
          clear b217
          have f218_x0 : w217.cell? ⟨w4.heap.size, 0, none⟩ = some (.int .i64 d) := CB.cell r218_x 0
          have f218_x1 : w217.cell? ⟨w4.heap.size, 1, none⟩ = some (.int .i64 sp) := CB.cell r218_x 1
          have f218_x2 : w217.cell? ⟨w4.heap.size, 2, none⟩ = some (.int .i64 u) := CB.cell r218_x 2
          have f218_x3 : w217.cell? ⟨w4.heap.size, 3, none⟩ = some (.int .i64 cp) := CB.cell r218_x 3
          have f218_y0 : w217.cell? ⟨w213.heap.size, 0, none⟩ = some (.int .i64 d) := CB.cell r218_y 0
          have f218_y1 : w217.cell? ⟨w213.heap.size, 1, none⟩ = some (.int .i64 sp) := CB.cell r218_y 1
          have f218_y2 : w217.cell? ⟨w213.heap.size, 2, none⟩ = some (.int .i64 u) := CB.cell r218_y 2
          have f218_y3 : w217.cell? ⟨w213.heap.size, 3, none⟩ = some (.int .i64 cp) := CB.cell r218_y 3
          go_wp2_with fail
          refine (L2 _).mono ?_
          rintro e w219 ⟨rfl, b219⟩
          clear f218_x0 f218_x1 f218_x2 f218_x3 f218_y0 f218_y1 f218_y2 f218_y3
          have r220_x := le_on r218_x b219
          have r220_y := le_on r218_y b219
          have l220 := le_tr l218 b219
          clear r218_x r218_y l218
          clear b219
          have f220_x0 : w219.cell? ⟨w4.heap.size, 0, none⟩ = some (.int .i64 d) := CB.cell r220_x 0
          have f220_x1 : w219.cell? ⟨w4.heap.size, 1, none⟩ = some (.int .i64 sp) := CB.cell r220_x 1
          have f220_x2 : w219.cell? ⟨w4.heap.size, 2, none⟩ = some (.int .i64 u) := CB.cell r220_x 2
          have f220_x3 : w219.cell? ⟨w4.heap.size, 3, none⟩ = some (.int .i64 cp) := CB.cell r220_x 3
          have f220_y0 : w219.cell? ⟨w213.heap.size, 0, none⟩ = some (.int .i64 d) := CB.cell r220_y 0
          have f220_y1 : w219.cell? ⟨w213.heap.size, 1, none⟩ = some (.int .i64 sp) := CB.cell r220_y 1
          have f220_y2 : w219.cell? ⟨w213.heap.size, 2, none⟩ = some (.int .i64 u) := CB.cell r220_y 2
          have f220_y3 : w219.cell? ⟨w213.heap.size, 3, none⟩ = some (.int .i64 cp) := CB.cell r220_y 3
          have z220_x0 : w219.frozen? ⟨w4.heap.size, 0, none⟩ = false := CB.frozen r220_x 0
          have z220_x1 : w219.frozen? ⟨w4.heap.size, 1, none⟩ = false := CB.frozen r220_x 1
          have z220_x2 : w219.frozen? ⟨w4.heap.size, 2, none⟩ = false := CB.frozen r220_x 2
          have z220_x3 : w219.frozen? ⟨w4.heap.size, 3, none⟩ = false := CB.frozen r220_x 3
          obtain ⟨V221, hV221⟩ : ∃ V, (((w219.setCell ⟨w4.heap.size, 0, none⟩ (.int .i64 d)).setCell ⟨w4.heap.size, 1, none⟩ (.int .i64 sp)).setCell ⟨w4.heap.size, 2, none⟩ (.int .i64 u)).setCell ⟨w4.heap.size, 3, none⟩ (.int .i64 cp) = V := ⟨_, rfl⟩
          have nV221 : CB V221 (w4.heap.size) 25 #[.int .i64 d, .int .i64 sp, .int .i64 u, .int .i64 cp] := by rw [← hV221]; exact cb_cast (CB.put (CB.put (CB.put (CB.put r220_x 0 (.int .i64 d)) 1 (.int .i64 sp)) 2 (.int .i64 u)) 3 (.int .i64 cp)) (by kernel_rfl)
          have mV221_y : CB V221 (w213.heap.size) 25 #[.int .i64 d, .int .i64 sp, .int .i64 u, .int .i64 cp] := by rw [← hV221]; exact (CB.far (CB.far (CB.far (CB.far r220_y (p := ⟨w4.heap.size, 0, none⟩) (Ne.symm neW215_x) (.int .i64 d)) (p := ⟨w4.heap.size, 1, none⟩) (Ne.symm neW215_x) (.int .i64 sp)) (p := ⟨w4.heap.size, 2, none⟩) (Ne.symm neW215_x) (.int .i64 u)) (p := ⟨w4.heap.size, 3, none⟩) (Ne.symm neW215_x) (.int .i64 cp))
          have oV221 := (Below.setCell (Below.setCell (Below.setCell (Below.setCell l220 (p := ⟨w4.heap.size, 0, none⟩) (by have := av_x; dsimp only; omega) (.int .i64 d)) (p := ⟨w4.heap.size, 1, none⟩) (by have := av_x; dsimp only; omega) (.int .i64 sp)) (p := ⟨w4.heap.size, 2, none⟩) (by have := av_x; dsimp only; omega) (.int .i64 u)) (p := ⟨w4.heap.size, 3, none⟩) (by have := av_x; dsimp only; omega) (.int .i64 cp))
          rw [hV221] at oV221
          have HV221 := Lib.hid hV221
          clear hV221
          clear r220_x r220_y l220
          go_wp2_with fail
          rw [HV221.out]
          go_roundw
          case rel => exact ⟨k + 1, d, u, by omega, by go_num, HQ2, HM2, nV221, oV221⟩
          case measure => simp [intOf]; omega
        have He := eExt_0 (t := ⟨d, sp, u, cp⟩) (x := x) hrt hv hu
        have Hs := sExt_z He
        simp only [He, Hs] at E1
        rw [Hs] at Hnext hdl
        have Hn := Hnext
        have R2 := fun W => right_c (d + sp) sp (u + 1) cp W
        have L2 := fun W => last_c (d + sp) sp (u + 1) cp W
        have hr2 := right_iff.2 Hn.1
        have hl2 : lastR ⟨d + sp, sp, u + 1, cp⟩ = la := by unfold lastR; rw [if_pos hr2, Hn.2.1, HM.out]
        simp only [hr2] at R2
        simp only [hl2] at L2
        have HQ2 := Lib.hid Hn.1
        have HM2 := Lib.hid (Hn.2.1.trans HM.out)
        have t1 : decide (la < d + sp) = false := by simp; omega
        have t2 : (la != la) = false := by simp
        have t3 : (cp != cp) = false := by simp
        have t4 : (sp != sp) = false := by simp
        have hF := HQ.out.1
        obtain ⟨⟨⟨z1, z2⟩, z3, z4⟩, ⟨z5, z6⟩, z7, z8⟩ := hF
        simp only at z1 z2 z3 z4 z5 z6 z7 z8
        have x1 : IntKind.i64.wrap (d + sp) = d + sp := IntWalk.i64_in _ (by omega)
        have x2 : IntKind.i64.wrap (u + 1) = u + 1 := IntWalk.i64_in _ (by omega)
        have x3 : ((d + sp) != (d + sp)) = false := by simp
        have x4 : ((u + 1) != (u + 1)) = false := by simp
        have x5 : decide (d ≤ x) = false := by simp; omega
        clear hv hu z1 z2 z3 z4 z5 z6 z7 z8
        clear Hnext Hn hr2 hl2 He Hs hdl hrt HQ HM
        have f200_x0 : wr.cell? ⟨w4.heap.size, 0, none⟩ = some (.int .i64 d) := CB.cell hx' 0
        have f200_x1 : wr.cell? ⟨w4.heap.size, 1, none⟩ = some (.int .i64 sp) := CB.cell hx' 1
        have f200_x2 : wr.cell? ⟨w4.heap.size, 2, none⟩ = some (.int .i64 u) := CB.cell hx' 2
        have f200_x3 : wr.cell? ⟨w4.heap.size, 3, none⟩ = some (.int .i64 cp) := CB.cell hx' 3
        go_wp2_with fail
        refine (E1 _).mono ?_
        rintro e w201 ⟨rfl, b201⟩
        clear f200_x0 f200_x1 f200_x2 f200_x3
        have r202_x := le_on hx' b201
        have l202 := le_tr hb' b201
        clear hx' hb'
        clear b201
        clear c1
        have av_y : w.heap.size ≤ w201.heap.size := by have := l202.size; omega
        obtain ⟨W203, hW203⟩ : ∃ V, w201.alloc (.cells #[.int .i64 (d + sp), .int .i64 sp, .int .i64 (u + 1), .int .i64 cp] 25) = V := ⟨_, rfl⟩
        have zW203 : w201.heap.size = w201.heap.size := by rfl
        have nW203 : CB W203 (w201.heap.size) 25 #[.int .i64 (d + sp), .int .i64 sp, .int .i64 (u + 1), .int .i64 cp] := by rw [← zW203, ← hW203]; exact CB.new _ _ _
        have bW203 : Below w201.heap.size w201 W203 := by rw [← hW203]; exact le_al _ _
        have neW203_x : w4.heap.size ≠ w201.heap.size := by have := CB.lt r202_x; omega
        have HW203 := Lib.hid hW203
        clear hW203 zW203
        have r204_x := le_on r202_x bW203
        have l204 := le_tr l202 bW203
        clear r202_x l202
        clear bW203
        have f204_x0 : (w201.alloc (.cells #[.int .i64 (d + sp), .int .i64 sp, .int .i64 (u + 1), .int .i64 cp] 25)).cell? ⟨w4.heap.size, 0, none⟩ = some (.int .i64 d) := by rw [HW203.out]; exact CB.cell r204_x 0
        have f204_x1 : (w201.alloc (.cells #[.int .i64 (d + sp), .int .i64 sp, .int .i64 (u + 1), .int .i64 cp] 25)).cell? ⟨w4.heap.size, 1, none⟩ = some (.int .i64 sp) := by rw [HW203.out]; exact CB.cell r204_x 1
        have f204_x2 : (w201.alloc (.cells #[.int .i64 (d + sp), .int .i64 sp, .int .i64 (u + 1), .int .i64 cp] 25)).cell? ⟨w4.heap.size, 2, none⟩ = some (.int .i64 u) := by rw [HW203.out]; exact CB.cell r204_x 2
        have f204_x3 : (w201.alloc (.cells #[.int .i64 (d + sp), .int .i64 sp, .int .i64 (u + 1), .int .i64 cp] 25)).cell? ⟨w4.heap.size, 3, none⟩ = some (.int .i64 cp) := by rw [HW203.out]; exact CB.cell r204_x 3
        have f204_y0 : (w201.alloc (.cells #[.int .i64 (d + sp), .int .i64 sp, .int .i64 (u + 1), .int .i64 cp] 25)).cell? ⟨w201.heap.size, 0, none⟩ = some (.int .i64 (d + sp)) := by rw [HW203.out]; exact CB.cell nW203 0
        have f204_y1 : (w201.alloc (.cells #[.int .i64 (d + sp), .int .i64 sp, .int .i64 (u + 1), .int .i64 cp] 25)).cell? ⟨w201.heap.size, 1, none⟩ = some (.int .i64 sp) := by rw [HW203.out]; exact CB.cell nW203 1
        have f204_y2 : (w201.alloc (.cells #[.int .i64 (d + sp), .int .i64 sp, .int .i64 (u + 1), .int .i64 cp] 25)).cell? ⟨w201.heap.size, 2, none⟩ = some (.int .i64 (u + 1)) := by rw [HW203.out]; exact CB.cell nW203 2
        have f204_y3 : (w201.alloc (.cells #[.int .i64 (d + sp), .int .i64 sp, .int .i64 (u + 1), .int .i64 cp] 25)).cell? ⟨w201.heap.size, 3, none⟩ = some (.int .i64 cp) := by rw [HW203.out]; exact CB.cell nW203 3
        go_wp2_with fail
        rw [HW203.out]
        refine (R2 _).mono ?_
        rintro e w205 ⟨rfl, b205⟩
        clear f204_x0 f204_x1 f204_x2 f204_x3 f204_y0 f204_y1 f204_y2 f204_y3
        have r206_x := le_on r204_x b205
        have r206_y := le_on nW203 b205
        have l206 := le_tr l204 b205
        clear r204_x nW203 l204
        clear b205
        have f206_x0 : w205.cell? ⟨w4.heap.size, 0, none⟩ = some (.int .i64 d) := CB.cell r206_x 0
        have f206_x1 : w205.cell? ⟨w4.heap.size, 1, none⟩ = some (.int .i64 sp) := CB.cell r206_x 1
        have f206_x2 : w205.cell? ⟨w4.heap.size, 2, none⟩ = some (.int .i64 u) := CB.cell r206_x 2
        have f206_x3 : w205.cell? ⟨w4.heap.size, 3, none⟩ = some (.int .i64 cp) := CB.cell r206_x 3
        have f206_y0 : w205.cell? ⟨w201.heap.size, 0, none⟩ = some (.int .i64 (d + sp)) := CB.cell r206_y 0
        have f206_y1 : w205.cell? ⟨w201.heap.size, 1, none⟩ = some (.int .i64 sp) := CB.cell r206_y 1
        have f206_y2 : w205.cell? ⟨w201.heap.size, 2, none⟩ = some (.int .i64 (u + 1)) := CB.cell r206_y 2
        have f206_y3 : w205.cell? ⟨w201.heap.size, 3, none⟩ = some (.int .i64 cp) := CB.cell r206_y 3
        go_wp2_with fail
        refine (L2 _).mono ?_
        rintro e w207 ⟨rfl, b207⟩
        clear f206_x0 f206_x1 f206_x2 f206_x3 f206_y0 f206_y1 f206_y2 f206_y3
        have r208_x := le_on r206_x b207
        have r208_y := le_on r206_y b207
        have l208 := le_tr l206 b207
        clear r206_x r206_y l206
        clear b207
        have f208_x0 : w207.cell? ⟨w4.heap.size, 0, none⟩ = some (.int .i64 d) := CB.cell r208_x 0
        have f208_x1 : w207.cell? ⟨w4.heap.size, 1, none⟩ = some (.int .i64 sp) := CB.cell r208_x 1
        have f208_x2 : w207.cell? ⟨w4.heap.size, 2, none⟩ = some (.int .i64 u) := CB.cell r208_x 2
        have f208_x3 : w207.cell? ⟨w4.heap.size, 3, none⟩ = some (.int .i64 cp) := CB.cell r208_x 3
        have f208_y0 : w207.cell? ⟨w201.heap.size, 0, none⟩ = some (.int .i64 (d + sp)) := CB.cell r208_y 0
        have f208_y1 : w207.cell? ⟨w201.heap.size, 1, none⟩ = some (.int .i64 sp) := CB.cell r208_y 1
        have f208_y2 : w207.cell? ⟨w201.heap.size, 2, none⟩ = some (.int .i64 (u + 1)) := CB.cell r208_y 2
        have f208_y3 : w207.cell? ⟨w201.heap.size, 3, none⟩ = some (.int .i64 cp) := CB.cell r208_y 3
        have z208_x0 : w207.frozen? ⟨w4.heap.size, 0, none⟩ = false := CB.frozen r208_x 0
        have z208_x1 : w207.frozen? ⟨w4.heap.size, 1, none⟩ = false := CB.frozen r208_x 1
        have z208_x2 : w207.frozen? ⟨w4.heap.size, 2, none⟩ = false := CB.frozen r208_x 2
        have z208_x3 : w207.frozen? ⟨w4.heap.size, 3, none⟩ = false := CB.frozen r208_x 3
        obtain ⟨V209, hV209⟩ : ∃ V, (((w207.setCell ⟨w4.heap.size, 0, none⟩ (.int .i64 (d + sp))).setCell ⟨w4.heap.size, 1, none⟩ (.int .i64 sp)).setCell ⟨w4.heap.size, 2, none⟩ (.int .i64 (u + 1))).setCell ⟨w4.heap.size, 3, none⟩ (.int .i64 cp) = V := ⟨_, rfl⟩
        have nV209 : CB V209 (w4.heap.size) 25 #[.int .i64 (d + sp), .int .i64 sp, .int .i64 (u + 1), .int .i64 cp] := by rw [← hV209]; exact cb_cast (CB.put (CB.put (CB.put (CB.put r208_x 0 (.int .i64 (d + sp))) 1 (.int .i64 sp)) 2 (.int .i64 (u + 1))) 3 (.int .i64 cp)) (by kernel_rfl)
        have mV209_y : CB V209 (w201.heap.size) 25 #[.int .i64 (d + sp), .int .i64 sp, .int .i64 (u + 1), .int .i64 cp] := by rw [← hV209]; exact (CB.far (CB.far (CB.far (CB.far r208_y (p := ⟨w4.heap.size, 0, none⟩) (Ne.symm neW203_x) (.int .i64 (d + sp))) (p := ⟨w4.heap.size, 1, none⟩) (Ne.symm neW203_x) (.int .i64 sp)) (p := ⟨w4.heap.size, 2, none⟩) (Ne.symm neW203_x) (.int .i64 (u + 1))) (p := ⟨w4.heap.size, 3, none⟩) (Ne.symm neW203_x) (.int .i64 cp))
        have oV209 := (Below.setCell (Below.setCell (Below.setCell (Below.setCell l208 (p := ⟨w4.heap.size, 0, none⟩) (by have := av_x; dsimp only; omega) (.int .i64 (d + sp))) (p := ⟨w4.heap.size, 1, none⟩) (by have := av_x; dsimp only; omega) (.int .i64 sp)) (p := ⟨w4.heap.size, 2, none⟩) (by have := av_x; dsimp only; omega) (.int .i64 (u + 1))) (p := ⟨w4.heap.size, 3, none⟩) (by have := av_x; dsimp only; omega) (.int .i64 cp))
        rw [hV209] at oV209
        have HV209 := Lib.hid hV209
        clear hV209
        clear r208_x r208_y l208
        go_wp2_with fail
        rw [HV209.out]
        go_roundw
        case rel => exact ⟨k + 1, d + sp, u + 1, by omega, by go_num, HQ2, HM2, nV209, oV209⟩
        case measure => simp [intOf]; omega
      · obtain rfl : k = n := by omega
        go_wp2_with fail
        go_ret
        exact ⟨rfl, hb'⟩
end Go.Proofs.Ytgmkjpkbkiimdaa
