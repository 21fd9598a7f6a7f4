/-
  Terms in memory; the functions of package terms but Agree and New. Condition of lastOf alone: its terms' ranges.
-/
import Derived.Test.YtjfmahceolhfnaaRows
import Derived.Test.YtjfmahceolhfnaaMemC
import Derived.Test.YtjfmahceolhfnaaVeM
import Derived.WalkKit
import Derived.WalkSpells
import Derived.WalkLawsBesides
import Derived.OwnWalk
import Derived.Laws.StructEq
import Derived.Deep.QuietTactic
import Derived.BigQuiet
import Derived.Lib.Hide
import Derived.IntWalk
import Derived.StillTailTactics
import Derived.Deep.RegionHeld3
set_option linter.unusedVariables false
set_option linter.unusedSimpArgs false
namespace Go.Proofs.Ytjfmahceolhfnaa.Te
open Go.RowKit

theorem le_tr {w w1 w2 : World} (h : Below w.heap.size w w1) (k : Below w1.heap.size w1 w2) : Below w.heap.size w w2 := h.trans (k.mono h.size)
theorem le_al (w : World) (o : Obj) : Below w.heap.size w (w.alloc o) := (Below.refl _ _).alloc (Nat.le_refl _) o
theorem le_dr {B : Nat} {W w1 : World} (h : Below B W.drew w1) : Below B W w1 := ⟨h.os, h.tape, h.output, h.size, h.block⟩
theorem le_on {W W' : World} {b : Nat} {T : TypeId} {cs : Array Value} (h : CB W b T cs) (hb : Below W.heap.size W W') : CB W' b T cs := CB.same h (hb.block _ (CB.lt h))
theorem le_dN {B k : Nat} {a w : World} (h : Below B a w) : Below B a (w.drewN k) := ⟨h.os, h.tape, h.output, h.size, h.block⟩
theorem cb_cast {W : World} {b : Nat} {T : TypeId} {cs cs' : Array Value} (h : CB W b T cs) (e : cs = cs') : CB W b T cs' := e ▸ h
theorem eExt_2 {t : Tm} {x : Int} (h : rightT t = false) : eExt t x = 2 := by unfold eExt; rw [if_pos h]
theorem eExt_11 {t : Tm} {x : Int} (h : rightT t = true) (hx : t.dl ≤ x) : eExt t x = 11 := by unfold eExt; rw [if_neg (by simp [h]), if_pos hx]
theorem eExt_12 {t : Tm} {x : Int} (h : rightT t = true) (hx : ¬ t.dl ≤ x) (hu : t.us = t.cp) : eExt t x = 12 := by unfold eExt; rw [if_neg (by simp [h]), if_neg hx, if_pos hu]
theorem eExt_0 {t : Tm} {x : Int} (h : rightT t = true) (hx : ¬ t.dl ≤ x) (hu : ¬ t.us = t.cp) : eExt t x = 0 := by unfold eExt; rw [if_neg (by simp [h]), if_neg hx, if_neg hu]
theorem sExt_z {t : Tm} {x : Int} (h : eExt t x = 0) : sExt t x = ⟨t.dl + t.sp, t.sp, t.us + 1, t.cp⟩ := by unfold sExt; rw [if_pos h]
theorem sExt_n {t : Tm} {x : Int} (h : ¬ eExt t x = 0) : sExt t x = t := by unfold sExt; rw [if_neg h]

set_option maxHeartbeats 1000000 in
theorem span_c (x : Int) (w : World) : Calls Try.prog 37 #[.int .i64 x] w fun r w' => r = .returned (.bool (decide (1 ≤ x ∧ x ≤ 1048576))) ∧ Below w.heap.size w w' := by
  go_enter Try.func37, Try.ntmps37
  by_cases h : 1 ≤ x
  · have H := Lib.hid (show decide (1 ≤ x ∧ x ≤ 1048576) = decide (x ≤ 1048576) by simp [h])
    go_wp2_with fail
    go_ret
    exact ⟨by rw [H.out]; rfl, Below.refl _ _⟩
  · have H := Lib.hid (show decide (1 ≤ x ∧ x ≤ 1048576) = false by simp [h])
    have H2 := Lib.hid (show (decide (1 ≤ x) && decide (x ≤ 1048576)) = false by simp [h])
    go_wp2_with fail
    go_ret
    exact ⟨by first | (rw [H.out]; rfl) | (rw [H2.out]; rfl), Below.refl _ _⟩
set_option maxHeartbeats 1000000 in
theorem cap_c (x : Int) (w : World) : Calls Try.prog 38 #[.int .i64 x] w fun r w' => r = .returned (.bool (decide (0 ≤ x ∧ x ≤ 100))) ∧ Below w.heap.size w w' := by
  go_enter Try.func38, Try.ntmps38
  by_cases h : 0 ≤ x
  · have H := Lib.hid (show decide (0 ≤ x ∧ x ≤ 100) = decide (x ≤ 100) by simp [h])
    go_wp2_with fail
    go_ret
    exact ⟨by rw [H.out]; rfl, Below.refl _ _⟩
  · have H := Lib.hid (show decide (0 ≤ x ∧ x ≤ 100) = false by simp [h])
    have H2 := Lib.hid (show (decide (0 ≤ x) && decide (x ≤ 100)) = false by simp [h])
    go_wp2_with fail
    go_ret
    exact ⟨by first | (rw [H.out]; rfl) | (rw [H2.out]; rfl), Below.refl _ _⟩
set_option maxRecDepth 100000 in
set_option maxHeartbeats 4000000 in
theorem lastOf_c (dl sp us cp : Int) (w : World) (h1 : 0 ≤ cp - us ∧ cp - us ≤ 100) (h2 : 1 ≤ sp ∧ sp ≤ 1048576) (h3 : 0 ≤ dl ∧ dl ≤ 2199023255552) (h4 : 0 ≤ cp ∧ cp ≤ 100) : Calls Try.prog 30 #[.agg #[.int .i64 dl, .int .i64 sp, .int .i64 us, .int .i64 cp]] w fun r w' => r = .returned (.int .i64 (dl + (cp - us) * sp)) ∧ Below w.heap.size w w' := by
  have hm := mul_in (a := cp - us) (s := sp) (by omega) (by omega) (by omega) (by omega)
  have w1 : IntKind.i64.wrap (cp - us) = cp - us := IntWalk.i64_in _ (by omega)
  have w2 : IntKind.i64.wrap ((cp - us) * sp) = (cp - us) * sp := IntWalk.i64_in _ (by omega)
  have w3 : IntKind.i64.wrap (dl + (cp - us) * sp) = dl + (cp - us) * sp := IntWalk.i64_in _ (by omega)
  clear hm h1 h2 h3
  obtain ⟨W1, hW1⟩ : ∃ V, w.alloc (.cells #[.int .i64 dl, .int .i64 sp, .int .i64 us, .int .i64 cp] 42) = V := ⟨_, rfl⟩
  have nW1_t : CB W1 (w.heap.size) 42 #[.int .i64 dl, .int .i64 sp, .int .i64 us, .int .i64 cp] := by
    rw [← hW1]
    have := (CB.new w 42 #[.int .i64 dl, .int .i64 sp, .int .i64 us, .int .i64 cp])
    simpa using this
  have lW1 : Below w.heap.size w W1 := by rw [← hW1]; exact le_al _ _
  have HW1 := Lib.hid hW1
  clear hW1
  go_enter Try.func30, Try.ntmps30
  have f1_t0 : (w.alloc (.cells #[.int .i64 dl, .int .i64 sp, .int .i64 us, .int .i64 cp] 42)).cell? ⟨w.heap.size, 0, none⟩ = some (.int .i64 dl) := by rw [HW1.out]; exact CB.cell nW1_t 0
  have f1_t1 : (w.alloc (.cells #[.int .i64 dl, .int .i64 sp, .int .i64 us, .int .i64 cp] 42)).cell? ⟨w.heap.size, 1, none⟩ = some (.int .i64 sp) := by rw [HW1.out]; exact CB.cell nW1_t 1
  have f1_t2 : (w.alloc (.cells #[.int .i64 dl, .int .i64 sp, .int .i64 us, .int .i64 cp] 42)).cell? ⟨w.heap.size, 2, none⟩ = some (.int .i64 us) := by rw [HW1.out]; exact CB.cell nW1_t 2
  have f1_t3 : (w.alloc (.cells #[.int .i64 dl, .int .i64 sp, .int .i64 us, .int .i64 cp] 42)).cell? ⟨w.heap.size, 3, none⟩ = some (.int .i64 cp) := by rw [HW1.out]; exact CB.cell nW1_t 3
  go_wp2_with fail
  try rw [HW1.out]
  go_ret
  exact ⟨rfl, lW1⟩
set_option maxRecDepth 100000 in
set_option maxHeartbeats 4000000 in
theorem right_c (dl sp us cp : Int) (w : World) : Calls Try.prog 29 #[.agg #[.int .i64 dl, .int .i64 sp, .int .i64 us, .int .i64 cp]] w fun r w' => r = .returned (.bool (rightT ⟨dl, sp, us, cp⟩)) ∧ Below w.heap.size w w' := by
  by_cases g0 : sp < 1
  · skip
    have H := Lib.hid (show rightT ⟨dl, sp, us, cp⟩ = false by rw [right_no]; intro h; obtain ⟨⟨⟨⟨a, b⟩, c, d⟩, ⟨e, f⟩, g, j⟩, _⟩ := h; simp only at a b c d e f g j; omega)
    have p0 : decide (sp < 1) = true := by simp; omega
    have q0 : decide (1 ≤ sp) = false := by simp; omega
    have hs : decide (1 ≤ sp ∧ sp ≤ 1048576) = false := by simp; omega
    have S1 := fun W => span_c sp W
    simp only [hs] at S1
    clear hs
    clear g0
    obtain ⟨W1, hW1⟩ : ∃ V, w.alloc (.cells #[.int .i64 dl, .int .i64 sp, .int .i64 us, .int .i64 cp] 42) = V := ⟨_, rfl⟩
    have nW1_t : CB W1 (w.heap.size) 42 #[.int .i64 dl, .int .i64 sp, .int .i64 us, .int .i64 cp] := by
      rw [← hW1]
      have := (CB.new w 42 #[.int .i64 dl, .int .i64 sp, .int .i64 us, .int .i64 cp])
      simpa using this
    have lW1 : Below w.heap.size w W1 := by rw [← hW1]; exact le_al _ _
    have HW1 := Lib.hid hW1
    clear hW1
    go_enter Try.func29, Try.ntmps29
    have f1_t0 : (w.alloc (.cells #[.int .i64 dl, .int .i64 sp, .int .i64 us, .int .i64 cp] 42)).cell? ⟨w.heap.size, 0, none⟩ = some (.int .i64 dl) := by rw [HW1.out]; exact CB.cell nW1_t 0
    have f1_t1 : (w.alloc (.cells #[.int .i64 dl, .int .i64 sp, .int .i64 us, .int .i64 cp] 42)).cell? ⟨w.heap.size, 1, none⟩ = some (.int .i64 sp) := by rw [HW1.out]; exact CB.cell nW1_t 1
    have f1_t2 : (w.alloc (.cells #[.int .i64 dl, .int .i64 sp, .int .i64 us, .int .i64 cp] 42)).cell? ⟨w.heap.size, 2, none⟩ = some (.int .i64 us) := by rw [HW1.out]; exact CB.cell nW1_t 2
    have f1_t3 : (w.alloc (.cells #[.int .i64 dl, .int .i64 sp, .int .i64 us, .int .i64 cp] 42)).cell? ⟨w.heap.size, 3, none⟩ = some (.int .i64 cp) := by rw [HW1.out]; exact CB.cell nW1_t 3
    go_wp2_with fail
    rw [HW1.out]
    refine (S1 _).mono ?_
    rintro e w2 ⟨rfl, b2⟩
    clear f1_t0 f1_t1 f1_t2 f1_t3
    have r3_t := le_on nW1_t b2
    have l3 := le_tr lW1 b2
    clear nW1_t lW1
    clear b2
    have f3_t0 : w2.cell? ⟨w.heap.size, 0, none⟩ = some (.int .i64 dl) := CB.cell r3_t 0
    have f3_t1 : w2.cell? ⟨w.heap.size, 1, none⟩ = some (.int .i64 sp) := CB.cell r3_t 1
    have f3_t2 : w2.cell? ⟨w.heap.size, 2, none⟩ = some (.int .i64 us) := CB.cell r3_t 2
    have f3_t3 : w2.cell? ⟨w.heap.size, 3, none⟩ = some (.int .i64 cp) := CB.cell r3_t 3
    go_wp2_with fail
    go_ret
    exact ⟨by rw [H.out]; rfl, l3⟩
  by_cases g1 : 1048576 < sp
  · skip
    have H := Lib.hid (show rightT ⟨dl, sp, us, cp⟩ = false by rw [right_no]; intro h; obtain ⟨⟨⟨⟨a, b⟩, c, d⟩, ⟨e, f⟩, g, j⟩, _⟩ := h; simp only at a b c d e f g j; omega)
    have p0 : decide (sp < 1) = false := by simp; omega
    have q0 : decide (1 ≤ sp) = true := by simp; omega
    have p1 : decide (1048576 < sp) = true := by simp; omega
    have q1 : decide (sp ≤ 1048576) = false := by simp; omega
    have hs : decide (1 ≤ sp ∧ sp ≤ 1048576) = false := by simp; omega
    have S1 := fun W => span_c sp W
    simp only [hs] at S1
    clear hs
    clear g0 g1
    obtain ⟨W1, hW1⟩ : ∃ V, w.alloc (.cells #[.int .i64 dl, .int .i64 sp, .int .i64 us, .int .i64 cp] 42) = V := ⟨_, rfl⟩
    have nW1_t : CB W1 (w.heap.size) 42 #[.int .i64 dl, .int .i64 sp, .int .i64 us, .int .i64 cp] := by
      rw [← hW1]
      have := (CB.new w 42 #[.int .i64 dl, .int .i64 sp, .int .i64 us, .int .i64 cp])
      simpa using this
    have lW1 : Below w.heap.size w W1 := by rw [← hW1]; exact le_al _ _
    have HW1 := Lib.hid hW1
    clear hW1
    go_enter Try.func29, Try.ntmps29
    have f1_t0 : (w.alloc (.cells #[.int .i64 dl, .int .i64 sp, .int .i64 us, .int .i64 cp] 42)).cell? ⟨w.heap.size, 0, none⟩ = some (.int .i64 dl) := by rw [HW1.out]; exact CB.cell nW1_t 0
    have f1_t1 : (w.alloc (.cells #[.int .i64 dl, .int .i64 sp, .int .i64 us, .int .i64 cp] 42)).cell? ⟨w.heap.size, 1, none⟩ = some (.int .i64 sp) := by rw [HW1.out]; exact CB.cell nW1_t 1
    have f1_t2 : (w.alloc (.cells #[.int .i64 dl, .int .i64 sp, .int .i64 us, .int .i64 cp] 42)).cell? ⟨w.heap.size, 2, none⟩ = some (.int .i64 us) := by rw [HW1.out]; exact CB.cell nW1_t 2
    have f1_t3 : (w.alloc (.cells #[.int .i64 dl, .int .i64 sp, .int .i64 us, .int .i64 cp] 42)).cell? ⟨w.heap.size, 3, none⟩ = some (.int .i64 cp) := by rw [HW1.out]; exact CB.cell nW1_t 3
    go_wp2_with fail
    rw [HW1.out]
    refine (S1 _).mono ?_
    rintro e w2 ⟨rfl, b2⟩
    clear f1_t0 f1_t1 f1_t2 f1_t3
    have r3_t := le_on nW1_t b2
    have l3 := le_tr lW1 b2
    clear nW1_t lW1
    clear b2
    have f3_t0 : w2.cell? ⟨w.heap.size, 0, none⟩ = some (.int .i64 dl) := CB.cell r3_t 0
    have f3_t1 : w2.cell? ⟨w.heap.size, 1, none⟩ = some (.int .i64 sp) := CB.cell r3_t 1
    have f3_t2 : w2.cell? ⟨w.heap.size, 2, none⟩ = some (.int .i64 us) := CB.cell r3_t 2
    have f3_t3 : w2.cell? ⟨w.heap.size, 3, none⟩ = some (.int .i64 cp) := CB.cell r3_t 3
    go_wp2_with fail
    go_ret
    exact ⟨by rw [H.out]; rfl, l3⟩
  by_cases g2 : cp < 0
  · skip
    have H := Lib.hid (show rightT ⟨dl, sp, us, cp⟩ = false by rw [right_no]; intro h; obtain ⟨⟨⟨⟨a, b⟩, c, d⟩, ⟨e, f⟩, g, j⟩, _⟩ := h; simp only at a b c d e f g j; omega)
    have p0 : decide (sp < 1) = false := by simp; omega
    have q0 : decide (1 ≤ sp) = true := by simp; omega
    have p1 : decide (1048576 < sp) = false := by simp; omega
    have q1 : decide (sp ≤ 1048576) = true := by simp; omega
    have p2 : decide (cp < 0) = true := by simp; omega
    have q2 : decide (0 ≤ cp) = false := by simp; omega
    have hs : decide (1 ≤ sp ∧ sp ≤ 1048576) = true := by simp; omega
    have hc : decide (0 ≤ cp ∧ cp ≤ 100) = false := by simp; omega
    have S1 := fun W => span_c sp W
    simp only [hs] at S1
    have S2 := fun W => cap_c cp W
    simp only [hc] at S2
    clear hs hc
    clear g0 g1 g2
    obtain ⟨W1, hW1⟩ : ∃ V, w.alloc (.cells #[.int .i64 dl, .int .i64 sp, .int .i64 us, .int .i64 cp] 42) = V := ⟨_, rfl⟩
    have nW1_t : CB W1 (w.heap.size) 42 #[.int .i64 dl, .int .i64 sp, .int .i64 us, .int .i64 cp] := by
      rw [← hW1]
      have := (CB.new w 42 #[.int .i64 dl, .int .i64 sp, .int .i64 us, .int .i64 cp])
      simpa using this
    have lW1 : Below w.heap.size w W1 := by rw [← hW1]; exact le_al _ _
    have HW1 := Lib.hid hW1
    clear hW1
    go_enter Try.func29, Try.ntmps29
    have f1_t0 : (w.alloc (.cells #[.int .i64 dl, .int .i64 sp, .int .i64 us, .int .i64 cp] 42)).cell? ⟨w.heap.size, 0, none⟩ = some (.int .i64 dl) := by rw [HW1.out]; exact CB.cell nW1_t 0
    have f1_t1 : (w.alloc (.cells #[.int .i64 dl, .int .i64 sp, .int .i64 us, .int .i64 cp] 42)).cell? ⟨w.heap.size, 1, none⟩ = some (.int .i64 sp) := by rw [HW1.out]; exact CB.cell nW1_t 1
    have f1_t2 : (w.alloc (.cells #[.int .i64 dl, .int .i64 sp, .int .i64 us, .int .i64 cp] 42)).cell? ⟨w.heap.size, 2, none⟩ = some (.int .i64 us) := by rw [HW1.out]; exact CB.cell nW1_t 2
    have f1_t3 : (w.alloc (.cells #[.int .i64 dl, .int .i64 sp, .int .i64 us, .int .i64 cp] 42)).cell? ⟨w.heap.size, 3, none⟩ = some (.int .i64 cp) := by rw [HW1.out]; exact CB.cell nW1_t 3
    go_wp2_with fail
    rw [HW1.out]
    refine (S1 _).mono ?_
    rintro e w2 ⟨rfl, b2⟩
    clear f1_t0 f1_t1 f1_t2 f1_t3
    have r3_t := le_on nW1_t b2
    have l3 := le_tr lW1 b2
    clear nW1_t lW1
    clear b2
    have f3_t0 : w2.cell? ⟨w.heap.size, 0, none⟩ = some (.int .i64 dl) := CB.cell r3_t 0
    have f3_t1 : w2.cell? ⟨w.heap.size, 1, none⟩ = some (.int .i64 sp) := CB.cell r3_t 1
    have f3_t2 : w2.cell? ⟨w.heap.size, 2, none⟩ = some (.int .i64 us) := CB.cell r3_t 2
    have f3_t3 : w2.cell? ⟨w.heap.size, 3, none⟩ = some (.int .i64 cp) := CB.cell r3_t 3
    go_wp2_with fail
    refine (S2 _).mono ?_
    rintro e w4 ⟨rfl, b4⟩
    clear f3_t0 f3_t1 f3_t2 f3_t3
    have r5_t := le_on r3_t b4
    have l5 := le_tr l3 b4
    clear r3_t l3
    clear b4
    have f5_t0 : w4.cell? ⟨w.heap.size, 0, none⟩ = some (.int .i64 dl) := CB.cell r5_t 0
    have f5_t1 : w4.cell? ⟨w.heap.size, 1, none⟩ = some (.int .i64 sp) := CB.cell r5_t 1
    have f5_t2 : w4.cell? ⟨w.heap.size, 2, none⟩ = some (.int .i64 us) := CB.cell r5_t 2
    have f5_t3 : w4.cell? ⟨w.heap.size, 3, none⟩ = some (.int .i64 cp) := CB.cell r5_t 3
    go_wp2_with fail
    go_ret
    exact ⟨by rw [H.out]; rfl, l5⟩
  by_cases g3 : 100 < cp
  · skip
    have H := Lib.hid (show rightT ⟨dl, sp, us, cp⟩ = false by rw [right_no]; intro h; obtain ⟨⟨⟨⟨a, b⟩, c, d⟩, ⟨e, f⟩, g, j⟩, _⟩ := h; simp only at a b c d e f g j; omega)
    have p0 : decide (sp < 1) = false := by simp; omega
    have q0 : decide (1 ≤ sp) = true := by simp; omega
    have p1 : decide (1048576 < sp) = false := by simp; omega
    have q1 : decide (sp ≤ 1048576) = true := by simp; omega
    have p2 : decide (cp < 0) = false := by simp; omega
    have q2 : decide (0 ≤ cp) = true := by simp; omega
    have p3 : decide (100 < cp) = true := by simp; omega
    have q3 : decide (cp ≤ 100) = false := by simp; omega
    have hs : decide (1 ≤ sp ∧ sp ≤ 1048576) = true := by simp; omega
    have hc : decide (0 ≤ cp ∧ cp ≤ 100) = false := by simp; omega
    have S1 := fun W => span_c sp W
    simp only [hs] at S1
    have S2 := fun W => cap_c cp W
    simp only [hc] at S2
    clear hs hc
    clear g0 g1 g2 g3
    obtain ⟨W1, hW1⟩ : ∃ V, w.alloc (.cells #[.int .i64 dl, .int .i64 sp, .int .i64 us, .int .i64 cp] 42) = V := ⟨_, rfl⟩
    have nW1_t : CB W1 (w.heap.size) 42 #[.int .i64 dl, .int .i64 sp, .int .i64 us, .int .i64 cp] := by
      rw [← hW1]
      have := (CB.new w 42 #[.int .i64 dl, .int .i64 sp, .int .i64 us, .int .i64 cp])
      simpa using this
    have lW1 : Below w.heap.size w W1 := by rw [← hW1]; exact le_al _ _
    have HW1 := Lib.hid hW1
    clear hW1
    go_enter Try.func29, Try.ntmps29
    have f1_t0 : (w.alloc (.cells #[.int .i64 dl, .int .i64 sp, .int .i64 us, .int .i64 cp] 42)).cell? ⟨w.heap.size, 0, none⟩ = some (.int .i64 dl) := by rw [HW1.out]; exact CB.cell nW1_t 0
    have f1_t1 : (w.alloc (.cells #[.int .i64 dl, .int .i64 sp, .int .i64 us, .int .i64 cp] 42)).cell? ⟨w.heap.size, 1, none⟩ = some (.int .i64 sp) := by rw [HW1.out]; exact CB.cell nW1_t 1
    have f1_t2 : (w.alloc (.cells #[.int .i64 dl, .int .i64 sp, .int .i64 us, .int .i64 cp] 42)).cell? ⟨w.heap.size, 2, none⟩ = some (.int .i64 us) := by rw [HW1.out]; exact CB.cell nW1_t 2
    have f1_t3 : (w.alloc (.cells #[.int .i64 dl, .int .i64 sp, .int .i64 us, .int .i64 cp] 42)).cell? ⟨w.heap.size, 3, none⟩ = some (.int .i64 cp) := by rw [HW1.out]; exact CB.cell nW1_t 3
    go_wp2_with fail
    rw [HW1.out]
    refine (S1 _).mono ?_
    rintro e w2 ⟨rfl, b2⟩
    clear f1_t0 f1_t1 f1_t2 f1_t3
    have r3_t := le_on nW1_t b2
    have l3 := le_tr lW1 b2
    clear nW1_t lW1
    clear b2
    have f3_t0 : w2.cell? ⟨w.heap.size, 0, none⟩ = some (.int .i64 dl) := CB.cell r3_t 0
    have f3_t1 : w2.cell? ⟨w.heap.size, 1, none⟩ = some (.int .i64 sp) := CB.cell r3_t 1
    have f3_t2 : w2.cell? ⟨w.heap.size, 2, none⟩ = some (.int .i64 us) := CB.cell r3_t 2
    have f3_t3 : w2.cell? ⟨w.heap.size, 3, none⟩ = some (.int .i64 cp) := CB.cell r3_t 3
    go_wp2_with fail
    refine (S2 _).mono ?_
    rintro e w4 ⟨rfl, b4⟩
    clear f3_t0 f3_t1 f3_t2 f3_t3
    have r5_t := le_on r3_t b4
    have l5 := le_tr l3 b4
    clear r3_t l3
    clear b4
    have f5_t0 : w4.cell? ⟨w.heap.size, 0, none⟩ = some (.int .i64 dl) := CB.cell r5_t 0
    have f5_t1 : w4.cell? ⟨w.heap.size, 1, none⟩ = some (.int .i64 sp) := CB.cell r5_t 1
    have f5_t2 : w4.cell? ⟨w.heap.size, 2, none⟩ = some (.int .i64 us) := CB.cell r5_t 2
    have f5_t3 : w4.cell? ⟨w.heap.size, 3, none⟩ = some (.int .i64 cp) := CB.cell r5_t 3
    go_wp2_with fail
    go_ret
    exact ⟨by rw [H.out]; rfl, l5⟩
  by_cases g4 : us < 0
  · skip
    have H := Lib.hid (show rightT ⟨dl, sp, us, cp⟩ = false by rw [right_no]; intro h; obtain ⟨⟨⟨⟨a, b⟩, c, d⟩, ⟨e, f⟩, g, j⟩, _⟩ := h; simp only at a b c d e f g j; omega)
    have p0 : decide (sp < 1) = false := by simp; omega
    have q0 : decide (1 ≤ sp) = true := by simp; omega
    have p1 : decide (1048576 < sp) = false := by simp; omega
    have q1 : decide (sp ≤ 1048576) = true := by simp; omega
    have p2 : decide (cp < 0) = false := by simp; omega
    have q2 : decide (0 ≤ cp) = true := by simp; omega
    have p3 : decide (100 < cp) = false := by simp; omega
    have q3 : decide (cp ≤ 100) = true := by simp; omega
    have p4 : decide (us < 0) = true := by simp; omega
    have q4 : decide (0 ≤ us) = false := by simp; omega
    have hs : decide (1 ≤ sp ∧ sp ≤ 1048576) = true := by simp; omega
    have hc : decide (0 ≤ cp ∧ cp ≤ 100) = true := by simp; omega
    have S1 := fun W => span_c sp W
    simp only [hs] at S1
    have S2 := fun W => cap_c cp W
    simp only [hc] at S2
    clear hs hc
    clear g0 g1 g2 g3 g4
    obtain ⟨W1, hW1⟩ : ∃ V, w.alloc (.cells #[.int .i64 dl, .int .i64 sp, .int .i64 us, .int .i64 cp] 42) = V := ⟨_, rfl⟩
    have nW1_t : CB W1 (w.heap.size) 42 #[.int .i64 dl, .int .i64 sp, .int .i64 us, .int .i64 cp] := by
      rw [← hW1]
      have := (CB.new w 42 #[.int .i64 dl, .int .i64 sp, .int .i64 us, .int .i64 cp])
      simpa using this
    have lW1 : Below w.heap.size w W1 := by rw [← hW1]; exact le_al _ _
    have HW1 := Lib.hid hW1
    clear hW1
    go_enter Try.func29, Try.ntmps29
    have f1_t0 : (w.alloc (.cells #[.int .i64 dl, .int .i64 sp, .int .i64 us, .int .i64 cp] 42)).cell? ⟨w.heap.size, 0, none⟩ = some (.int .i64 dl) := by rw [HW1.out]; exact CB.cell nW1_t 0
    have f1_t1 : (w.alloc (.cells #[.int .i64 dl, .int .i64 sp, .int .i64 us, .int .i64 cp] 42)).cell? ⟨w.heap.size, 1, none⟩ = some (.int .i64 sp) := by rw [HW1.out]; exact CB.cell nW1_t 1
    have f1_t2 : (w.alloc (.cells #[.int .i64 dl, .int .i64 sp, .int .i64 us, .int .i64 cp] 42)).cell? ⟨w.heap.size, 2, none⟩ = some (.int .i64 us) := by rw [HW1.out]; exact CB.cell nW1_t 2
    have f1_t3 : (w.alloc (.cells #[.int .i64 dl, .int .i64 sp, .int .i64 us, .int .i64 cp] 42)).cell? ⟨w.heap.size, 3, none⟩ = some (.int .i64 cp) := by rw [HW1.out]; exact CB.cell nW1_t 3
    go_wp2_with fail
    rw [HW1.out]
    refine (S1 _).mono ?_
    rintro e w2 ⟨rfl, b2⟩
    clear f1_t0 f1_t1 f1_t2 f1_t3
    have r3_t := le_on nW1_t b2
    have l3 := le_tr lW1 b2
    clear nW1_t lW1
    clear b2
    have f3_t0 : w2.cell? ⟨w.heap.size, 0, none⟩ = some (.int .i64 dl) := CB.cell r3_t 0
    have f3_t1 : w2.cell? ⟨w.heap.size, 1, none⟩ = some (.int .i64 sp) := CB.cell r3_t 1
    have f3_t2 : w2.cell? ⟨w.heap.size, 2, none⟩ = some (.int .i64 us) := CB.cell r3_t 2
    have f3_t3 : w2.cell? ⟨w.heap.size, 3, none⟩ = some (.int .i64 cp) := CB.cell r3_t 3
    go_wp2_with fail
    refine (S2 _).mono ?_
    rintro e w4 ⟨rfl, b4⟩
    clear f3_t0 f3_t1 f3_t2 f3_t3
    have r5_t := le_on r3_t b4
    have l5 := le_tr l3 b4
    clear r3_t l3
    clear b4
    have f5_t0 : w4.cell? ⟨w.heap.size, 0, none⟩ = some (.int .i64 dl) := CB.cell r5_t 0
    have f5_t1 : w4.cell? ⟨w.heap.size, 1, none⟩ = some (.int .i64 sp) := CB.cell r5_t 1
    have f5_t2 : w4.cell? ⟨w.heap.size, 2, none⟩ = some (.int .i64 us) := CB.cell r5_t 2
    have f5_t3 : w4.cell? ⟨w.heap.size, 3, none⟩ = some (.int .i64 cp) := CB.cell r5_t 3
    go_wp2_with fail
    go_ret
    exact ⟨by rw [H.out]; rfl, l5⟩
  by_cases g5 : cp < us
  · skip
    have H := Lib.hid (show rightT ⟨dl, sp, us, cp⟩ = false by rw [right_no]; intro h; obtain ⟨⟨⟨⟨a, b⟩, c, d⟩, ⟨e, f⟩, g, j⟩, _⟩ := h; simp only at a b c d e f g j; omega)
    have p0 : decide (sp < 1) = false := by simp; omega
    have q0 : decide (1 ≤ sp) = true := by simp; omega
    have p1 : decide (1048576 < sp) = false := by simp; omega
    have q1 : decide (sp ≤ 1048576) = true := by simp; omega
    have p2 : decide (cp < 0) = false := by simp; omega
    have q2 : decide (0 ≤ cp) = true := by simp; omega
    have p3 : decide (100 < cp) = false := by simp; omega
    have q3 : decide (cp ≤ 100) = true := by simp; omega
    have p4 : decide (us < 0) = false := by simp; omega
    have q4 : decide (0 ≤ us) = true := by simp; omega
    have p5 : decide (cp < us) = true := by simp; omega
    have q5 : decide (us ≤ cp) = false := by simp; omega
    have hs : decide (1 ≤ sp ∧ sp ≤ 1048576) = true := by simp; omega
    have hc : decide (0 ≤ cp ∧ cp ≤ 100) = true := by simp; omega
    have S1 := fun W => span_c sp W
    simp only [hs] at S1
    have S2 := fun W => cap_c cp W
    simp only [hc] at S2
    clear hs hc
    clear g0 g1 g2 g3 g4 g5
    obtain ⟨W1, hW1⟩ : ∃ V, w.alloc (.cells #[.int .i64 dl, .int .i64 sp, .int .i64 us, .int .i64 cp] 42) = V := ⟨_, rfl⟩
    have nW1_t : CB W1 (w.heap.size) 42 #[.int .i64 dl, .int .i64 sp, .int .i64 us, .int .i64 cp] := by
      rw [← hW1]
      have := (CB.new w 42 #[.int .i64 dl, .int .i64 sp, .int .i64 us, .int .i64 cp])
      simpa using this
    have lW1 : Below w.heap.size w W1 := by rw [← hW1]; exact le_al _ _
    have HW1 := Lib.hid hW1
    clear hW1
    go_enter Try.func29, Try.ntmps29
    have f1_t0 : (w.alloc (.cells #[.int .i64 dl, .int .i64 sp, .int .i64 us, .int .i64 cp] 42)).cell? ⟨w.heap.size, 0, none⟩ = some (.int .i64 dl) := by rw [HW1.out]; exact CB.cell nW1_t 0
    have f1_t1 : (w.alloc (.cells #[.int .i64 dl, .int .i64 sp, .int .i64 us, .int .i64 cp] 42)).cell? ⟨w.heap.size, 1, none⟩ = some (.int .i64 sp) := by rw [HW1.out]; exact CB.cell nW1_t 1
    have f1_t2 : (w.alloc (.cells #[.int .i64 dl, .int .i64 sp, .int .i64 us, .int .i64 cp] 42)).cell? ⟨w.heap.size, 2, none⟩ = some (.int .i64 us) := by rw [HW1.out]; exact CB.cell nW1_t 2
    have f1_t3 : (w.alloc (.cells #[.int .i64 dl, .int .i64 sp, .int .i64 us, .int .i64 cp] 42)).cell? ⟨w.heap.size, 3, none⟩ = some (.int .i64 cp) := by rw [HW1.out]; exact CB.cell nW1_t 3
    go_wp2_with fail
    rw [HW1.out]
    refine (S1 _).mono ?_
    rintro e w2 ⟨rfl, b2⟩
    clear f1_t0 f1_t1 f1_t2 f1_t3
    have r3_t := le_on nW1_t b2
    have l3 := le_tr lW1 b2
    clear nW1_t lW1
    clear b2
    have f3_t0 : w2.cell? ⟨w.heap.size, 0, none⟩ = some (.int .i64 dl) := CB.cell r3_t 0
    have f3_t1 : w2.cell? ⟨w.heap.size, 1, none⟩ = some (.int .i64 sp) := CB.cell r3_t 1
    have f3_t2 : w2.cell? ⟨w.heap.size, 2, none⟩ = some (.int .i64 us) := CB.cell r3_t 2
    have f3_t3 : w2.cell? ⟨w.heap.size, 3, none⟩ = some (.int .i64 cp) := CB.cell r3_t 3
    go_wp2_with fail
    refine (S2 _).mono ?_
    rintro e w4 ⟨rfl, b4⟩
    clear f3_t0 f3_t1 f3_t2 f3_t3
    have r5_t := le_on r3_t b4
    have l5 := le_tr l3 b4
    clear r3_t l3
    clear b4
    have f5_t0 : w4.cell? ⟨w.heap.size, 0, none⟩ = some (.int .i64 dl) := CB.cell r5_t 0
    have f5_t1 : w4.cell? ⟨w.heap.size, 1, none⟩ = some (.int .i64 sp) := CB.cell r5_t 1
    have f5_t2 : w4.cell? ⟨w.heap.size, 2, none⟩ = some (.int .i64 us) := CB.cell r5_t 2
    have f5_t3 : w4.cell? ⟨w.heap.size, 3, none⟩ = some (.int .i64 cp) := CB.cell r5_t 3
    go_wp2_with fail
    go_ret
    exact ⟨by rw [H.out]; rfl, l5⟩
  by_cases g6 : dl < sp
  · skip
    have H := Lib.hid (show rightT ⟨dl, sp, us, cp⟩ = false by rw [right_no]; intro h; obtain ⟨⟨⟨⟨a, b⟩, c, d⟩, ⟨e, f⟩, g, j⟩, _⟩ := h; simp only at a b c d e f g j; omega)
    have p0 : decide (sp < 1) = false := by simp; omega
    have q0 : decide (1 ≤ sp) = true := by simp; omega
    have p1 : decide (1048576 < sp) = false := by simp; omega
    have q1 : decide (sp ≤ 1048576) = true := by simp; omega
    have p2 : decide (cp < 0) = false := by simp; omega
    have q2 : decide (0 ≤ cp) = true := by simp; omega
    have p3 : decide (100 < cp) = false := by simp; omega
    have q3 : decide (cp ≤ 100) = true := by simp; omega
    have p4 : decide (us < 0) = false := by simp; omega
    have q4 : decide (0 ≤ us) = true := by simp; omega
    have p5 : decide (cp < us) = false := by simp; omega
    have q5 : decide (us ≤ cp) = true := by simp; omega
    have p6 : decide (dl < sp) = true := by simp; omega
    have q6 : decide (sp ≤ dl) = false := by simp; omega
    have hs : decide (1 ≤ sp ∧ sp ≤ 1048576) = true := by simp; omega
    have hc : decide (0 ≤ cp ∧ cp ≤ 100) = true := by simp; omega
    have S1 := fun W => span_c sp W
    simp only [hs] at S1
    have S2 := fun W => cap_c cp W
    simp only [hc] at S2
    clear hs hc
    clear g0 g1 g2 g3 g4 g5 g6
    obtain ⟨W1, hW1⟩ : ∃ V, w.alloc (.cells #[.int .i64 dl, .int .i64 sp, .int .i64 us, .int .i64 cp] 42) = V := ⟨_, rfl⟩
    have nW1_t : CB W1 (w.heap.size) 42 #[.int .i64 dl, .int .i64 sp, .int .i64 us, .int .i64 cp] := by
      rw [← hW1]
      have := (CB.new w 42 #[.int .i64 dl, .int .i64 sp, .int .i64 us, .int .i64 cp])
      simpa using this
    have lW1 : Below w.heap.size w W1 := by rw [← hW1]; exact le_al _ _
    have HW1 := Lib.hid hW1
    clear hW1
    go_enter Try.func29, Try.ntmps29
    have f1_t0 : (w.alloc (.cells #[.int .i64 dl, .int .i64 sp, .int .i64 us, .int .i64 cp] 42)).cell? ⟨w.heap.size, 0, none⟩ = some (.int .i64 dl) := by rw [HW1.out]; exact CB.cell nW1_t 0
    have f1_t1 : (w.alloc (.cells #[.int .i64 dl, .int .i64 sp, .int .i64 us, .int .i64 cp] 42)).cell? ⟨w.heap.size, 1, none⟩ = some (.int .i64 sp) := by rw [HW1.out]; exact CB.cell nW1_t 1
    have f1_t2 : (w.alloc (.cells #[.int .i64 dl, .int .i64 sp, .int .i64 us, .int .i64 cp] 42)).cell? ⟨w.heap.size, 2, none⟩ = some (.int .i64 us) := by rw [HW1.out]; exact CB.cell nW1_t 2
    have f1_t3 : (w.alloc (.cells #[.int .i64 dl, .int .i64 sp, .int .i64 us, .int .i64 cp] 42)).cell? ⟨w.heap.size, 3, none⟩ = some (.int .i64 cp) := by rw [HW1.out]; exact CB.cell nW1_t 3
    go_wp2_with fail
    rw [HW1.out]
    refine (S1 _).mono ?_
    rintro e w2 ⟨rfl, b2⟩
    clear f1_t0 f1_t1 f1_t2 f1_t3
    have r3_t := le_on nW1_t b2
    have l3 := le_tr lW1 b2
    clear nW1_t lW1
    clear b2
    have f3_t0 : w2.cell? ⟨w.heap.size, 0, none⟩ = some (.int .i64 dl) := CB.cell r3_t 0
    have f3_t1 : w2.cell? ⟨w.heap.size, 1, none⟩ = some (.int .i64 sp) := CB.cell r3_t 1
    have f3_t2 : w2.cell? ⟨w.heap.size, 2, none⟩ = some (.int .i64 us) := CB.cell r3_t 2
    have f3_t3 : w2.cell? ⟨w.heap.size, 3, none⟩ = some (.int .i64 cp) := CB.cell r3_t 3
    go_wp2_with fail
    refine (S2 _).mono ?_
    rintro e w4 ⟨rfl, b4⟩
    clear f3_t0 f3_t1 f3_t2 f3_t3
    have r5_t := le_on r3_t b4
    have l5 := le_tr l3 b4
    clear r3_t l3
    clear b4
    have f5_t0 : w4.cell? ⟨w.heap.size, 0, none⟩ = some (.int .i64 dl) := CB.cell r5_t 0
    have f5_t1 : w4.cell? ⟨w.heap.size, 1, none⟩ = some (.int .i64 sp) := CB.cell r5_t 1
    have f5_t2 : w4.cell? ⟨w.heap.size, 2, none⟩ = some (.int .i64 us) := CB.cell r5_t 2
    have f5_t3 : w4.cell? ⟨w.heap.size, 3, none⟩ = some (.int .i64 cp) := CB.cell r5_t 3
    go_wp2_with fail
    go_ret
    exact ⟨by rw [H.out]; rfl, l5⟩
  by_cases g7 : 1099511627776 < dl
  · skip
    have H := Lib.hid (show rightT ⟨dl, sp, us, cp⟩ = false by rw [right_no]; intro h; obtain ⟨⟨⟨⟨a, b⟩, c, d⟩, ⟨e, f⟩, g, j⟩, _⟩ := h; simp only at a b c d e f g j; omega)
    have p0 : decide (sp < 1) = false := by simp; omega
    have q0 : decide (1 ≤ sp) = true := by simp; omega
    have p1 : decide (1048576 < sp) = false := by simp; omega
    have q1 : decide (sp ≤ 1048576) = true := by simp; omega
    have p2 : decide (cp < 0) = false := by simp; omega
    have q2 : decide (0 ≤ cp) = true := by simp; omega
    have p3 : decide (100 < cp) = false := by simp; omega
    have q3 : decide (cp ≤ 100) = true := by simp; omega
    have p4 : decide (us < 0) = false := by simp; omega
    have q4 : decide (0 ≤ us) = true := by simp; omega
    have p5 : decide (cp < us) = false := by simp; omega
    have q5 : decide (us ≤ cp) = true := by simp; omega
    have p6 : decide (dl < sp) = false := by simp; omega
    have q6 : decide (sp ≤ dl) = true := by simp; omega
    have p7 : decide (1099511627776 < dl) = true := by simp; omega
    have q7 : decide (dl ≤ 1099511627776) = false := by simp; omega
    have hs : decide (1 ≤ sp ∧ sp ≤ 1048576) = true := by simp; omega
    have hc : decide (0 ≤ cp ∧ cp ≤ 100) = true := by simp; omega
    have S1 := fun W => span_c sp W
    simp only [hs] at S1
    have S2 := fun W => cap_c cp W
    simp only [hc] at S2
    clear hs hc
    clear g0 g1 g2 g3 g4 g5 g6 g7
    obtain ⟨W1, hW1⟩ : ∃ V, w.alloc (.cells #[.int .i64 dl, .int .i64 sp, .int .i64 us, .int .i64 cp] 42) = V := ⟨_, rfl⟩
    have nW1_t : CB W1 (w.heap.size) 42 #[.int .i64 dl, .int .i64 sp, .int .i64 us, .int .i64 cp] := by
      rw [← hW1]
      have := (CB.new w 42 #[.int .i64 dl, .int .i64 sp, .int .i64 us, .int .i64 cp])
      simpa using this
    have lW1 : Below w.heap.size w W1 := by rw [← hW1]; exact le_al _ _
    have HW1 := Lib.hid hW1
    clear hW1
    go_enter Try.func29, Try.ntmps29
    have f1_t0 : (w.alloc (.cells #[.int .i64 dl, .int .i64 sp, .int .i64 us, .int .i64 cp] 42)).cell? ⟨w.heap.size, 0, none⟩ = some (.int .i64 dl) := by rw [HW1.out]; exact CB.cell nW1_t 0
    have f1_t1 : (w.alloc (.cells #[.int .i64 dl, .int .i64 sp, .int .i64 us, .int .i64 cp] 42)).cell? ⟨w.heap.size, 1, none⟩ = some (.int .i64 sp) := by rw [HW1.out]; exact CB.cell nW1_t 1
    have f1_t2 : (w.alloc (.cells #[.int .i64 dl, .int .i64 sp, .int .i64 us, .int .i64 cp] 42)).cell? ⟨w.heap.size, 2, none⟩ = some (.int .i64 us) := by rw [HW1.out]; exact CB.cell nW1_t 2
    have f1_t3 : (w.alloc (.cells #[.int .i64 dl, .int .i64 sp, .int .i64 us, .int .i64 cp] 42)).cell? ⟨w.heap.size, 3, none⟩ = some (.int .i64 cp) := by rw [HW1.out]; exact CB.cell nW1_t 3
    go_wp2_with fail
    rw [HW1.out]
    refine (S1 _).mono ?_
    rintro e w2 ⟨rfl, b2⟩
    clear f1_t0 f1_t1 f1_t2 f1_t3
    have r3_t := le_on nW1_t b2
    have l3 := le_tr lW1 b2
    clear nW1_t lW1
    clear b2
    have f3_t0 : w2.cell? ⟨w.heap.size, 0, none⟩ = some (.int .i64 dl) := CB.cell r3_t 0
    have f3_t1 : w2.cell? ⟨w.heap.size, 1, none⟩ = some (.int .i64 sp) := CB.cell r3_t 1
    have f3_t2 : w2.cell? ⟨w.heap.size, 2, none⟩ = some (.int .i64 us) := CB.cell r3_t 2
    have f3_t3 : w2.cell? ⟨w.heap.size, 3, none⟩ = some (.int .i64 cp) := CB.cell r3_t 3
    go_wp2_with fail
    refine (S2 _).mono ?_
    rintro e w4 ⟨rfl, b4⟩
    clear f3_t0 f3_t1 f3_t2 f3_t3
    have r5_t := le_on r3_t b4
    have l5 := le_tr l3 b4
    clear r3_t l3
    clear b4
    have f5_t0 : w4.cell? ⟨w.heap.size, 0, none⟩ = some (.int .i64 dl) := CB.cell r5_t 0
    have f5_t1 : w4.cell? ⟨w.heap.size, 1, none⟩ = some (.int .i64 sp) := CB.cell r5_t 1
    have f5_t2 : w4.cell? ⟨w.heap.size, 2, none⟩ = some (.int .i64 us) := CB.cell r5_t 2
    have f5_t3 : w4.cell? ⟨w.heap.size, 3, none⟩ = some (.int .i64 cp) := CB.cell r5_t 3
    go_wp2_with fail
    go_ret
    exact ⟨by rw [H.out]; rfl, l5⟩
  have hF : FT ⟨dl, sp, us, cp⟩ := ⟨⟨⟨by simp only; omega, by simp only; omega⟩, by simp only; omega, by simp only; omega⟩, ⟨by simp only; omega, by simp only; omega⟩, by simp only; omega, by simp only; omega⟩
  have hm : 0 ≤ (cp - us) * sp ∧ (cp - us) * sp ≤ 104857600 := hF.rest
  have H := Lib.hid (show rightT ⟨dl, sp, us, cp⟩ = decide (dl + (cp - us) * sp ≤ 1099511627776) by
    rw [Bool.eq_iff_iff, right_iff, decide_eq_true_iff]
    exact ⟨fun h => h.2, fun h => ⟨hF, h⟩⟩)
  have p0 : decide (sp < 1) = false := by simp; omega
  have q0 : decide (1 ≤ sp) = true := by simp; omega
  have p1 : decide (1048576 < sp) = false := by simp; omega
  have q1 : decide (sp ≤ 1048576) = true := by simp; omega
  have p2 : decide (cp < 0) = false := by simp; omega
  have q2 : decide (0 ≤ cp) = true := by simp; omega
  have p3 : decide (100 < cp) = false := by simp; omega
  have q3 : decide (cp ≤ 100) = true := by simp; omega
  have p4 : decide (us < 0) = false := by simp; omega
  have q4 : decide (0 ≤ us) = true := by simp; omega
  have p5 : decide (cp < us) = false := by simp; omega
  have q5 : decide (us ≤ cp) = true := by simp; omega
  have p6 : decide (dl < sp) = false := by simp; omega
  have q6 : decide (sp ≤ dl) = true := by simp; omega
  have p7 : decide (1099511627776 < dl) = false := by simp; omega
  have q7 : decide (dl ≤ 1099511627776) = true := by simp; omega
  have hs : decide (1 ≤ sp ∧ sp ≤ 1048576) = true := by simp; omega
  have hc : decide (0 ≤ cp ∧ cp ≤ 100) = true := by simp; omega
  have S1 := fun W => span_c sp W
  simp only [hs] at S1
  have S2 := fun W => cap_c cp W
  simp only [hc] at S2
  clear hs hc
  have S3 := fun W => lastOf_c dl sp us cp W (by omega) (by omega) (by omega) (by omega)
  clear hF hm g0 g1 g2 g3 g4 g5 g6 g7
  obtain ⟨W1, hW1⟩ : ∃ V, w.alloc (.cells #[.int .i64 dl, .int .i64 sp, .int .i64 us, .int .i64 cp] 42) = V := ⟨_, rfl⟩
  have nW1_t : CB W1 (w.heap.size) 42 #[.int .i64 dl, .int .i64 sp, .int .i64 us, .int .i64 cp] := by
    rw [← hW1]
    have := (CB.new w 42 #[.int .i64 dl, .int .i64 sp, .int .i64 us, .int .i64 cp])
    simpa using this
  have lW1 : Below w.heap.size w W1 := by rw [← hW1]; exact le_al _ _
  have HW1 := Lib.hid hW1
  clear hW1
  go_enter Try.func29, Try.ntmps29
  have f1_t0 : (w.alloc (.cells #[.int .i64 dl, .int .i64 sp, .int .i64 us, .int .i64 cp] 42)).cell? ⟨w.heap.size, 0, none⟩ = some (.int .i64 dl) := by rw [HW1.out]; exact CB.cell nW1_t 0
  have f1_t1 : (w.alloc (.cells #[.int .i64 dl, .int .i64 sp, .int .i64 us, .int .i64 cp] 42)).cell? ⟨w.heap.size, 1, none⟩ = some (.int .i64 sp) := by rw [HW1.out]; exact CB.cell nW1_t 1
  have f1_t2 : (w.alloc (.cells #[.int .i64 dl, .int .i64 sp, .int .i64 us, .int .i64 cp] 42)).cell? ⟨w.heap.size, 2, none⟩ = some (.int .i64 us) := by rw [HW1.out]; exact CB.cell nW1_t 2
  have f1_t3 : (w.alloc (.cells #[.int .i64 dl, .int .i64 sp, .int .i64 us, .int .i64 cp] 42)).cell? ⟨w.heap.size, 3, none⟩ = some (.int .i64 cp) := by rw [HW1.out]; exact CB.cell nW1_t 3
  go_wp2_with fail
  rw [HW1.out]
  refine (S1 _).mono ?_
  rintro e w2 ⟨rfl, b2⟩
  clear f1_t0 f1_t1 f1_t2 f1_t3
  have r3_t := le_on nW1_t b2
  have l3 := le_tr lW1 b2
  clear nW1_t lW1
  clear b2
  have f3_t0 : w2.cell? ⟨w.heap.size, 0, none⟩ = some (.int .i64 dl) := CB.cell r3_t 0
  have f3_t1 : w2.cell? ⟨w.heap.size, 1, none⟩ = some (.int .i64 sp) := CB.cell r3_t 1
  have f3_t2 : w2.cell? ⟨w.heap.size, 2, none⟩ = some (.int .i64 us) := CB.cell r3_t 2
  have f3_t3 : w2.cell? ⟨w.heap.size, 3, none⟩ = some (.int .i64 cp) := CB.cell r3_t 3
  go_wp2_with fail
  refine (S2 _).mono ?_
  rintro e w4 ⟨rfl, b4⟩
  clear f3_t0 f3_t1 f3_t2 f3_t3
  have r5_t := le_on r3_t b4
  have l5 := le_tr l3 b4
  clear r3_t l3
  clear b4
  have f5_t0 : w4.cell? ⟨w.heap.size, 0, none⟩ = some (.int .i64 dl) := CB.cell r5_t 0
  have f5_t1 : w4.cell? ⟨w.heap.size, 1, none⟩ = some (.int .i64 sp) := CB.cell r5_t 1
  have f5_t2 : w4.cell? ⟨w.heap.size, 2, none⟩ = some (.int .i64 us) := CB.cell r5_t 2
  have f5_t3 : w4.cell? ⟨w.heap.size, 3, none⟩ = some (.int .i64 cp) := CB.cell r5_t 3
  go_wp2_with fail
  refine (S3 _).mono ?_
  rintro e w6 ⟨rfl, b6⟩
  clear f5_t0 f5_t1 f5_t2 f5_t3
  have r7_t := le_on r5_t b6
  have l7 := le_tr l5 b6
  clear r5_t l5
  clear b6
  have f7_t0 : w6.cell? ⟨w.heap.size, 0, none⟩ = some (.int .i64 dl) := CB.cell r7_t 0
  have f7_t1 : w6.cell? ⟨w.heap.size, 1, none⟩ = some (.int .i64 sp) := CB.cell r7_t 1
  have f7_t2 : w6.cell? ⟨w.heap.size, 2, none⟩ = some (.int .i64 us) := CB.cell r7_t 2
  have f7_t3 : w6.cell? ⟨w.heap.size, 3, none⟩ = some (.int .i64 cp) := CB.cell r7_t 3
  go_wp2_with fail
  go_ret
  exact ⟨by rw [H.out]; rfl, l7⟩
set_option maxRecDepth 100000 in
set_option maxHeartbeats 4000000 in
theorem over_c (dl sp us cp x : Int) (w : World) : Calls Try.prog 21 #[.agg #[.int .i64 dl, .int .i64 sp, .int .i64 us, .int .i64 cp], .int .i64 x] w fun r w' => r = .returned (.bool (overT ⟨dl, sp, us, cp⟩ x)) ∧ Below w.heap.size w w' := by
  cases hrt : rightT ⟨dl, sp, us, cp⟩ with
  | false =>
    have H := Lib.hid (show overT ⟨dl, sp, us, cp⟩ x = false by unfold overT; rw [hrt]; rfl)
    have R1 := fun W => right_c dl sp us cp W
    simp only [hrt] at R1
    clear hrt
    obtain ⟨W1, hW1⟩ : ∃ V, w.alloc (.cells #[.int .i64 dl, .int .i64 sp, .int .i64 us, .int .i64 cp] 42) = V := ⟨_, rfl⟩
    have nW1_t : CB W1 (w.heap.size) 42 #[.int .i64 dl, .int .i64 sp, .int .i64 us, .int .i64 cp] := by
      rw [← hW1]
      have := (CB.new w 42 #[.int .i64 dl, .int .i64 sp, .int .i64 us, .int .i64 cp])
      simpa using this
    have lW1 : Below w.heap.size w W1 := by rw [← hW1]; exact le_al _ _
    have HW1 := Lib.hid hW1
    clear hW1
    go_enter Try.func21, Try.ntmps21
    have f1_t0 : (w.alloc (.cells #[.int .i64 dl, .int .i64 sp, .int .i64 us, .int .i64 cp] 42)).cell? ⟨w.heap.size, 0, none⟩ = some (.int .i64 dl) := by rw [HW1.out]; exact CB.cell nW1_t 0
    have f1_t1 : (w.alloc (.cells #[.int .i64 dl, .int .i64 sp, .int .i64 us, .int .i64 cp] 42)).cell? ⟨w.heap.size, 1, none⟩ = some (.int .i64 sp) := by rw [HW1.out]; exact CB.cell nW1_t 1
    have f1_t2 : (w.alloc (.cells #[.int .i64 dl, .int .i64 sp, .int .i64 us, .int .i64 cp] 42)).cell? ⟨w.heap.size, 2, none⟩ = some (.int .i64 us) := by rw [HW1.out]; exact CB.cell nW1_t 2
    have f1_t3 : (w.alloc (.cells #[.int .i64 dl, .int .i64 sp, .int .i64 us, .int .i64 cp] 42)).cell? ⟨w.heap.size, 3, none⟩ = some (.int .i64 cp) := by rw [HW1.out]; exact CB.cell nW1_t 3
    go_wp2_with fail
    rw [HW1.out]
    refine (R1 _).mono ?_
    rintro e w2 ⟨rfl, b2⟩
    clear f1_t0 f1_t1 f1_t2 f1_t3
    have r3_t := le_on nW1_t b2
    have l3 := le_tr lW1 b2
    clear nW1_t lW1
    clear b2
    have f3_t0 : w2.cell? ⟨w.heap.size, 0, none⟩ = some (.int .i64 dl) := CB.cell r3_t 0
    have f3_t1 : w2.cell? ⟨w.heap.size, 1, none⟩ = some (.int .i64 sp) := CB.cell r3_t 1
    have f3_t2 : w2.cell? ⟨w.heap.size, 2, none⟩ = some (.int .i64 us) := CB.cell r3_t 2
    have f3_t3 : w2.cell? ⟨w.heap.size, 3, none⟩ = some (.int .i64 cp) := CB.cell r3_t 3
    go_wp2_with fail
    go_ret
    exact ⟨by rw [H.out]; rfl, l3⟩
  | true =>
    have H := Lib.hid (show overT ⟨dl, sp, us, cp⟩ x = decide (dl ≤ x) by unfold overT; rw [hrt]; rfl)
    have R1 := fun W => right_c dl sp us cp W
    simp only [hrt] at R1
    clear hrt
    obtain ⟨W1, hW1⟩ : ∃ V, w.alloc (.cells #[.int .i64 dl, .int .i64 sp, .int .i64 us, .int .i64 cp] 42) = V := ⟨_, rfl⟩
    have nW1_t : CB W1 (w.heap.size) 42 #[.int .i64 dl, .int .i64 sp, .int .i64 us, .int .i64 cp] := by
      rw [← hW1]
      have := (CB.new w 42 #[.int .i64 dl, .int .i64 sp, .int .i64 us, .int .i64 cp])
      simpa using this
    have lW1 : Below w.heap.size w W1 := by rw [← hW1]; exact le_al _ _
    have HW1 := Lib.hid hW1
    clear hW1
    go_enter Try.func21, Try.ntmps21
    have f1_t0 : (w.alloc (.cells #[.int .i64 dl, .int .i64 sp, .int .i64 us, .int .i64 cp] 42)).cell? ⟨w.heap.size, 0, none⟩ = some (.int .i64 dl) := by rw [HW1.out]; exact CB.cell nW1_t 0
    have f1_t1 : (w.alloc (.cells #[.int .i64 dl, .int .i64 sp, .int .i64 us, .int .i64 cp] 42)).cell? ⟨w.heap.size, 1, none⟩ = some (.int .i64 sp) := by rw [HW1.out]; exact CB.cell nW1_t 1
    have f1_t2 : (w.alloc (.cells #[.int .i64 dl, .int .i64 sp, .int .i64 us, .int .i64 cp] 42)).cell? ⟨w.heap.size, 2, none⟩ = some (.int .i64 us) := by rw [HW1.out]; exact CB.cell nW1_t 2
    have f1_t3 : (w.alloc (.cells #[.int .i64 dl, .int .i64 sp, .int .i64 us, .int .i64 cp] 42)).cell? ⟨w.heap.size, 3, none⟩ = some (.int .i64 cp) := by rw [HW1.out]; exact CB.cell nW1_t 3
    go_wp2_with fail
    rw [HW1.out]
    refine (R1 _).mono ?_
    rintro e w2 ⟨rfl, b2⟩
    clear f1_t0 f1_t1 f1_t2 f1_t3
    have r3_t := le_on nW1_t b2
    have l3 := le_tr lW1 b2
    clear nW1_t lW1
    clear b2
    have f3_t0 : w2.cell? ⟨w.heap.size, 0, none⟩ = some (.int .i64 dl) := CB.cell r3_t 0
    have f3_t1 : w2.cell? ⟨w.heap.size, 1, none⟩ = some (.int .i64 sp) := CB.cell r3_t 1
    have f3_t2 : w2.cell? ⟨w.heap.size, 2, none⟩ = some (.int .i64 us) := CB.cell r3_t 2
    have f3_t3 : w2.cell? ⟨w.heap.size, 3, none⟩ = some (.int .i64 cp) := CB.cell r3_t 3
    go_wp2_with fail
    go_ret
    exact ⟨by rw [H.out]; rfl, l3⟩
set_option maxRecDepth 100000 in
set_option maxHeartbeats 4000000 in
theorem last_c (dl sp us cp : Int) (w : World) : Calls Try.prog 22 #[.agg #[.int .i64 dl, .int .i64 sp, .int .i64 us, .int .i64 cp]] w fun r w' => r = .returned (.int .i64 (lastR ⟨dl, sp, us, cp⟩)) ∧ Below w.heap.size w w' := by
  cases hrt : rightT ⟨dl, sp, us, cp⟩ with
  | false =>
    have H := Lib.hid (show lastR ⟨dl, sp, us, cp⟩ = 0 by unfold lastR; rw [hrt]; rfl)
    have R1 := fun W => right_c dl sp us cp W
    simp only [hrt] at R1
    clear hrt
    obtain ⟨W1, hW1⟩ : ∃ V, w.alloc (.cells #[.int .i64 dl, .int .i64 sp, .int .i64 us, .int .i64 cp] 42) = V := ⟨_, rfl⟩
    have nW1_t : CB W1 (w.heap.size) 42 #[.int .i64 dl, .int .i64 sp, .int .i64 us, .int .i64 cp] := by
      rw [← hW1]
      have := (CB.new w 42 #[.int .i64 dl, .int .i64 sp, .int .i64 us, .int .i64 cp])
      simpa using this
    have lW1 : Below w.heap.size w W1 := by rw [← hW1]; exact le_al _ _
    have HW1 := Lib.hid hW1
    clear hW1
    go_enter Try.func22, Try.ntmps22
    have f1_t0 : (w.alloc (.cells #[.int .i64 dl, .int .i64 sp, .int .i64 us, .int .i64 cp] 42)).cell? ⟨w.heap.size, 0, none⟩ = some (.int .i64 dl) := by rw [HW1.out]; exact CB.cell nW1_t 0
    have f1_t1 : (w.alloc (.cells #[.int .i64 dl, .int .i64 sp, .int .i64 us, .int .i64 cp] 42)).cell? ⟨w.heap.size, 1, none⟩ = some (.int .i64 sp) := by rw [HW1.out]; exact CB.cell nW1_t 1
    have f1_t2 : (w.alloc (.cells #[.int .i64 dl, .int .i64 sp, .int .i64 us, .int .i64 cp] 42)).cell? ⟨w.heap.size, 2, none⟩ = some (.int .i64 us) := by rw [HW1.out]; exact CB.cell nW1_t 2
    have f1_t3 : (w.alloc (.cells #[.int .i64 dl, .int .i64 sp, .int .i64 us, .int .i64 cp] 42)).cell? ⟨w.heap.size, 3, none⟩ = some (.int .i64 cp) := by rw [HW1.out]; exact CB.cell nW1_t 3
    go_wp2_with fail
    rw [HW1.out]
    refine (R1 _).mono ?_
    rintro e w2 ⟨rfl, b2⟩
    clear f1_t0 f1_t1 f1_t2 f1_t3
    have r3_t := le_on nW1_t b2
    have l3 := le_tr lW1 b2
    clear nW1_t lW1
    clear b2
    have f3_t0 : w2.cell? ⟨w.heap.size, 0, none⟩ = some (.int .i64 dl) := CB.cell r3_t 0
    have f3_t1 : w2.cell? ⟨w.heap.size, 1, none⟩ = some (.int .i64 sp) := CB.cell r3_t 1
    have f3_t2 : w2.cell? ⟨w.heap.size, 2, none⟩ = some (.int .i64 us) := CB.cell r3_t 2
    have f3_t3 : w2.cell? ⟨w.heap.size, 3, none⟩ = some (.int .i64 cp) := CB.cell r3_t 3
    go_wp2_with fail
    go_ret
    exact ⟨by rw [H.out]; rfl, l3⟩
  | true =>
    have H := Lib.hid (show lastR ⟨dl, sp, us, cp⟩ = dl + (cp - us) * sp by unfold lastR; rw [hrt]; rfl)
    have R1 := fun W => right_c dl sp us cp W
    simp only [hrt] at R1
    have hF := (right_iff.1 hrt).1
    have hm : 0 ≤ (cp - us) * sp ∧ (cp - us) * sp ≤ 104857600 := hF.rest
    obtain ⟨⟨⟨z1, z2⟩, z3, z4⟩, ⟨z5, z6⟩, z7, z8⟩ := hF
    simp only at z1 z2 z3 z4 z5 z6 z7 z8
    have S3 := fun W => lastOf_c dl sp us cp W (by omega) (by omega) (by omega) (by omega)
    clear hm z1 z2 z3 z4 z5 z6 z7 z8
    clear hrt
    obtain ⟨W1, hW1⟩ : ∃ V, w.alloc (.cells #[.int .i64 dl, .int .i64 sp, .int .i64 us, .int .i64 cp] 42) = V := ⟨_, rfl⟩
    have nW1_t : CB W1 (w.heap.size) 42 #[.int .i64 dl, .int .i64 sp, .int .i64 us, .int .i64 cp] := by
      rw [← hW1]
      have := (CB.new w 42 #[.int .i64 dl, .int .i64 sp, .int .i64 us, .int .i64 cp])
      simpa using this
    have lW1 : Below w.heap.size w W1 := by rw [← hW1]; exact le_al _ _
    have HW1 := Lib.hid hW1
    clear hW1
    go_enter Try.func22, Try.ntmps22
    have f1_t0 : (w.alloc (.cells #[.int .i64 dl, .int .i64 sp, .int .i64 us, .int .i64 cp] 42)).cell? ⟨w.heap.size, 0, none⟩ = some (.int .i64 dl) := by rw [HW1.out]; exact CB.cell nW1_t 0
    have f1_t1 : (w.alloc (.cells #[.int .i64 dl, .int .i64 sp, .int .i64 us, .int .i64 cp] 42)).cell? ⟨w.heap.size, 1, none⟩ = some (.int .i64 sp) := by rw [HW1.out]; exact CB.cell nW1_t 1
    have f1_t2 : (w.alloc (.cells #[.int .i64 dl, .int .i64 sp, .int .i64 us, .int .i64 cp] 42)).cell? ⟨w.heap.size, 2, none⟩ = some (.int .i64 us) := by rw [HW1.out]; exact CB.cell nW1_t 2
    have f1_t3 : (w.alloc (.cells #[.int .i64 dl, .int .i64 sp, .int .i64 us, .int .i64 cp] 42)).cell? ⟨w.heap.size, 3, none⟩ = some (.int .i64 cp) := by rw [HW1.out]; exact CB.cell nW1_t 3
    go_wp2_with fail
    rw [HW1.out]
    refine (R1 _).mono ?_
    rintro e w2 ⟨rfl, b2⟩
    clear f1_t0 f1_t1 f1_t2 f1_t3
    have r3_t := le_on nW1_t b2
    have l3 := le_tr lW1 b2
    clear nW1_t lW1
    clear b2
    have f3_t0 : w2.cell? ⟨w.heap.size, 0, none⟩ = some (.int .i64 dl) := CB.cell r3_t 0
    have f3_t1 : w2.cell? ⟨w.heap.size, 1, none⟩ = some (.int .i64 sp) := CB.cell r3_t 1
    have f3_t2 : w2.cell? ⟨w.heap.size, 2, none⟩ = some (.int .i64 us) := CB.cell r3_t 2
    have f3_t3 : w2.cell? ⟨w.heap.size, 3, none⟩ = some (.int .i64 cp) := CB.cell r3_t 3
    go_wp2_with fail
    refine (S3 _).mono ?_
    rintro e w4 ⟨rfl, b4⟩
    clear f3_t0 f3_t1 f3_t2 f3_t3
    have r5_t := le_on r3_t b4
    have l5 := le_tr l3 b4
    clear r3_t l3
    clear b4
    have f5_t0 : w4.cell? ⟨w.heap.size, 0, none⟩ = some (.int .i64 dl) := CB.cell r5_t 0
    have f5_t1 : w4.cell? ⟨w.heap.size, 1, none⟩ = some (.int .i64 sp) := CB.cell r5_t 1
    have f5_t2 : w4.cell? ⟨w.heap.size, 2, none⟩ = some (.int .i64 us) := CB.cell r5_t 2
    have f5_t3 : w4.cell? ⟨w.heap.size, 3, none⟩ = some (.int .i64 cp) := CB.cell r5_t 3
    go_wp2_with fail
    go_ret
    exact ⟨by rw [H.out]; rfl, l5⟩
set_option maxRecDepth 100000 in
set_option maxHeartbeats 4000000 in
theorem extend_c (dl sp us cp x : Int) (w : World) : Calls Try.prog 59 #[.agg #[.int .i64 dl, .int .i64 sp, .int .i64 us, .int .i64 cp], .int .i64 x] w fun r w' => r = .returned (.tuple #[.agg #[.int .i64 (sExt ⟨dl, sp, us, cp⟩ x).dl, .int .i64 (sExt ⟨dl, sp, us, cp⟩ x).sp, .int .i64 (sExt ⟨dl, sp, us, cp⟩ x).us, .int .i64 (sExt ⟨dl, sp, us, cp⟩ x).cp], .int .i64 ((eExt ⟨dl, sp, us, cp⟩ x : Nat) : Int)]) ∧ Below w.heap.size w w' := by
  cases hrt : rightT ⟨dl, sp, us, cp⟩ with
  | false =>
    have He := eExt_2 (t := ⟨dl, sp, us, cp⟩) (x := x) hrt
    have Hs := sExt_n (t := ⟨dl, sp, us, cp⟩) (x := x) (by rw [He]; decide)
    have He := Lib.hid He
    have Hs := Lib.hid Hs
    have R1 := fun W => right_c dl sp us cp W
    simp only [hrt] at R1
    clear hrt 
    obtain ⟨W1, hW1⟩ : ∃ V, (w.alloc (.cells #[.int .i64 dl, .int .i64 sp, .int .i64 us, .int .i64 cp] 42)).alloc (.cells #[.int .i64 0, .int .i64 0, .int .i64 0, .int .i64 0] 42) = V := ⟨_, rfl⟩
    have nW1_t : CB W1 (w.heap.size) 42 #[.int .i64 dl, .int .i64 sp, .int .i64 us, .int .i64 cp] := by
      rw [← hW1]
      have := ((CB.new w 42 #[.int .i64 dl, .int .i64 sp, .int .i64 us, .int .i64 cp]).alloc (.cells #[.int .i64 0, .int .i64 0, .int .i64 0, .int .i64 0] 42))
      simpa using this
    have nW1_r : CB W1 (w.heap.size + 1) 42 #[.int .i64 0, .int .i64 0, .int .i64 0, .int .i64 0] := by
      rw [← hW1]
      have := (CB.new (w.alloc (.cells #[.int .i64 dl, .int .i64 sp, .int .i64 us, .int .i64 cp] 42)) 42 #[.int .i64 0, .int .i64 0, .int .i64 0, .int .i64 0])
      simpa using this
    have neW1_01 : w.heap.size ≠ w.heap.size + 1 := by omega
    have lW1 : Below w.heap.size w W1 := by rw [← hW1]; exact le_tr (le_al _ _) (le_al _ _)
    have HW1 := Lib.hid hW1
    clear hW1
    go_enter Try.func59, Try.ntmps59
    have f1_t0 : ((w.alloc (.cells #[.int .i64 dl, .int .i64 sp, .int .i64 us, .int .i64 cp] 42)).alloc (.cells #[.int .i64 0, .int .i64 0, .int .i64 0, .int .i64 0] 42)).cell? ⟨w.heap.size, 0, none⟩ = some (.int .i64 dl) := by rw [HW1.out]; exact CB.cell nW1_t 0
    have f1_t1 : ((w.alloc (.cells #[.int .i64 dl, .int .i64 sp, .int .i64 us, .int .i64 cp] 42)).alloc (.cells #[.int .i64 0, .int .i64 0, .int .i64 0, .int .i64 0] 42)).cell? ⟨w.heap.size, 1, none⟩ = some (.int .i64 sp) := by rw [HW1.out]; exact CB.cell nW1_t 1
    have f1_t2 : ((w.alloc (.cells #[.int .i64 dl, .int .i64 sp, .int .i64 us, .int .i64 cp] 42)).alloc (.cells #[.int .i64 0, .int .i64 0, .int .i64 0, .int .i64 0] 42)).cell? ⟨w.heap.size, 2, none⟩ = some (.int .i64 us) := by rw [HW1.out]; exact CB.cell nW1_t 2
    have f1_t3 : ((w.alloc (.cells #[.int .i64 dl, .int .i64 sp, .int .i64 us, .int .i64 cp] 42)).alloc (.cells #[.int .i64 0, .int .i64 0, .int .i64 0, .int .i64 0] 42)).cell? ⟨w.heap.size, 3, none⟩ = some (.int .i64 cp) := by rw [HW1.out]; exact CB.cell nW1_t 3
    go_wp2_with fail
    rw [HW1.out]
    refine (R1 _).mono ?_
    rintro e w2 ⟨rfl, b2⟩
    clear f1_t0 f1_t1 f1_t2 f1_t3
    have r3_t := le_on nW1_t b2
    have r3_r := le_on nW1_r b2
    have l3 := le_tr lW1 b2
    clear nW1_t nW1_r lW1
    clear b2
    have f3_t0 : w2.cell? ⟨w.heap.size, 0, none⟩ = some (.int .i64 dl) := CB.cell r3_t 0
    have f3_t1 : w2.cell? ⟨w.heap.size, 1, none⟩ = some (.int .i64 sp) := CB.cell r3_t 1
    have f3_t2 : w2.cell? ⟨w.heap.size, 2, none⟩ = some (.int .i64 us) := CB.cell r3_t 2
    have f3_t3 : w2.cell? ⟨w.heap.size, 3, none⟩ = some (.int .i64 cp) := CB.cell r3_t 3
    have f3_r0 : w2.cell? ⟨w.heap.size + 1, 0, none⟩ = some (.int .i64 0) := CB.cell r3_r 0
    have z3_r0 : w2.frozen? ⟨w.heap.size + 1, 0, none⟩ = false := CB.frozen r3_r 0
    have f3_r1 : w2.cell? ⟨w.heap.size + 1, 1, none⟩ = some (.int .i64 0) := CB.cell r3_r 1
    have z3_r1 : w2.frozen? ⟨w.heap.size + 1, 1, none⟩ = false := CB.frozen r3_r 1
    have f3_r2 : w2.cell? ⟨w.heap.size + 1, 2, none⟩ = some (.int .i64 0) := CB.cell r3_r 2
    have z3_r2 : w2.frozen? ⟨w.heap.size + 1, 2, none⟩ = false := CB.frozen r3_r 2
    have f3_r3 : w2.cell? ⟨w.heap.size + 1, 3, none⟩ = some (.int .i64 0) := CB.cell r3_r 3
    have z3_r3 : w2.frozen? ⟨w.heap.size + 1, 3, none⟩ = false := CB.frozen r3_r 3
    obtain ⟨V4, hV4⟩ : ∃ V, (((w2.setCell ⟨w.heap.size + 1, 0, none⟩ (.int .i64 dl)).setCell ⟨w.heap.size + 1, 1, none⟩ (.int .i64 sp)).setCell ⟨w.heap.size + 1, 2, none⟩ (.int .i64 us)).setCell ⟨w.heap.size + 1, 3, none⟩ (.int .i64 cp) = V := ⟨_, rfl⟩
    have nV4 : CB V4 (w.heap.size + 1) 42 #[.int .i64 dl, .int .i64 sp, .int .i64 us, .int .i64 cp] := by rw [← hV4]; exact cb_cast (CB.put (CB.put (CB.put (CB.put r3_r 0 (.int .i64 dl)) 1 (.int .i64 sp)) 2 (.int .i64 us)) 3 (.int .i64 cp)) (by kernel_rfl)
    have mV4_t : CB V4 (w.heap.size) 42 #[.int .i64 dl, .int .i64 sp, .int .i64 us, .int .i64 cp] := by rw [← hV4]; exact (CB.far (CB.far (CB.far (CB.far r3_t (p := ⟨w.heap.size + 1, 0, none⟩) neW1_01 (.int .i64 dl)) (p := ⟨w.heap.size + 1, 1, none⟩) neW1_01 (.int .i64 sp)) (p := ⟨w.heap.size + 1, 2, none⟩) neW1_01 (.int .i64 us)) (p := ⟨w.heap.size + 1, 3, none⟩) neW1_01 (.int .i64 cp))
    have oV4 := (Below.setCell (Below.setCell (Below.setCell (Below.setCell l3 (p := ⟨w.heap.size + 1, 0, none⟩) (by dsimp only; omega) (.int .i64 dl)) (p := ⟨w.heap.size + 1, 1, none⟩) (by dsimp only; omega) (.int .i64 sp)) (p := ⟨w.heap.size + 1, 2, none⟩) (by dsimp only; omega) (.int .i64 us)) (p := ⟨w.heap.size + 1, 3, none⟩) (by dsimp only; omega) (.int .i64 cp))
    rw [hV4] at oV4
    have HV4 := Lib.hid hV4
    clear hV4
    clear r3_r r3_t l3
    go_wp2_with fail
    rw [HV4.out]
    have x_r0 : V4.cell? ⟨w.heap.size + 1, 0, none⟩ = some (.int .i64 dl) := CB.cell nV4 0
    have x_r1 : V4.cell? ⟨w.heap.size + 1, 1, none⟩ = some (.int .i64 sp) := CB.cell nV4 1
    have x_r2 : V4.cell? ⟨w.heap.size + 1, 2, none⟩ = some (.int .i64 us) := CB.cell nV4 2
    have x_r3 : V4.cell? ⟨w.heap.size + 1, 3, none⟩ = some (.int .i64 cp) := CB.cell nV4 3
    exact bodyPost_ret (v := .tuple #[.agg #[.int .i64 dl, .int .i64 sp, .int .i64 us, .int .i64 cp], .int .i64 2]) (by simp [results, Try.results59, go_sem, x_r0, x_r1, x_r2, x_r3]) rfl ⟨by rw [He.out, Hs.out]; rfl, oV4⟩
  | true =>
    by_cases hx : dl ≤ x
    · skip
      have He := eExt_11 (t := ⟨dl, sp, us, cp⟩) (x := x) hrt hx
      have Hs := sExt_n (t := ⟨dl, sp, us, cp⟩) (x := x) (by rw [He]; decide)
      have He := Lib.hid He
      have Hs := Lib.hid Hs
      have R1 := fun W => right_c dl sp us cp W
      simp only [hrt] at R1
      have O1 := fun W => over_c dl sp us cp x W
      have ho : overT ⟨dl, sp, us, cp⟩ x = true := by unfold overT; rw [hrt]; simp; omega
      simp only [ho] at O1
      clear ho
      clear hrt hx
      obtain ⟨W1, hW1⟩ : ∃ V, (w.alloc (.cells #[.int .i64 dl, .int .i64 sp, .int .i64 us, .int .i64 cp] 42)).alloc (.cells #[.int .i64 0, .int .i64 0, .int .i64 0, .int .i64 0] 42) = V := ⟨_, rfl⟩
      have nW1_t : CB W1 (w.heap.size) 42 #[.int .i64 dl, .int .i64 sp, .int .i64 us, .int .i64 cp] := by
        rw [← hW1]
        have := ((CB.new w 42 #[.int .i64 dl, .int .i64 sp, .int .i64 us, .int .i64 cp]).alloc (.cells #[.int .i64 0, .int .i64 0, .int .i64 0, .int .i64 0] 42))
        simpa using this
      have nW1_r : CB W1 (w.heap.size + 1) 42 #[.int .i64 0, .int .i64 0, .int .i64 0, .int .i64 0] := by
        rw [← hW1]
        have := (CB.new (w.alloc (.cells #[.int .i64 dl, .int .i64 sp, .int .i64 us, .int .i64 cp] 42)) 42 #[.int .i64 0, .int .i64 0, .int .i64 0, .int .i64 0])
        simpa using this
      have neW1_01 : w.heap.size ≠ w.heap.size + 1 := by omega
      have lW1 : Below w.heap.size w W1 := by rw [← hW1]; exact le_tr (le_al _ _) (le_al _ _)
      have HW1 := Lib.hid hW1
      clear hW1
      go_enter Try.func59, Try.ntmps59
      have f1_t0 : ((w.alloc (.cells #[.int .i64 dl, .int .i64 sp, .int .i64 us, .int .i64 cp] 42)).alloc (.cells #[.int .i64 0, .int .i64 0, .int .i64 0, .int .i64 0] 42)).cell? ⟨w.heap.size, 0, none⟩ = some (.int .i64 dl) := by rw [HW1.out]; exact CB.cell nW1_t 0
      have f1_t1 : ((w.alloc (.cells #[.int .i64 dl, .int .i64 sp, .int .i64 us, .int .i64 cp] 42)).alloc (.cells #[.int .i64 0, .int .i64 0, .int .i64 0, .int .i64 0] 42)).cell? ⟨w.heap.size, 1, none⟩ = some (.int .i64 sp) := by rw [HW1.out]; exact CB.cell nW1_t 1
      have f1_t2 : ((w.alloc (.cells #[.int .i64 dl, .int .i64 sp, .int .i64 us, .int .i64 cp] 42)).alloc (.cells #[.int .i64 0, .int .i64 0, .int .i64 0, .int .i64 0] 42)).cell? ⟨w.heap.size, 2, none⟩ = some (.int .i64 us) := by rw [HW1.out]; exact CB.cell nW1_t 2
      have f1_t3 : ((w.alloc (.cells #[.int .i64 dl, .int .i64 sp, .int .i64 us, .int .i64 cp] 42)).alloc (.cells #[.int .i64 0, .int .i64 0, .int .i64 0, .int .i64 0] 42)).cell? ⟨w.heap.size, 3, none⟩ = some (.int .i64 cp) := by rw [HW1.out]; exact CB.cell nW1_t 3
      go_wp2_with fail
      rw [HW1.out]
      refine (R1 _).mono ?_
      rintro e w2 ⟨rfl, b2⟩
      clear f1_t0 f1_t1 f1_t2 f1_t3
      have r3_t := le_on nW1_t b2
      have r3_r := le_on nW1_r b2
      have l3 := le_tr lW1 b2
      clear nW1_t nW1_r lW1
      clear b2
      have f3_t0 : w2.cell? ⟨w.heap.size, 0, none⟩ = some (.int .i64 dl) := CB.cell r3_t 0
      have f3_t1 : w2.cell? ⟨w.heap.size, 1, none⟩ = some (.int .i64 sp) := CB.cell r3_t 1
      have f3_t2 : w2.cell? ⟨w.heap.size, 2, none⟩ = some (.int .i64 us) := CB.cell r3_t 2
      have f3_t3 : w2.cell? ⟨w.heap.size, 3, none⟩ = some (.int .i64 cp) := CB.cell r3_t 3
      go_wp2_with fail
      refine (O1 _).mono ?_
      rintro e w4 ⟨rfl, b4⟩
      clear f3_t0 f3_t1 f3_t2 f3_t3
      have r5_t := le_on r3_t b4
      have r5_r := le_on r3_r b4
      have l5 := le_tr l3 b4
      clear r3_t r3_r l3
      clear b4
      have f5_t0 : w4.cell? ⟨w.heap.size, 0, none⟩ = some (.int .i64 dl) := CB.cell r5_t 0
      have f5_t1 : w4.cell? ⟨w.heap.size, 1, none⟩ = some (.int .i64 sp) := CB.cell r5_t 1
      have f5_t2 : w4.cell? ⟨w.heap.size, 2, none⟩ = some (.int .i64 us) := CB.cell r5_t 2
      have f5_t3 : w4.cell? ⟨w.heap.size, 3, none⟩ = some (.int .i64 cp) := CB.cell r5_t 3
      have f5_r0 : w4.cell? ⟨w.heap.size + 1, 0, none⟩ = some (.int .i64 0) := CB.cell r5_r 0
      have z5_r0 : w4.frozen? ⟨w.heap.size + 1, 0, none⟩ = false := CB.frozen r5_r 0
      have f5_r1 : w4.cell? ⟨w.heap.size + 1, 1, none⟩ = some (.int .i64 0) := CB.cell r5_r 1
      have z5_r1 : w4.frozen? ⟨w.heap.size + 1, 1, none⟩ = false := CB.frozen r5_r 1
      have f5_r2 : w4.cell? ⟨w.heap.size + 1, 2, none⟩ = some (.int .i64 0) := CB.cell r5_r 2
      have z5_r2 : w4.frozen? ⟨w.heap.size + 1, 2, none⟩ = false := CB.frozen r5_r 2
      have f5_r3 : w4.cell? ⟨w.heap.size + 1, 3, none⟩ = some (.int .i64 0) := CB.cell r5_r 3
      have z5_r3 : w4.frozen? ⟨w.heap.size + 1, 3, none⟩ = false := CB.frozen r5_r 3
      obtain ⟨V6, hV6⟩ : ∃ V, (((w4.setCell ⟨w.heap.size + 1, 0, none⟩ (.int .i64 dl)).setCell ⟨w.heap.size + 1, 1, none⟩ (.int .i64 sp)).setCell ⟨w.heap.size + 1, 2, none⟩ (.int .i64 us)).setCell ⟨w.heap.size + 1, 3, none⟩ (.int .i64 cp) = V := ⟨_, rfl⟩
      have nV6 : CB V6 (w.heap.size + 1) 42 #[.int .i64 dl, .int .i64 sp, .int .i64 us, .int .i64 cp] := by rw [← hV6]; exact cb_cast (CB.put (CB.put (CB.put (CB.put r5_r 0 (.int .i64 dl)) 1 (.int .i64 sp)) 2 (.int .i64 us)) 3 (.int .i64 cp)) (by kernel_rfl)
      have mV6_t : CB V6 (w.heap.size) 42 #[.int .i64 dl, .int .i64 sp, .int .i64 us, .int .i64 cp] := by rw [← hV6]; exact (CB.far (CB.far (CB.far (CB.far r5_t (p := ⟨w.heap.size + 1, 0, none⟩) neW1_01 (.int .i64 dl)) (p := ⟨w.heap.size + 1, 1, none⟩) neW1_01 (.int .i64 sp)) (p := ⟨w.heap.size + 1, 2, none⟩) neW1_01 (.int .i64 us)) (p := ⟨w.heap.size + 1, 3, none⟩) neW1_01 (.int .i64 cp))
      have oV6 := (Below.setCell (Below.setCell (Below.setCell (Below.setCell l5 (p := ⟨w.heap.size + 1, 0, none⟩) (by dsimp only; omega) (.int .i64 dl)) (p := ⟨w.heap.size + 1, 1, none⟩) (by dsimp only; omega) (.int .i64 sp)) (p := ⟨w.heap.size + 1, 2, none⟩) (by dsimp only; omega) (.int .i64 us)) (p := ⟨w.heap.size + 1, 3, none⟩) (by dsimp only; omega) (.int .i64 cp))
      rw [hV6] at oV6
      have HV6 := Lib.hid hV6
      clear hV6
      clear r5_r r5_t l5
      go_wp2_with fail
      rw [HV6.out]
      have x_r0 : V6.cell? ⟨w.heap.size + 1, 0, none⟩ = some (.int .i64 dl) := CB.cell nV6 0
      have x_r1 : V6.cell? ⟨w.heap.size + 1, 1, none⟩ = some (.int .i64 sp) := CB.cell nV6 1
      have x_r2 : V6.cell? ⟨w.heap.size + 1, 2, none⟩ = some (.int .i64 us) := CB.cell nV6 2
      have x_r3 : V6.cell? ⟨w.heap.size + 1, 3, none⟩ = some (.int .i64 cp) := CB.cell nV6 3
      exact bodyPost_ret (v := .tuple #[.agg #[.int .i64 dl, .int .i64 sp, .int .i64 us, .int .i64 cp], .int .i64 11]) (by simp [results, Try.results59, go_sem, x_r0, x_r1, x_r2, x_r3]) rfl ⟨by rw [He.out, Hs.out]; rfl, oV6⟩
    by_cases hu : us = cp
    · have hu' : (us == cp) = true := by simp [hu]
      have He := eExt_12 (t := ⟨dl, sp, us, cp⟩) (x := x) hrt hx hu
      have Hs := sExt_n (t := ⟨dl, sp, us, cp⟩) (x := x) (by rw [He]; decide)
      have He := Lib.hid He
      have Hs := Lib.hid Hs
      have R1 := fun W => right_c dl sp us cp W
      simp only [hrt] at R1
      have O1 := fun W => over_c dl sp us cp x W
      have ho : overT ⟨dl, sp, us, cp⟩ x = false := by unfold overT; rw [hrt]; simp; omega
      simp only [ho] at O1
      clear ho
      clear hrt hx hu
      obtain ⟨W1, hW1⟩ : ∃ V, (w.alloc (.cells #[.int .i64 dl, .int .i64 sp, .int .i64 us, .int .i64 cp] 42)).alloc (.cells #[.int .i64 0, .int .i64 0, .int .i64 0, .int .i64 0] 42) = V := ⟨_, rfl⟩
      have nW1_t : CB W1 (w.heap.size) 42 #[.int .i64 dl, .int .i64 sp, .int .i64 us, .int .i64 cp] := by
        rw [← hW1]
        have := ((CB.new w 42 #[.int .i64 dl, .int .i64 sp, .int .i64 us, .int .i64 cp]).alloc (.cells #[.int .i64 0, .int .i64 0, .int .i64 0, .int .i64 0] 42))
        simpa using this
      have nW1_r : CB W1 (w.heap.size + 1) 42 #[.int .i64 0, .int .i64 0, .int .i64 0, .int .i64 0] := by
        rw [← hW1]
        have := (CB.new (w.alloc (.cells #[.int .i64 dl, .int .i64 sp, .int .i64 us, .int .i64 cp] 42)) 42 #[.int .i64 0, .int .i64 0, .int .i64 0, .int .i64 0])
        simpa using this
      have neW1_01 : w.heap.size ≠ w.heap.size + 1 := by omega
      have lW1 : Below w.heap.size w W1 := by rw [← hW1]; exact le_tr (le_al _ _) (le_al _ _)
      have HW1 := Lib.hid hW1
      clear hW1
      go_enter Try.func59, Try.ntmps59
      have f1_t0 : ((w.alloc (.cells #[.int .i64 dl, .int .i64 sp, .int .i64 us, .int .i64 cp] 42)).alloc (.cells #[.int .i64 0, .int .i64 0, .int .i64 0, .int .i64 0] 42)).cell? ⟨w.heap.size, 0, none⟩ = some (.int .i64 dl) := by rw [HW1.out]; exact CB.cell nW1_t 0
      have f1_t1 : ((w.alloc (.cells #[.int .i64 dl, .int .i64 sp, .int .i64 us, .int .i64 cp] 42)).alloc (.cells #[.int .i64 0, .int .i64 0, .int .i64 0, .int .i64 0] 42)).cell? ⟨w.heap.size, 1, none⟩ = some (.int .i64 sp) := by rw [HW1.out]; exact CB.cell nW1_t 1
      have f1_t2 : ((w.alloc (.cells #[.int .i64 dl, .int .i64 sp, .int .i64 us, .int .i64 cp] 42)).alloc (.cells #[.int .i64 0, .int .i64 0, .int .i64 0, .int .i64 0] 42)).cell? ⟨w.heap.size, 2, none⟩ = some (.int .i64 us) := by rw [HW1.out]; exact CB.cell nW1_t 2
      have f1_t3 : ((w.alloc (.cells #[.int .i64 dl, .int .i64 sp, .int .i64 us, .int .i64 cp] 42)).alloc (.cells #[.int .i64 0, .int .i64 0, .int .i64 0, .int .i64 0] 42)).cell? ⟨w.heap.size, 3, none⟩ = some (.int .i64 cp) := by rw [HW1.out]; exact CB.cell nW1_t 3
      go_wp2_with fail
      rw [HW1.out]
      refine (R1 _).mono ?_
      rintro e w2 ⟨rfl, b2⟩
      clear f1_t0 f1_t1 f1_t2 f1_t3
      have r3_t := le_on nW1_t b2
      have r3_r := le_on nW1_r b2
      have l3 := le_tr lW1 b2
      clear nW1_t nW1_r lW1
      clear b2
      have f3_t0 : w2.cell? ⟨w.heap.size, 0, none⟩ = some (.int .i64 dl) := CB.cell r3_t 0
      have f3_t1 : w2.cell? ⟨w.heap.size, 1, none⟩ = some (.int .i64 sp) := CB.cell r3_t 1
      have f3_t2 : w2.cell? ⟨w.heap.size, 2, none⟩ = some (.int .i64 us) := CB.cell r3_t 2
      have f3_t3 : w2.cell? ⟨w.heap.size, 3, none⟩ = some (.int .i64 cp) := CB.cell r3_t 3
      go_wp2_with fail
      refine (O1 _).mono ?_
      rintro e w4 ⟨rfl, b4⟩
      clear f3_t0 f3_t1 f3_t2 f3_t3
      have r5_t := le_on r3_t b4
      have r5_r := le_on r3_r b4
      have l5 := le_tr l3 b4
      clear r3_t r3_r l3
      clear b4
      have f5_t0 : w4.cell? ⟨w.heap.size, 0, none⟩ = some (.int .i64 dl) := CB.cell r5_t 0
      have f5_t1 : w4.cell? ⟨w.heap.size, 1, none⟩ = some (.int .i64 sp) := CB.cell r5_t 1
      have f5_t2 : w4.cell? ⟨w.heap.size, 2, none⟩ = some (.int .i64 us) := CB.cell r5_t 2
      have f5_t3 : w4.cell? ⟨w.heap.size, 3, none⟩ = some (.int .i64 cp) := CB.cell r5_t 3
      have f5_r0 : w4.cell? ⟨w.heap.size + 1, 0, none⟩ = some (.int .i64 0) := CB.cell r5_r 0
      have z5_r0 : w4.frozen? ⟨w.heap.size + 1, 0, none⟩ = false := CB.frozen r5_r 0
      have f5_r1 : w4.cell? ⟨w.heap.size + 1, 1, none⟩ = some (.int .i64 0) := CB.cell r5_r 1
      have z5_r1 : w4.frozen? ⟨w.heap.size + 1, 1, none⟩ = false := CB.frozen r5_r 1
      have f5_r2 : w4.cell? ⟨w.heap.size + 1, 2, none⟩ = some (.int .i64 0) := CB.cell r5_r 2
      have z5_r2 : w4.frozen? ⟨w.heap.size + 1, 2, none⟩ = false := CB.frozen r5_r 2
      have f5_r3 : w4.cell? ⟨w.heap.size + 1, 3, none⟩ = some (.int .i64 0) := CB.cell r5_r 3
      have z5_r3 : w4.frozen? ⟨w.heap.size + 1, 3, none⟩ = false := CB.frozen r5_r 3
      obtain ⟨V6, hV6⟩ : ∃ V, (((w4.setCell ⟨w.heap.size + 1, 0, none⟩ (.int .i64 dl)).setCell ⟨w.heap.size + 1, 1, none⟩ (.int .i64 sp)).setCell ⟨w.heap.size + 1, 2, none⟩ (.int .i64 us)).setCell ⟨w.heap.size + 1, 3, none⟩ (.int .i64 cp) = V := ⟨_, rfl⟩
      have nV6 : CB V6 (w.heap.size + 1) 42 #[.int .i64 dl, .int .i64 sp, .int .i64 us, .int .i64 cp] := by rw [← hV6]; exact cb_cast (CB.put (CB.put (CB.put (CB.put r5_r 0 (.int .i64 dl)) 1 (.int .i64 sp)) 2 (.int .i64 us)) 3 (.int .i64 cp)) (by kernel_rfl)
      have mV6_t : CB V6 (w.heap.size) 42 #[.int .i64 dl, .int .i64 sp, .int .i64 us, .int .i64 cp] := by rw [← hV6]; exact (CB.far (CB.far (CB.far (CB.far r5_t (p := ⟨w.heap.size + 1, 0, none⟩) neW1_01 (.int .i64 dl)) (p := ⟨w.heap.size + 1, 1, none⟩) neW1_01 (.int .i64 sp)) (p := ⟨w.heap.size + 1, 2, none⟩) neW1_01 (.int .i64 us)) (p := ⟨w.heap.size + 1, 3, none⟩) neW1_01 (.int .i64 cp))
      have oV6 := (Below.setCell (Below.setCell (Below.setCell (Below.setCell l5 (p := ⟨w.heap.size + 1, 0, none⟩) (by dsimp only; omega) (.int .i64 dl)) (p := ⟨w.heap.size + 1, 1, none⟩) (by dsimp only; omega) (.int .i64 sp)) (p := ⟨w.heap.size + 1, 2, none⟩) (by dsimp only; omega) (.int .i64 us)) (p := ⟨w.heap.size + 1, 3, none⟩) (by dsimp only; omega) (.int .i64 cp))
      rw [hV6] at oV6
      have HV6 := Lib.hid hV6
      clear hV6
      clear r5_r r5_t l5
      go_wp2_with fail
      rw [HV6.out]
      have x_r0 : V6.cell? ⟨w.heap.size + 1, 0, none⟩ = some (.int .i64 dl) := CB.cell nV6 0
      have x_r1 : V6.cell? ⟨w.heap.size + 1, 1, none⟩ = some (.int .i64 sp) := CB.cell nV6 1
      have x_r2 : V6.cell? ⟨w.heap.size + 1, 2, none⟩ = some (.int .i64 us) := CB.cell nV6 2
      have x_r3 : V6.cell? ⟨w.heap.size + 1, 3, none⟩ = some (.int .i64 cp) := CB.cell nV6 3
      exact bodyPost_ret (v := .tuple #[.agg #[.int .i64 dl, .int .i64 sp, .int .i64 us, .int .i64 cp], .int .i64 12]) (by simp [results, Try.results59, go_sem, x_r0, x_r1, x_r2, x_r3]) rfl ⟨by rw [He.out, Hs.out]; rfl, oV6⟩
    have hu' : (us == cp) = false := by simp [hu]
    have He := eExt_0 (t := ⟨dl, sp, us, cp⟩) (x := x) hrt hx hu
    have Hs := sExt_z (t := ⟨dl, sp, us, cp⟩) (x := x) He
    have He := Lib.hid He
    have Hs := Lib.hid Hs
    have R1 := fun W => right_c dl sp us cp W
    simp only [hrt] at R1
    have O1 := fun W => over_c dl sp us cp x W
    have ho : overT ⟨dl, sp, us, cp⟩ x = false := by unfold overT; rw [hrt]; simp; omega
    simp only [ho] at O1
    clear ho
    have hF := (right_iff.1 hrt).1
    have hm : 0 ≤ (cp - us) * sp ∧ (cp - us) * sp ≤ 104857600 := hF.rest
    obtain ⟨⟨⟨z1, z2⟩, z3, z4⟩, ⟨z5, z6⟩, z7, z8⟩ := hF
    simp only at z1 z2 z3 z4 z5 z6 z7 z8
    have v1 : IntKind.i64.wrap (dl + sp) = dl + sp := IntWalk.i64_in _ (by omega)
    have v2 : IntKind.i64.wrap (us + 1) = us + 1 := IntWalk.i64_in _ (by omega)
    clear hrt hx hu hm z1 z2 z3 z4 z5 z6 z7 z8
    obtain ⟨W1, hW1⟩ : ∃ V, (w.alloc (.cells #[.int .i64 dl, .int .i64 sp, .int .i64 us, .int .i64 cp] 42)).alloc (.cells #[.int .i64 0, .int .i64 0, .int .i64 0, .int .i64 0] 42) = V := ⟨_, rfl⟩
    have nW1_t : CB W1 (w.heap.size) 42 #[.int .i64 dl, .int .i64 sp, .int .i64 us, .int .i64 cp] := by
      rw [← hW1]
      have := ((CB.new w 42 #[.int .i64 dl, .int .i64 sp, .int .i64 us, .int .i64 cp]).alloc (.cells #[.int .i64 0, .int .i64 0, .int .i64 0, .int .i64 0] 42))
      simpa using this
    have nW1_r : CB W1 (w.heap.size + 1) 42 #[.int .i64 0, .int .i64 0, .int .i64 0, .int .i64 0] := by
      rw [← hW1]
      have := (CB.new (w.alloc (.cells #[.int .i64 dl, .int .i64 sp, .int .i64 us, .int .i64 cp] 42)) 42 #[.int .i64 0, .int .i64 0, .int .i64 0, .int .i64 0])
      simpa using this
    have neW1_01 : w.heap.size ≠ w.heap.size + 1 := by omega
    have lW1 : Below w.heap.size w W1 := by rw [← hW1]; exact le_tr (le_al _ _) (le_al _ _)
    have HW1 := Lib.hid hW1
    clear hW1
    go_enter Try.func59, Try.ntmps59
    have f1_t0 : ((w.alloc (.cells #[.int .i64 dl, .int .i64 sp, .int .i64 us, .int .i64 cp] 42)).alloc (.cells #[.int .i64 0, .int .i64 0, .int .i64 0, .int .i64 0] 42)).cell? ⟨w.heap.size, 0, none⟩ = some (.int .i64 dl) := by rw [HW1.out]; exact CB.cell nW1_t 0
    have f1_t1 : ((w.alloc (.cells #[.int .i64 dl, .int .i64 sp, .int .i64 us, .int .i64 cp] 42)).alloc (.cells #[.int .i64 0, .int .i64 0, .int .i64 0, .int .i64 0] 42)).cell? ⟨w.heap.size, 1, none⟩ = some (.int .i64 sp) := by rw [HW1.out]; exact CB.cell nW1_t 1
    have f1_t2 : ((w.alloc (.cells #[.int .i64 dl, .int .i64 sp, .int .i64 us, .int .i64 cp] 42)).alloc (.cells #[.int .i64 0, .int .i64 0, .int .i64 0, .int .i64 0] 42)).cell? ⟨w.heap.size, 2, none⟩ = some (.int .i64 us) := by rw [HW1.out]; exact CB.cell nW1_t 2
    have f1_t3 : ((w.alloc (.cells #[.int .i64 dl, .int .i64 sp, .int .i64 us, .int .i64 cp] 42)).alloc (.cells #[.int .i64 0, .int .i64 0, .int .i64 0, .int .i64 0] 42)).cell? ⟨w.heap.size, 3, none⟩ = some (.int .i64 cp) := by rw [HW1.out]; exact CB.cell nW1_t 3
    go_wp2_with fail
    rw [HW1.out]
    refine (R1 _).mono ?_
    rintro e w2 ⟨rfl, b2⟩
    clear f1_t0 f1_t1 f1_t2 f1_t3
    have r3_t := le_on nW1_t b2
    have r3_r := le_on nW1_r b2
    have l3 := le_tr lW1 b2
    clear nW1_t nW1_r lW1
    clear b2
    have f3_t0 : w2.cell? ⟨w.heap.size, 0, none⟩ = some (.int .i64 dl) := CB.cell r3_t 0
    have f3_t1 : w2.cell? ⟨w.heap.size, 1, none⟩ = some (.int .i64 sp) := CB.cell r3_t 1
    have f3_t2 : w2.cell? ⟨w.heap.size, 2, none⟩ = some (.int .i64 us) := CB.cell r3_t 2
    have f3_t3 : w2.cell? ⟨w.heap.size, 3, none⟩ = some (.int .i64 cp) := CB.cell r3_t 3
    go_wp2_with fail
    refine (O1 _).mono ?_
    rintro e w4 ⟨rfl, b4⟩
    clear f3_t0 f3_t1 f3_t2 f3_t3
    have r5_t := le_on r3_t b4
    have r5_r := le_on r3_r b4
    have l5 := le_tr l3 b4
    clear r3_t r3_r l3
    clear b4
    have f5_t0 : w4.cell? ⟨w.heap.size, 0, none⟩ = some (.int .i64 dl) := CB.cell r5_t 0
    have z5_t0 : w4.frozen? ⟨w.heap.size, 0, none⟩ = false := CB.frozen r5_t 0
    have f5_t1 : w4.cell? ⟨w.heap.size, 1, none⟩ = some (.int .i64 sp) := CB.cell r5_t 1
    have z5_t1 : w4.frozen? ⟨w.heap.size, 1, none⟩ = false := CB.frozen r5_t 1
    have f5_t2 : w4.cell? ⟨w.heap.size, 2, none⟩ = some (.int .i64 us) := CB.cell r5_t 2
    have z5_t2 : w4.frozen? ⟨w.heap.size, 2, none⟩ = false := CB.frozen r5_t 2
    have f5_t3 : w4.cell? ⟨w.heap.size, 3, none⟩ = some (.int .i64 cp) := CB.cell r5_t 3
    have z5_t3 : w4.frozen? ⟨w.heap.size, 3, none⟩ = false := CB.frozen r5_t 3
    obtain ⟨V6, hV6⟩ : ∃ V, w4.setCell ⟨w.heap.size, 0, none⟩ (.int .i64 (dl + sp)) = V := ⟨_, rfl⟩
    have nV6 : CB V6 (w.heap.size) 42 #[.int .i64 (dl + sp), .int .i64 sp, .int .i64 us, .int .i64 cp] := by rw [← hV6]; exact cb_cast (CB.put r5_t 0 (.int .i64 (dl + sp))) (by kernel_rfl)
    have mV6_r : CB V6 (w.heap.size + 1) 42 #[.int .i64 0, .int .i64 0, .int .i64 0, .int .i64 0] := by rw [← hV6]; exact (CB.far r5_r (p := ⟨w.heap.size, 0, none⟩) (Ne.symm neW1_01) (.int .i64 (dl + sp)))
    have oV6 := (Below.setCell l5 (p := ⟨w.heap.size, 0, none⟩) (by dsimp only; omega) (.int .i64 (dl + sp)))
    rw [hV6] at oV6
    have HV6 := Lib.hid hV6
    clear hV6
    clear r5_t r5_r l5
    have f6_t0 : ((w4).setCell ⟨w.heap.size, 0, none⟩ (.int .i64 (dl + sp))).cell? ⟨w.heap.size, 0, none⟩ = some (.int .i64 (dl + sp)) := by rw [HV6.out]; exact CB.cell nV6 0
    have z6_t0 : ((w4).setCell ⟨w.heap.size, 0, none⟩ (.int .i64 (dl + sp))).frozen? ⟨w.heap.size, 0, none⟩ = false := by rw [HV6.out]; exact CB.frozen nV6 0
    have f6_t1 : ((w4).setCell ⟨w.heap.size, 0, none⟩ (.int .i64 (dl + sp))).cell? ⟨w.heap.size, 1, none⟩ = some (.int .i64 sp) := by rw [HV6.out]; exact CB.cell nV6 1
    have z6_t1 : ((w4).setCell ⟨w.heap.size, 0, none⟩ (.int .i64 (dl + sp))).frozen? ⟨w.heap.size, 1, none⟩ = false := by rw [HV6.out]; exact CB.frozen nV6 1
    have f6_t2 : ((w4).setCell ⟨w.heap.size, 0, none⟩ (.int .i64 (dl + sp))).cell? ⟨w.heap.size, 2, none⟩ = some (.int .i64 us) := by rw [HV6.out]; exact CB.cell nV6 2
    have z6_t2 : ((w4).setCell ⟨w.heap.size, 0, none⟩ (.int .i64 (dl + sp))).frozen? ⟨w.heap.size, 2, none⟩ = false := by rw [HV6.out]; exact CB.frozen nV6 2
    have f6_t3 : ((w4).setCell ⟨w.heap.size, 0, none⟩ (.int .i64 (dl + sp))).cell? ⟨w.heap.size, 3, none⟩ = some (.int .i64 cp) := by rw [HV6.out]; exact CB.cell nV6 3
    have z6_t3 : ((w4).setCell ⟨w.heap.size, 0, none⟩ (.int .i64 (dl + sp))).frozen? ⟨w.heap.size, 3, none⟩ = false := by rw [HV6.out]; exact CB.frozen nV6 3
    obtain ⟨V7, hV7⟩ : ∃ V, V6.setCell ⟨w.heap.size, 2, none⟩ (.int .i64 (us + 1)) = V := ⟨_, rfl⟩
    have nV7 : CB V7 (w.heap.size) 42 #[.int .i64 (dl + sp), .int .i64 sp, .int .i64 (us + 1), .int .i64 cp] := by rw [← hV7]; exact cb_cast (CB.put nV6 2 (.int .i64 (us + 1))) (by kernel_rfl)
    have mV7_r : CB V7 (w.heap.size + 1) 42 #[.int .i64 0, .int .i64 0, .int .i64 0, .int .i64 0] := by rw [← hV7]; exact (CB.far mV6_r (p := ⟨w.heap.size, 2, none⟩) (Ne.symm neW1_01) (.int .i64 (us + 1)))
    have oV7 := (Below.setCell oV6 (p := ⟨w.heap.size, 2, none⟩) (by dsimp only; omega) (.int .i64 (us + 1)))
    rw [hV7] at oV7
    have HV7 := Lib.hid (show ((w4).setCell ⟨w.heap.size, 0, none⟩ (.int .i64 (dl + sp))).setCell ⟨w.heap.size, 2, none⟩ (.int .i64 (us + 1)) = V7 by rw [HV6.out]; exact hV7)
    clear hV7
    clear nV6 mV6_r oV6
    have f7_t0 : (((w4).setCell ⟨w.heap.size, 0, none⟩ (.int .i64 (dl + sp))).setCell ⟨w.heap.size, 2, none⟩ (.int .i64 (us + 1))).cell? ⟨w.heap.size, 0, none⟩ = some (.int .i64 (dl + sp)) := by rw [HV7.out]; exact CB.cell nV7 0
    have f7_t1 : (((w4).setCell ⟨w.heap.size, 0, none⟩ (.int .i64 (dl + sp))).setCell ⟨w.heap.size, 2, none⟩ (.int .i64 (us + 1))).cell? ⟨w.heap.size, 1, none⟩ = some (.int .i64 sp) := by rw [HV7.out]; exact CB.cell nV7 1
    have f7_t2 : (((w4).setCell ⟨w.heap.size, 0, none⟩ (.int .i64 (dl + sp))).setCell ⟨w.heap.size, 2, none⟩ (.int .i64 (us + 1))).cell? ⟨w.heap.size, 2, none⟩ = some (.int .i64 (us + 1)) := by rw [HV7.out]; exact CB.cell nV7 2
    have f7_t3 : (((w4).setCell ⟨w.heap.size, 0, none⟩ (.int .i64 (dl + sp))).setCell ⟨w.heap.size, 2, none⟩ (.int .i64 (us + 1))).cell? ⟨w.heap.size, 3, none⟩ = some (.int .i64 cp) := by rw [HV7.out]; exact CB.cell nV7 3
    have f7_r0 : (((w4).setCell ⟨w.heap.size, 0, none⟩ (.int .i64 (dl + sp))).setCell ⟨w.heap.size, 2, none⟩ (.int .i64 (us + 1))).cell? ⟨w.heap.size + 1, 0, none⟩ = some (.int .i64 0) := by rw [HV7.out]; exact CB.cell mV7_r 0
    have z7_r0 : (((w4).setCell ⟨w.heap.size, 0, none⟩ (.int .i64 (dl + sp))).setCell ⟨w.heap.size, 2, none⟩ (.int .i64 (us + 1))).frozen? ⟨w.heap.size + 1, 0, none⟩ = false := by rw [HV7.out]; exact CB.frozen mV7_r 0
    have f7_r1 : (((w4).setCell ⟨w.heap.size, 0, none⟩ (.int .i64 (dl + sp))).setCell ⟨w.heap.size, 2, none⟩ (.int .i64 (us + 1))).cell? ⟨w.heap.size + 1, 1, none⟩ = some (.int .i64 0) := by rw [HV7.out]; exact CB.cell mV7_r 1
    have z7_r1 : (((w4).setCell ⟨w.heap.size, 0, none⟩ (.int .i64 (dl + sp))).setCell ⟨w.heap.size, 2, none⟩ (.int .i64 (us + 1))).frozen? ⟨w.heap.size + 1, 1, none⟩ = false := by rw [HV7.out]; exact CB.frozen mV7_r 1
    have f7_r2 : (((w4).setCell ⟨w.heap.size, 0, none⟩ (.int .i64 (dl + sp))).setCell ⟨w.heap.size, 2, none⟩ (.int .i64 (us + 1))).cell? ⟨w.heap.size + 1, 2, none⟩ = some (.int .i64 0) := by rw [HV7.out]; exact CB.cell mV7_r 2
    have z7_r2 : (((w4).setCell ⟨w.heap.size, 0, none⟩ (.int .i64 (dl + sp))).setCell ⟨w.heap.size, 2, none⟩ (.int .i64 (us + 1))).frozen? ⟨w.heap.size + 1, 2, none⟩ = false := by rw [HV7.out]; exact CB.frozen mV7_r 2
    have f7_r3 : (((w4).setCell ⟨w.heap.size, 0, none⟩ (.int .i64 (dl + sp))).setCell ⟨w.heap.size, 2, none⟩ (.int .i64 (us + 1))).cell? ⟨w.heap.size + 1, 3, none⟩ = some (.int .i64 0) := by rw [HV7.out]; exact CB.cell mV7_r 3
    have z7_r3 : (((w4).setCell ⟨w.heap.size, 0, none⟩ (.int .i64 (dl + sp))).setCell ⟨w.heap.size, 2, none⟩ (.int .i64 (us + 1))).frozen? ⟨w.heap.size + 1, 3, none⟩ = false := by rw [HV7.out]; exact CB.frozen mV7_r 3
    obtain ⟨V8, hV8⟩ : ∃ V, (((V7.setCell ⟨w.heap.size + 1, 0, none⟩ (.int .i64 (dl + sp))).setCell ⟨w.heap.size + 1, 1, none⟩ (.int .i64 sp)).setCell ⟨w.heap.size + 1, 2, none⟩ (.int .i64 (us + 1))).setCell ⟨w.heap.size + 1, 3, none⟩ (.int .i64 cp) = V := ⟨_, rfl⟩
    have nV8 : CB V8 (w.heap.size + 1) 42 #[.int .i64 (dl + sp), .int .i64 sp, .int .i64 (us + 1), .int .i64 cp] := by rw [← hV8]; exact cb_cast (CB.put (CB.put (CB.put (CB.put mV7_r 0 (.int .i64 (dl + sp))) 1 (.int .i64 sp)) 2 (.int .i64 (us + 1))) 3 (.int .i64 cp)) (by kernel_rfl)
    have mV8_t : CB V8 (w.heap.size) 42 #[.int .i64 (dl + sp), .int .i64 sp, .int .i64 (us + 1), .int .i64 cp] := by rw [← hV8]; exact (CB.far (CB.far (CB.far (CB.far nV7 (p := ⟨w.heap.size + 1, 0, none⟩) neW1_01 (.int .i64 (dl + sp))) (p := ⟨w.heap.size + 1, 1, none⟩) neW1_01 (.int .i64 sp)) (p := ⟨w.heap.size + 1, 2, none⟩) neW1_01 (.int .i64 (us + 1))) (p := ⟨w.heap.size + 1, 3, none⟩) neW1_01 (.int .i64 cp))
    have oV8 := (Below.setCell (Below.setCell (Below.setCell (Below.setCell oV7 (p := ⟨w.heap.size + 1, 0, none⟩) (by dsimp only; omega) (.int .i64 (dl + sp))) (p := ⟨w.heap.size + 1, 1, none⟩) (by dsimp only; omega) (.int .i64 sp)) (p := ⟨w.heap.size + 1, 2, none⟩) (by dsimp only; omega) (.int .i64 (us + 1))) (p := ⟨w.heap.size + 1, 3, none⟩) (by dsimp only; omega) (.int .i64 cp))
    rw [hV8] at oV8
    have HV8 := Lib.hid (show ((((((w4).setCell ⟨w.heap.size, 0, none⟩ (.int .i64 (dl + sp))).setCell ⟨w.heap.size, 2, none⟩ (.int .i64 (us + 1))).setCell ⟨w.heap.size + 1, 0, none⟩ (.int .i64 (dl + sp))).setCell ⟨w.heap.size + 1, 1, none⟩ (.int .i64 sp)).setCell ⟨w.heap.size + 1, 2, none⟩ (.int .i64 (us + 1))).setCell ⟨w.heap.size + 1, 3, none⟩ (.int .i64 cp) = V8 by rw [HV7.out]; exact hV8)
    clear hV8
    clear mV7_r nV7 oV7
    go_wp2_with fail
    rw [HV8.out]
    have x_r0 : V8.cell? ⟨w.heap.size + 1, 0, none⟩ = some (.int .i64 (dl + sp)) := CB.cell nV8 0
    have x_r1 : V8.cell? ⟨w.heap.size + 1, 1, none⟩ = some (.int .i64 sp) := CB.cell nV8 1
    have x_r2 : V8.cell? ⟨w.heap.size + 1, 2, none⟩ = some (.int .i64 (us + 1)) := CB.cell nV8 2
    have x_r3 : V8.cell? ⟨w.heap.size + 1, 3, none⟩ = some (.int .i64 cp) := CB.cell nV8 3
    exact bodyPost_ret (v := .tuple #[.agg #[.int .i64 (dl + sp), .int .i64 sp, .int .i64 (us + 1), .int .i64 cp], .int .i64 0]) (by simp [results, Try.results59, go_sem, x_r0, x_r1, x_r2, x_r3]) rfl ⟨by rw [He.out, Hs.out]; rfl, oV8⟩
end Go.Proofs.Ytjfmahceolhfnaa.Te
