/-
  The walk of PartSame: it returns true. Condition: the part's deltas can be read.
-/
import Derived.Test.YtmbmbodcmobllaaPtJ
import Derived.Test.YtmbmbodcmobllaaPtG
import Derived.Test.YtmbmbodcmobllaaPtN
import Derived.Test.YtmbmbodcmobllaaDlO
import Derived.Deep.CutRange
set_option linter.unusedVariables false
set_option linter.unusedSimpArgs false
namespace Go.Proofs.Ytmbmbodcmobllaa
open Go.RowKit Go.IntWalk

set_option maxRecDepth 100000 in
set_option maxHeartbeats 4000000 in
theorem psame_walk (s : Int) (A : Option Addr) (n c : Nat) (l : Bool) (o : Int) (L : List Dl) (m : Nat) (w : World) (h : DR w A n c L) :
    Calls Try.prog 7 #[.agg #[.int .i64 s, .slice A n c, .bool l, .int .i64 o], .int .u8 m] w fun e w' => e = .returned (.bool true) ∧ Below w.heap.size w w' := by
  obtain ⟨W, hW⟩ : ∃ W, w.alloc (.cells #[.int .i64 s, .slice A n c, .bool l, .int .i64 o] 24) = W := ⟨_, rfl⟩
  have hp : PB W (w.heap.size) 24 s A n c l o := by
    rw [← hW]
    have := (PB.new w 24 s A n c l o)
    simpa using this
  have hb : Below w.heap.size w W := by rw [← hW]; exact belA _ _
  have hS := Lib.hid (show W.heap.size = w.heap.size + 1 by rw [← hW]; simp)
  have HW := Lib.hid hW
  clear hW
  clear hS
  have hlen := Lib.hid h.len
  have hd := h.on hb
  have hc := alive_c W
  go_enter Try.func7, Try.ntmps7
  go_upto_region 1 with fail
  rw [HW.out]
  go_wp2_with fail
  refine hc.mono ?_
  rintro e w1 ⟨rfl, b1⟩
  have r1_p := hp.on b1
  have r1_d := hd.on b1
  have l1 := bel2 hb b1
  clear hc b1 hp hd hb
  obtain ⟨cp0, cp1, cp2, cp3⟩ := r1_p.cells
  by_cases hn : 80 < n
  · have hn1 : decide ((80 : Int) < (n : Int)) = true := by simp; omega
    have H := Lib.hid l1
    go_wp2_with fail
    go_ret
    exact ⟨rfl, H.out⟩
  have hn1 : decide ((80 : Int) < (n : Int)) = false := by simp; omega
  have hn2 : n ≤ 1000 := by omega
  have Hn2 := Lib.hid hn2
  clear hn
  have hc := rightR_c s A n c l o L w1 r1_d
  go_wp2_with fail
  (with_reducible refine hc.mono ?_)
  rintro e w2 ⟨rfl, b2⟩
  clear cp0 cp1 cp2 cp3
  clear hc
  have r2_p := r1_p.on b2
  have r2_d := r1_d.on b2
  have l2 := bel2 l1 b2
  clear b2 r1_p r1_d l1
  obtain ⟨cp0, cp1, cp2, cp3⟩ := r2_p.cells
  cases hok : okP ⟨s, L, l, o⟩ with
  | false =>
    clear hok
    have H := Lib.hid l2
    go_wp2_with fail
    go_ret
    exact ⟨rfl, H.out⟩
  | true =>
    have Hok := Lib.hid hok
    clear hok
    by_cases hs : s = 1
    rotate_left
    · have hs1 : (s != 1) = true := by simp [hs]
      clear hs
      have H := Lib.hid l2
      go_wp2_with fail
      go_ret
      exact ⟨rfl, H.out⟩
    subst hs
    cases l with
    | true =>
      have H := Lib.hid l2
      go_wp2_with fail
      go_ret
      exact ⟨rfl, H.out⟩
    | false =>
      obtain ⟨r, hr⟩ : ∃ r : Nat, (m : Int).tmod 2 = r := ⟨m % 2, by rw [Int.tmod_eq_emod_of_nonneg (by omega)]; omega⟩
      have hr2 : r = 0 ∨ r = 1 := by rw [Int.tmod_eq_emod_of_nonneg (by omega)] at hr; omega
      obtain ⟨u, hu⟩ : ∃ u : Int, (r : Int) + 1 = u := ⟨_, rfl⟩
      have hu2 : u = 1 ∨ u = 2 := by omega
      have hw1 : wrap64 (r : Int) = r := by unfold wrap64; omega
      have hw : wrap64 ((r : Int) + 1) = u := by unfold wrap64; omega
      clear hr2
      obtain ⟨⟨z1, z2⟩, ⟨z3, z4, z5⟩, ⟨z6, z7⟩, z8, z9, z10⟩ := dec_sum Hok.out hu2
      clear hu2 hu
      obtain ⟨D1, hD1⟩ : ∃ D, dDec ⟨1, L, false, o⟩ u = D := ⟨_, rfl⟩
      obtain ⟨D2, hD2⟩ : ∃ D, dDec ⟨1, L, true, o⟩ u = D := ⟨_, rfl⟩
      rw [hD1, hD2] at z8
      rw [hD1] at z9
      rw [hD2] at z10
      rw [hlen.out] at z9 z10
      have Z8 := Lib.hid z8
      have Z9 := Lib.hid z9
      have Z10 := Lib.hid z10
      clear z8 z9 z10
      have Z3 := Lib.hid z3
      have Z4 := Lib.hid z4
      have Z5 := Lib.hid z5
      have Z6 := Lib.hid z6
      have Z7 := Lib.hid z7
      have HD2 := Lib.hid hD2
      clear z3 z4 z5 z6 z7 hD2
      have hc := decide_c 1 A n c false o u L w2 r2_d hn2
      rw [z1, z2, hD1] at hc
      clear z1 z2 hD1
      go_upto_region 6 with fail
      go_wp2_with fail
      (with_reducible refine hc.mono ?_)
      rintro e w3 ⟨A1, n1, c1, A2, n2, c2, rfl, d1, d2, b3, _⟩
      clear cp0 cp1 cp2 cp3
      clear hc
      have r3_p := r2_p.on b3
      have r3_d := r2_d.on b3
      have l3 := bel2 l2 b3
      clear b3 d1 r2_p r2_d l2
      obtain ⟨V1, hV1⟩ : ∃ V, w3.alloc (.cells #[.int .i64 3, .slice A1 n1 c1, .bool false, .int .i64 u] 30) = V := ⟨_, rfl⟩
      have bV1 : Below w3.heap.size w3 V1 := by rw [← hV1]; exact belA _ _
      have nV1 := PB.new w3 30 3 A1 n1 c1 false u
      rw [hV1] at nV1
      have HV1 := Lib.hid hV1
      clear hV1
      have r4_p := r3_p.on bV1
      have r4_d := r3_d.on bV1
      have r4_e := d2.on bV1
      have l4 := bel2 l3 bV1
      clear bV1 r3_p r3_d d2 l3
      obtain ⟨cp0, cp1, cp2, cp3⟩ := r4_p.cells
      have hc := local_c 1 A n c false o L V1 r4_d hn2
      rw [Z3.out, Z4.out, Z5.out] at hc
      go_upto_region 7 with fail
      rw [HV1.out]
      go_wp2_with fail
      (with_reducible refine hc.mono ?_)
      rintro e w4 ⟨A3, n3, c3, A4, n4, c4, rfl, d3, d4, b4, _⟩
      obtain rfl : n = n3 := hlen.out.symm.trans d3.len
      obtain rfl : n = n4 := hlen.out.symm.trans d4.len
      clear cp0 cp1 cp2 cp3
      clear hc
      have r5_e := r4_e.on b4
      have r5_a := nV1.on b4
      have l5 := bel2 l4 b4
      clear b4 r4_p r4_d r4_e nV1 l4
      obtain ⟨V2, hV2⟩ : ∃ V, w4.alloc (.cells #[.int .i64 1, .slice A3 n c3, .bool true, .int .i64 o] 30) = V := ⟨_, rfl⟩
      have bV2 : Below w4.heap.size w4 V2 := by rw [← hV2]; exact belA _ _
      have nV2 := PB.new w4 30 1 A3 n c3 true o
      rw [hV2] at nV2
      have HV2 := Lib.hid hV2
      clear hV2
      have r6_e := r5_e.on bV2
      have r6_a := r5_a.on bV2
      have r6_x1 := d3.on bV2
      have r6_f := d4.on bV2
      have l6 := bel2 l5 bV2
      clear bV2 r5_e r5_a d3 d4 l5
      obtain ⟨cp0, cp1, cp2, cp3⟩ := nV2.cells
      have hc := decide_c 1 A3 n c3 true o u L V2 r6_x1 hn2
      rw [Z6.out, Z7.out, HD2.out] at hc
      go_upto_region 8 with fail
      rw [HV2.out]
      go_wp2_with fail
      (with_reducible refine hc.mono ?_)
      rintro e w5 ⟨A5, n5, c5, A6, n6, c6, rfl, d5, d6, b5, _⟩
      clear cp0 cp1 cp2 cp3
      clear hc
      have r7_e := r6_e.on b5
      have r7_a := r6_a.on b5
      have r7_f := r6_f.on b5
      have l7 := bel2 l6 b5
      clear b5 d5 r6_e r6_a r6_x1 r6_f nV2 l6
      obtain ⟨V3, hV3⟩ : ∃ V, w5.alloc (.cells #[.int .i64 3, .slice A5 n5 c5, .bool true, .int .i64 u] 30) = V := ⟨_, rfl⟩
      have bV3 : Below w5.heap.size w5 V3 := by rw [← hV3]; exact belA _ _
      have nV3 := PB.new w5 30 3 A5 n5 c5 true u
      rw [hV3] at nV3
      have HV3 := Lib.hid hV3
      clear hV3
      have r8_e := r7_e.on bV3
      have r8_a := r7_a.on bV3
      have r8_f := r7_f.on bV3
      have r8_h6 := d6.on bV3
      have l8 := bel2 l7 bV3
      clear bV3 r7_e r7_a r7_f d6 l7
      obtain ⟨ca0, ca1, ca2, ca3⟩ := r8_a.cells
      obtain ⟨cb0, cb1, cb2, cb3⟩ := nV3.cells
      have e1 : (u != u) = false := by simp
      have hn2e : n2 ≤ 1000 := by rw [← (r8_e).len]; exact Nat.le_trans Z9.out hn2
      have hn6e : n6 ≤ n := by rw [← (r8_h6).len]; exact Z10.out
      have hc := of_c A2 n2 c2 D1 V3 r8_e (by omega)
      go_upto_region 9 with fail
      rw [HV3.out]
      go_wp2_with fail
      (with_reducible refine hc.mono ?_)
      rintro e w6 ⟨A7, n7, c7, rfl, d7, b6⟩
      clear ca0 ca1 ca2 ca3 cb0 cb1 cb2 cb3
      clear hc e1 hn2e
      have r9_f := r8_f.on b6
      have r9_h6 := r8_h6.on b6
      have l9 := bel2 l8 b6
      clear b6 r8_e r8_a r8_f r8_h6 nV3 l8
      obtain ⟨i0, hi0, hz0, hz1, hz2⟩ := info_parts Try.infoD
      have p03 : 0 < 2 := by omega
      have q1 : 0 + n ≤ maxLen := by simp only [maxLen]; omega
      have q2 : (0 + n) * 16 ≤ 140737488355328 := by omega
      have q3 : n + n6 ≤ maxLen := by simp only [maxLen]; omega
      have q4 : (n + n6) * 16 ≤ 140737488355328 := by omega
      have y0 := Nat.zero_add n
      obtain ⟨N, hN⟩ : ∃ N, n + n6 = N := ⟨_, rfl⟩
      have hN3 : N ≤ 300000 := by omega
      have HN := Lib.hid hN
      have sf := (r9_f).src
      have n0 : Seg w6 26 2 none 0 0 [] none := Seg.nil _ _ _
      clear hN
      go_wp2_with (at_builtin; refine wpList_append_src _ rfl (.const (.slice none 0 0)) (.tmp 85) _ rfl 26 i0 _ 2 16 Try.underlying22 hi0 hz0 hz1 hz2 rfl p03 rfl n0 rfl sf (rc_one 2 _) q1 q2 n y0 ?_; intro A8 c8 G8 w8 s8 g8 m8; refine Stay.mk ?_)
      refine Stay.open_ ?_
      rw [List.nil_append] at s8
      have b8 : Below w6.heap.size w6 w8 := grown_below g8 (Nat.le_refl _) (fun g e => by cases e)
      have G8h := Lib.hid (m8.ge (B := w6.heap.size) (Nat.le_refl _) (fun g e => by cases e))
      clear n0 sf g8 m8
      have r10_h6 := r9_h6.on b8
      have l10 := bel2 l9 b8
      clear r9_f r9_h6
      have sh := (r10_h6).src
      go_wp2_with (at_builtin; refine wpList_append_src _ rfl (.tmp 86) (.tmp 87) _ rfl 26 i0 _ 2 16 Try.underlying22 hi0 hz0 hz1 hz2 rfl p03 rfl s8 rfl sh (rc_one 2 _) q3 q4 N HN.out ?_; intro A9 c9 G9 w9 s9 g9 m9; refine Stay.mk ?_)
      refine Stay.open_ ?_
      rw [← rc_append] at s9
      have b9 : Below w6.heap.size w6 w9 := b8.grown g9 b8.size G8h.out
      have o9 := d7.on b9
      have lo9 := bel2 l9 b9
      have hc := of_c A9 N c9 (L ++ D2) w9 (RR.of_seg s9) hN3
      rw [← Z8.out] at hc
      clear sh s8 g9 m9 b8 b9 s9 G8h r10_h6 l10 l9
      go_wp2_with fail
      (with_reducible refine hc.mono ?_)
      rintro e w10 ⟨A10, n10, c10, rfl, d10, b10⟩
      have hc2 := same8_c A7 A10 n7 c7 n10 c10 _ w10 ((o9.rr).on b10) d10.rr
      have lo10 := bel2 lo9 b10
      clear hc b10 d10 o9 lo9 d7
      go_wp2_with fail
      (with_reducible refine hc2.mono ?_)
      rintro e w11 ⟨rfl, b11⟩
      have H := Lib.hid (bel2 lo10 b11)
      clear hc2 b11 lo10
      go_wp2_with fail
      go_ret
      exact ⟨rfl, H.out⟩
end Go.Proofs.Ytmbmbodcmobllaa
