/-
  alive of layer 9's laws: it returns true. No condition.
-/
import Derived.Test.YtmbmbodcmobllaaPtF
import Derived.Deep.CutRange
import Derived.Deep.RegionHeld3
set_option linter.unusedVariables false
set_option linter.unusedSimpArgs false
namespace Go.Proofs.Ytmbmbodcmobllaa
open Go.RowKit Go.IntWalk

instance : DecidableEq Pt := fun a b => by
  cases a with
  | mk s L l o => cases b with
    | mk s' L' l' o' => exact decidable_of_iff (s = s' ∧ L = L' ∧ l = l' ∧ o = o') (by simp)
theorem tk_0 (x : Dl) : tk [x] 0 = x := rfl
theorem al_1 : sAdd ⟨0, [], false, 0⟩ ⟨3, 5⟩ = ⟨0, [⟨3, 5⟩], false, 0⟩ ∧ eAdd ⟨0, [], false, 0⟩ ⟨3, 5⟩ = 0 := by decide
theorem al_2 : sVote ⟨0, [⟨3, 5⟩], false, 0⟩ true = ⟨1, [⟨3, 5⟩], false, 0⟩ ∧ eVote ⟨0, [⟨3, 5⟩], false, 0⟩ = 0 := by decide
theorem al_3 : sLoc ⟨1, [⟨3, 5⟩], false, 0⟩ = ⟨1, [⟨3, 5⟩], true, 0⟩ ∧ dLoc ⟨1, [⟨3, 5⟩], false, 0⟩ = [⟨3, 5⟩] ∧ eLoc ⟨1, [⟨3, 5⟩], false, 0⟩ = 0 := by decide
theorem al_4 : sDec ⟨1, [⟨3, 5⟩], true, 0⟩ 2 = ⟨3, [⟨3, 5⟩], true, 2⟩ ∧ dDec ⟨1, [⟨3, 5⟩], true, 0⟩ 2 = [⟨3, -5⟩] ∧ eDec ⟨1, [⟨3, 5⟩], true, 0⟩ 2 = 0 := by
  refine ⟨by decide, ?_, by decide⟩
  have e : dDec ⟨1, [⟨3, 5⟩], true, 0⟩ 2 = [⟨3, wrap64 (-5)⟩] := rfl
  rw [e, show wrap64 (-5) = -5 by unfold wrap64; omega]
theorem al_5 : sDec ⟨3, [⟨3, 5⟩], true, 2⟩ 2 = ⟨3, [⟨3, 5⟩], true, 2⟩ ∧ dDec ⟨3, [⟨3, 5⟩], true, 2⟩ 2 = [] ∧ eDec ⟨3, [⟨3, 5⟩], true, 2⟩ 2 = 0 := by decide
theorem al_6 : sDec ⟨3, [⟨3, 5⟩], true, 2⟩ 1 = ⟨3, [⟨3, 5⟩], true, 2⟩ ∧ dDec ⟨3, [⟨3, 5⟩], true, 2⟩ 1 = [] ∧ eDec ⟨3, [⟨3, 5⟩], true, 2⟩ 1 = 13 := by decide
theorem al_7 : okP ⟨3, [⟨3, 5⟩], true, 2⟩ = true := by decide
theorem al_8 : (eff ⟨3, [⟨3, 5⟩], true, 2⟩).length = 2 := by decide

set_option maxRecDepth 100000 in
set_option maxHeartbeats 8000000 in
theorem alive_c (w : World) : Calls Try.prog 9 #[] w fun e w' => e = .returned (.bool true) ∧ Below w.heap.size w w' := by
  go_enter Try.func9, Try.ntmps9
  obtain ⟨W, hW⟩ : ∃ W, w.alloc (.cells #[.int .u8 3, .int .i64 5] 26) = W := ⟨_, rfl⟩
  have hx : CB W (w.heap.size) 26 #[.int .u8 3, .int .i64 5] := by
    rw [← hW]
    have := (CB.new w 26 #[.int .u8 3, .int .i64 5])
    simpa using this
  have hb : Below w.heap.size w W := by rw [← hW]; exact belA _ _
  have hS := Lib.hid (show W.heap.size = w.heap.size + 1 by rw [← hW]; simp)
  have HW := Lib.hid hW
  clear hW
  clear hS
  have cx := hx.cell 0
  have cy := hx.cell 1
  simp only [List.getElem?_toArray, List.getElem?_cons_zero, List.getElem?_cons_succ] at cx cy
  have hc := add_c 0 none 0 0 false 0 3 5 [] W (RR.nil _ _ _) (by omega)
  rw [al_1.1, al_1.2] at hc
  go_upto_region 2 with fail
  rw [HW.out]
  go_wp2_with fail
  refine hc.mono ?_
  rintro e w1 ⟨A1, n1, c1, rfl, d1, b1, _⟩
  obtain rfl : 1 = n1 := d1.len
  clear cx cy hc
  have r1_x := hx.on b1
  have l1 := bel2 hb b1
  clear b1 hx hb
  have HX := Lib.hid (show w.heap.size < w1.heap.size from r1_x.lt)
  obtain ⟨V1, hV1⟩ : ∃ V, w1.alloc (.cells #[.int .i64 0, .slice A1 1 c1, .bool false, .int .i64 0] 30) = V := ⟨_, rfl⟩
  have bV1 : Below w1.heap.size w1 V1 := by rw [← hV1]; exact belA _ _
  have nV1 := PB.new w1 30 0 A1 1 c1 false 0
  rw [hV1] at nV1
  have HV1 := Lib.hid hV1
  clear hV1
  have r2_x := r1_x.on bV1
  have r2_a := d1.on bV1
  have l2 := bel2 l1 bV1
  clear bV1 r1_x d1 l1
  obtain ⟨cp0, cp1, cp2, cp3⟩ := nV1.cells
  have hc := vote_c 0 A1 1 c1 false 0 true [⟨3, 5⟩] V1 r2_a (by omega)
  rw [al_2.1, al_2.2] at hc
  go_upto_region 3 with fail
  rw [HV1.out]
  go_wp2_with fail
  refine hc.mono ?_
  rintro e w2 ⟨A2, n2, c2, rfl, d2, b2, _⟩
  obtain rfl : 1 = n2 := d2.len
  clear cp0 cp1 cp2 cp3
  clear hc
  have r3_x := r2_x.on b2
  have r3_p := nV1.on b2
  have l3 := bel2 l2 b2
  clear b2 r2_x r2_a nV1 l2
  obtain ⟨cp0, cp1, cp2, cp3⟩ := r3_p.cells
  obtain ⟨fp0, fp1, fp2, fp3⟩ := r3_p.froz
  obtain ⟨V2, hV2, pV2, kV2⟩ := store_end r3_p Try.neP 1 A2 1 c2 false 0
  have HV2 := Lib.hid hV2
  clear hV2
  go_upto_region 4 with fail
  rw [HV2.out]
  clear cp0 cp1 cp2 cp3
  clear fp0 fp1 fp2 fp3
  have xV2 := kV2.cb _ _ _ (by have := HX.out; omega) r3_x
  have aV2 := kV2.dr _ _ _ _ d2
  have lV2 := kV2.low _ _ l3 (by have := HX.out; omega)
  have xV2_ : CB V2 w.heap.size 26 #[.int .u8 3, .int .i64 5] := xV2
  clear kV2 r3_p r3_x d2 l3
  obtain ⟨cp0, cp1, cp2, cp3⟩ := pV2.cells
  have hc := local_c 1 A2 1 c2 false 0 [⟨3, 5⟩] V2 aV2 (by omega)
  rw [al_3.1, al_3.2.1, al_3.2.2] at hc

  go_wp2_with fail
  refine hc.mono ?_
  rintro e w3 ⟨A3, n3, c3, A4, n4, c4, rfl, d3, d4, b3, _⟩
  obtain rfl : 1 = n3 := d3.len
  obtain rfl : 1 = n4 := d4.len
  clear cp0 cp1 cp2 cp3
  clear hc
  have r4_p := pV2.on b3
  have r4_x := xV2_.on b3
  have l4 := bel2 lV2 b3
  clear b3 pV2 xV2_ aV2 lV2
  obtain ⟨cp0, cp1, cp2, cp3⟩ := r4_p.cells
  obtain ⟨fp0, fp1, fp2, fp3⟩ := r4_p.froz
  obtain ⟨V3, hV3, pV3, kV3⟩ := store_end r4_p Try.neP 1 A3 1 c3 true 0
  have HV3 := Lib.hid hV3
  clear hV3
  go_upto_region 5 with fail
  rw [HV3.out]
  clear cp0 cp1 cp2 cp3
  clear fp0 fp1 fp2 fp3
  have xV3 := kV3.cb _ _ _ (by have := HX.out; omega) r4_x
  have aV3 := kV3.dr _ _ _ _ d3
  have llV3 := kV3.dr _ _ _ _ d4
  have lV3 := kV3.low _ _ l4 (by have := HX.out; omega)
  have xV3_ : CB V3 w.heap.size 26 #[.int .u8 3, .int .i64 5] := xV3
  clear kV3 r4_p r4_x d3 d4 l4
  obtain ⟨cp0, cp1, cp2, cp3⟩ := pV3.cells
  have hc := decide_c 1 A3 1 c3 true 0 2 [⟨3, 5⟩] V3 aV3 (by omega)
  rw [al_4.1, al_4.2.1, al_4.2.2] at hc

  go_wp2_with fail
  refine hc.mono ?_
  rintro e w4 ⟨A5, n5, c5, A6, n6, c6, rfl, d5, d6, b4, _⟩
  obtain rfl : 1 = n5 := d5.len
  obtain rfl : 1 = n6 := d6.len
  clear cp0 cp1 cp2 cp3
  clear hc
  have r5_x := xV3_.on b4
  have r5_ll := llV3.on b4
  have l5 := bel2 lV3 b4
  clear b4 pV3 xV3_ aV3 llV3 lV3
  obtain ⟨V4, hV4⟩ : ∃ V, w4.alloc (.cells #[.int .i64 3, .slice A5 1 c5, .bool true, .int .i64 2] 30) = V := ⟨_, rfl⟩
  have bV4 : Below w4.heap.size w4 V4 := by rw [← hV4]; exact belA _ _
  have nV4 := PB.new w4 30 3 A5 1 c5 true 2
  rw [hV4] at nV4
  have HV4 := Lib.hid hV4
  clear hV4
  have r6_x := r5_x.on bV4
  have r6_ll := r5_ll.on bV4
  have r6_a := d5.on bV4
  have r6_mm := d6.on bV4
  have l6 := bel2 l5 bV4
  clear bV4 r5_x r5_ll d5 d6 l5
  obtain ⟨cp0, cp1, cp2, cp3⟩ := nV4.cells
  have hc := decide_c 3 A5 1 c5 true 2 2 [⟨3, 5⟩] V4 r6_a (by omega)
  rw [al_5.1, al_5.2.1, al_5.2.2] at hc
  go_upto_region 6 with fail
  rw [HV4.out]
  go_wp2_with fail
  refine hc.mono ?_
  rintro e w5 ⟨A7, n7, c7, A8, n8, c8, rfl, d7, d8, b5, _⟩
  obtain rfl : 0 = n8 := d8.len
  clear cp0 cp1 cp2 cp3
  clear hc
  have r7_x := r6_x.on b5
  have r7_ll := r6_ll.on b5
  have r7_a := r6_a.on b5
  have r7_mm := r6_mm.on b5
  have r7_p := nV4.on b5
  have l7 := bel2 l6 b5
  clear b5 d7 d8 r6_x r6_ll r6_a r6_mm nV4 l6
  obtain ⟨V5, hV5⟩ : ∃ V, w5.alloc (.cells #[.int .i64 3, .slice A7 n7 c7, .bool true, .int .i64 2] 30) = V := ⟨_, rfl⟩
  have bV5 : Below w5.heap.size w5 V5 := by rw [← hV5]; exact belA _ _
  have nV5 := PB.new w5 30 3 A7 n7 c7 true 2
  rw [hV5] at nV5
  have HV5 := Lib.hid hV5
  clear hV5
  have r8_x := r7_x.on bV5
  have r8_ll := r7_ll.on bV5
  have r8_a := r7_a.on bV5
  have r8_mm := r7_mm.on bV5
  have r8_p := r7_p.on bV5
  have l8 := bel2 l7 bV5
  clear bV5 r7_x r7_ll r7_a r7_mm r7_p l7
  obtain ⟨cp0, cp1, cp2, cp3⟩ := r8_p.cells
  have hc := decide_c 3 A5 1 c5 true 2 1 [⟨3, 5⟩] V5 r8_a (by omega)
  rw [al_6.1, al_6.2.1, al_6.2.2] at hc
  go_upto_region 7 with fail
  rw [HV5.out]
  go_wp2_with fail
  refine hc.mono ?_
  rintro e w6 ⟨A9, n9, c9, A10, n10, c10, rfl, d9, d10, b6, _⟩
  clear cp0 cp1 cp2 cp3
  clear hc
  have r9_x := r8_x.on b6
  have r9_ll := r8_ll.on b6
  have r9_a := r8_a.on b6
  have r9_mm := r8_mm.on b6
  have r9_p := r8_p.on b6
  have l9 := bel2 l8 b6
  clear b6 nV5 d9 d10 r8_x r8_ll r8_a r8_mm r8_p l8
  obtain ⟨V6, hV6⟩ : ∃ V, w6.alloc (.cells #[.int .i64 3, .slice A9 n9 c9, .bool true, .int .i64 2] 30) = V := ⟨_, rfl⟩
  have bV6 : Below w6.heap.size w6 V6 := by rw [← hV6]; exact belA _ _
  have nV6 := PB.new w6 30 3 A9 n9 c9 true 2
  rw [hV6] at nV6
  have HV6 := Lib.hid hV6
  clear hV6
  have r10_x := r9_x.on bV6
  have r10_ll := r9_ll.on bV6
  have r10_a := r9_a.on bV6
  have r10_mm := r9_mm.on bV6
  have r10_p := r9_p.on bV6
  have l10 := bel2 l9 bV6
  clear bV6 r9_x r9_ll r9_a r9_mm r9_p l9
  clear nV6
  obtain ⟨gl, ol, rfl, e1, e2⟩ := r10_ll.at2 (k := 0) (by omega)
  obtain ⟨gm, om, rfl, f1, f2⟩ := r10_mm.at2 (k := 0) (by omega)
  simp only [tk_0, Nat.zero_mul, Nat.add_zero] at e1 e2 f1 f2
  have cx := r10_x.cell 0
  have cy := r10_x.cell 1
  simp only [List.getElem?_toArray, List.getElem?_cons_zero, List.getElem?_cons_succ] at cx cy
  have hr := right_c 3 A5 1 c5 true 2 [⟨3, 5⟩] V6.drew r10_a.drew
  rw [al_7] at hr
  go_upto_region 8 with fail
  rw [HV6.out]
  have Y0 := Lib.hid (show ((V6.cell? ⟨w.heap.size, 0, none⟩ = some (.int .u8 3) ∧ V6.cell? ⟨w.heap.size, 1, none⟩ = some (.int .i64 5)) ∧ (V6.cell? ⟨gl, ol, none⟩ = some (.int .u8 3) ∧ V6.cell? ⟨gl, ol + 1, none⟩ = some (.int .i64 5)) ∧ V6.cell? ⟨gm, om + 1, none⟩ = some (.int .i64 (-5))) ∧ (V6.cell? ⟨w4.heap.size, 0, none⟩ = some (.int .i64 3) ∧ V6.cell? ⟨w4.heap.size, 1, none⟩ = some (.slice A5 1 c5) ∧ V6.cell? ⟨w4.heap.size, 2, none⟩ = some (.bool true) ∧ V6.cell? ⟨w4.heap.size, 3, none⟩ = some (.int .i64 2)) from ⟨⟨⟨cx, cy⟩, ⟨e1, e2⟩, f2⟩, (show PB V6 w4.heap.size 30 _ _ _ _ _ _ from r10_p).cells⟩)
  have HC := Lib.hid (fun V (b : Below V6.heap.size V6 V) => (show ((V.cell? ⟨w.heap.size, 0, none⟩ = some (.int .u8 3) ∧ V.cell? ⟨w.heap.size, 1, none⟩ = some (.int .i64 5)) ∧ (V.cell? ⟨gl, ol, none⟩ = some (.int .u8 3) ∧ V.cell? ⟨gl, ol + 1, none⟩ = some (.int .i64 5)) ∧ V.cell? ⟨gm, om + 1, none⟩ = some (.int .i64 (-5))) ∧ (V.cell? ⟨w4.heap.size, 0, none⟩ = some (.int .i64 3) ∧ V.cell? ⟨w4.heap.size, 1, none⟩ = some (.slice A5 1 c5) ∧ V.cell? ⟨w4.heap.size, 2, none⟩ = some (.bool true) ∧ V.cell? ⟨w4.heap.size, 3, none⟩ = some (.int .i64 2)) from ⟨⟨⟨cell_on b Y0.out.1.1.1, cell_on b Y0.out.1.1.2⟩, ⟨cell_on b Y0.out.1.2.1.1, cell_on b Y0.out.1.2.1.2⟩, cell_on b Y0.out.1.2.2⟩, ((show PB V6 w4.heap.size 30 _ _ _ _ _ _ from r10_p).on b).cells⟩))
  clear cx cy e1 e2 f1 f2
  refine wp_region_held_drew (S := fun W' => ((W'.cell? ⟨w.heap.size, 0, none⟩ = some (.int .u8 3) ∧ W'.cell? ⟨w.heap.size, 1, none⟩ = some (.int .i64 5)) ∧ (W'.cell? ⟨gl, ol, none⟩ = some (.int .u8 3) ∧ W'.cell? ⟨gl, ol + 1, none⟩ = some (.int .i64 5)) ∧ W'.cell? ⟨gm, om + 1, none⟩ = some (.int .i64 (-5))) ∧ (W'.cell? ⟨w4.heap.size, 0, none⟩ = some (.int .i64 3) ∧ W'.cell? ⟨w4.heap.size, 1, none⟩ = some (.slice A5 1 c5) ∧ W'.cell? ⟨w4.heap.size, 2, none⟩ = some (.bool true) ∧ W'.cell? ⟨w4.heap.size, 3, none⟩ = some (.int .i64 2))) (by kernel_rfl) Y0.out (fun hHeld => ?_)
  refine wpAnyH_takeD (i := 0) (d := some 52) (v := .int .i64 0) rfl rfl (by kernel_rfl) (by kernel_rfl) (by kernel_rfl) (fun _ _ _ h => h) (Or.inl ⟨by rfl, ?_⟩) hHeld ?_
  · intro w hSw; (try dsimp only at hSw); go_simp
  try simp only [Act.put, List.setIfInBounds_toArray, List.set_cons_zero, List.set_cons_succ]
  refine wpAnyH_takeD (i := 1) (d := some 53) (v := .bool true) rfl rfl (by kernel_rfl) (by kernel_rfl) (by kernel_rfl) (fun _ _ _ h => h) (Or.inl ⟨by rfl, ?_⟩) hHeld ?_
  · intro w hSw; (try dsimp only at hSw); go_simp
  try simp only [Act.put, List.setIfInBounds_toArray, List.set_cons_zero, List.set_cons_succ]
  refine wpAnyH_takeD (i := 2) (d := some 54) (v := .bool true) rfl rfl (by kernel_rfl) (by kernel_rfl) (by kernel_rfl) (fun _ _ _ h => h) (Or.inl ⟨by rfl, ?_⟩) hHeld ?_
  · intro w hSw; (try dsimp only at hSw); go_simp
  try simp only [Act.put, List.setIfInBounds_toArray, List.set_cons_zero, List.set_cons_succ]
  refine wpAnyH_takeD (i := 3) (d := some 55) (v := .int .i64 0) rfl rfl (by kernel_rfl) (by kernel_rfl) (by kernel_rfl) (fun _ _ _ h => h) (Or.inl ⟨by rfl, ?_⟩) hHeld ?_
  · intro w hSw; (try dsimp only at hSw); go_simp
  try simp only [Act.put, List.setIfInBounds_toArray, List.set_cons_zero, List.set_cons_succ]
  refine wpAnyH_takeD (i := 4) (d := some 56) (v := .bool true) rfl rfl (by kernel_rfl) (by kernel_rfl) (by kernel_rfl) (fun _ _ _ h => h) (Or.inl ⟨by rfl, ?_⟩) hHeld ?_
  · intro w hSw; (try dsimp only at hSw); go_simp
  try simp only [Act.put, List.setIfInBounds_toArray, List.set_cons_zero, List.set_cons_succ]
  refine wpAnyH_takeD (i := 5) (d := some 57) (v := .bool true) rfl rfl (by kernel_rfl) (by kernel_rfl) (by kernel_rfl) (fun _ _ _ h => h) (Or.inl ⟨by rfl, ?_⟩) hHeld ?_
  · intro w hSw; (try dsimp only at hSw); go_simp
  try simp only [Act.put, List.setIfInBounds_toArray, List.set_cons_zero, List.set_cons_succ]
  refine wpAnyH_takeD (i := 6) (d := some 58) (v := .bool true) rfl rfl (by kernel_rfl) (by kernel_rfl) (by kernel_rfl) (fun _ _ _ h => h) (Or.inl ⟨by rfl, ?_⟩) hHeld ?_
  · intro w hSw; (try dsimp only at hSw); go_simp
  try simp only [Act.put, List.setIfInBounds_toArray, List.set_cons_zero, List.set_cons_succ]
  refine wpAnyH_takeD (i := 7) (d := some 59) (v := .int .i64 0) rfl rfl (by kernel_rfl) (by kernel_rfl) (by kernel_rfl) (fun _ _ _ h => h) (Or.inl ⟨by rfl, ?_⟩) hHeld ?_
  · intro w hSw; (try dsimp only at hSw); go_simp
  try simp only [Act.put, List.setIfInBounds_toArray, List.set_cons_zero, List.set_cons_succ]
  refine wpAnyH_takeD (i := 8) (d := some 60) (v := .bool true) rfl rfl (by kernel_rfl) (by kernel_rfl) (by kernel_rfl) (fun _ _ _ h => h) (Or.inl ⟨by rfl, ?_⟩) hHeld ?_
  · intro w hSw; (try dsimp only at hSw); go_simp
  try simp only [Act.put, List.setIfInBounds_toArray, List.set_cons_zero, List.set_cons_succ]
  refine wpAnyH_takeD (i := 9) (d := some 61) (v := .bool true) rfl rfl (by kernel_rfl) (by kernel_rfl) (by kernel_rfl) (fun _ _ _ h => h) (Or.inl ⟨by rfl, ?_⟩) hHeld ?_
  · intro w hSw; (try dsimp only at hSw); go_simp
  try simp only [Act.put, List.setIfInBounds_toArray, List.set_cons_zero, List.set_cons_succ]
  refine wpAnyH_takeD (i := 10) (d := some 62) (v := .bool true) rfl rfl (by kernel_rfl) (by kernel_rfl) (by kernel_rfl) (fun _ _ _ h => h) (Or.inl ⟨by rfl, ?_⟩) hHeld ?_
  · intro w hSw; (try dsimp only at hSw); go_simp
  try simp only [Act.put, List.setIfInBounds_toArray, List.set_cons_zero, List.set_cons_succ]
  refine wpAnyH_takeD (i := 11) (d := some 63) (v := .slice (some ⟨gl, ol, none⟩) 1 c4) rfl rfl (by kernel_rfl) (by kernel_rfl) (by kernel_rfl) (fun _ _ _ h => h) (Or.inl ⟨by rfl, ?_⟩) hHeld ?_
  · intro w hSw; (try dsimp only at hSw); go_simp
  try simp only [Act.put, List.setIfInBounds_toArray, List.set_cons_zero, List.set_cons_succ]
  refine wpAnyH_takeD (i := 12) (d := some 64) (v := .int .i64 1) rfl rfl (by kernel_rfl) (by kernel_rfl) (by kernel_rfl) (fun _ _ _ h => h) (Or.inl ⟨by rfl, ?_⟩) hHeld ?_
  · intro w hSw; (try dsimp only at hSw); go_simp
  try simp only [Act.put, List.setIfInBounds_toArray, List.set_cons_zero, List.set_cons_succ]
  refine wpAnyH_takeD (i := 13) (d := some 65) (v := .bool true) rfl rfl (by kernel_rfl) (by kernel_rfl) (by kernel_rfl) (fun _ _ _ h => h) (Or.inl ⟨by rfl, ?_⟩) hHeld ?_
  · intro w hSw; (try dsimp only at hSw); go_simp
  try simp only [Act.put, List.setIfInBounds_toArray, List.set_cons_zero, List.set_cons_succ]
  refine wpAnyH_takeD (i := 14) (d := some 66) (v := .bool true) rfl rfl (by kernel_rfl) (by kernel_rfl) (by kernel_rfl) (fun _ _ _ h => h) (Or.inl ⟨by rfl, ?_⟩) hHeld ?_
  · intro w hSw; (try dsimp only at hSw); go_simp
  try simp only [Act.put, List.setIfInBounds_toArray, List.set_cons_zero, List.set_cons_succ]
  refine wpAnyH_takeD (i := 15) (d := some 67) (v := .bool true) rfl rfl (by kernel_rfl) (by kernel_rfl) (by kernel_rfl) (fun _ _ _ h => h) (Or.inl ⟨by rfl, ?_⟩) hHeld ?_
  · intro w hSw; (try dsimp only at hSw); go_simp
  try simp only [Act.put, List.setIfInBounds_toArray, List.set_cons_zero, List.set_cons_succ]
  refine wpAnyH_takeD (i := 16) (d := some 68) (v := .slice (some ⟨gl, ol, none⟩) 1 c4) rfl rfl (by kernel_rfl) (by kernel_rfl) (by kernel_rfl) (fun _ _ _ h => h) (Or.inl ⟨by rfl, ?_⟩) hHeld ?_
  · intro w hSw; (try dsimp only at hSw); go_simp
  try simp only [Act.put, List.setIfInBounds_toArray, List.set_cons_zero, List.set_cons_succ]
  refine wpAnyH_takeD (i := 17) (d := some 69) (v := .pointer (some ⟨gl, ol, none⟩)) rfl rfl (by kernel_rfl) (by kernel_rfl) (by kernel_rfl) (fun _ _ _ h => h) (Or.inl ⟨by rfl, ?_⟩) hHeld ?_
  · intro w hSw; (try dsimp only at hSw); go_simp
  try simp only [Act.put, List.setIfInBounds_toArray, List.set_cons_zero, List.set_cons_succ]
  refine wpAnyH_takeD (i := 18) (d := some 70) (v := .agg #[.int .u8 3, .int .i64 5]) rfl rfl (by kernel_rfl) (by kernel_rfl) (by kernel_rfl) (fun _ _ _ h => h) (Or.inl ⟨by rfl, ?_⟩) hHeld ?_
  · intro w hSw; (try dsimp only at hSw); go_simp
  try simp only [Act.put, List.setIfInBounds_toArray, List.set_cons_zero, List.set_cons_succ]
  refine wpAnyH_takeD (i := 19) (d := some 71) (v := .agg #[.int .u8 3, .int .i64 5]) rfl rfl (by kernel_rfl) (by kernel_rfl) (by kernel_rfl) (fun _ _ _ h => h) (Or.inl ⟨by rfl, ?_⟩) hHeld ?_
  · intro w hSw; (try dsimp only at hSw); go_simp
  try simp only [Act.put, List.setIfInBounds_toArray, List.set_cons_zero, List.set_cons_succ]
  refine wpAnyH_takeD (i := 20) (d := some 72) (v := .bool true) rfl rfl (by kernel_rfl) (by kernel_rfl) (by kernel_rfl) (fun _ _ _ h => h) (Or.inl ⟨by rfl, ?_⟩) hHeld ?_
  · intro w hSw; (try dsimp only at hSw); go_simp
  try simp only [Act.put, List.setIfInBounds_toArray, List.set_cons_zero, List.set_cons_succ]
  refine wpAnyH_takeD (i := 21) (d := some 73) (v := .bool true) rfl rfl (by kernel_rfl) (by kernel_rfl) (by kernel_rfl) (fun _ _ _ h => h) (Or.inl ⟨by rfl, ?_⟩) hHeld ?_
  · intro w hSw; (try dsimp only at hSw); go_simp
  try simp only [Act.put, List.setIfInBounds_toArray, List.set_cons_zero, List.set_cons_succ]
  refine wpAnyH_takeD (i := 22) (d := some 74) (v := .bool true) rfl rfl (by kernel_rfl) (by kernel_rfl) (by kernel_rfl) (fun _ _ _ h => h) (Or.inl ⟨by rfl, ?_⟩) hHeld ?_
  · intro w hSw; (try dsimp only at hSw); go_simp
  try simp only [Act.put, List.setIfInBounds_toArray, List.set_cons_zero, List.set_cons_succ]
  refine wpAnyH_takeD (i := 23) (d := some 75) (v := .int .i64 0) rfl rfl (by kernel_rfl) (by kernel_rfl) (by kernel_rfl) (fun _ _ _ h => h) (Or.inl ⟨by rfl, ?_⟩) hHeld ?_
  · intro w hSw; (try dsimp only at hSw); go_simp
  try simp only [Act.put, List.setIfInBounds_toArray, List.set_cons_zero, List.set_cons_succ]
  refine wpAnyH_takeD (i := 24) (d := some 76) (v := .bool true) rfl rfl (by kernel_rfl) (by kernel_rfl) (by kernel_rfl) (fun _ _ _ h => h) (Or.inl ⟨by rfl, ?_⟩) hHeld ?_
  · intro w hSw; (try dsimp only at hSw); go_simp
  try simp only [Act.put, List.setIfInBounds_toArray, List.set_cons_zero, List.set_cons_succ]
  refine wpAnyH_takeD (i := 25) (d := some 77) (v := .bool true) rfl rfl (by kernel_rfl) (by kernel_rfl) (by kernel_rfl) (fun _ _ _ h => h) (Or.inl ⟨by rfl, ?_⟩) hHeld ?_
  · intro w hSw; (try dsimp only at hSw); go_simp
  try simp only [Act.put, List.setIfInBounds_toArray, List.set_cons_zero, List.set_cons_succ]
  refine wpAnyH_takeD (i := 26) (d := some 78) (v := .bool true) rfl rfl (by kernel_rfl) (by kernel_rfl) (by kernel_rfl) (fun _ _ _ h => h) (Or.inl ⟨by rfl, ?_⟩) hHeld ?_
  · intro w hSw; (try dsimp only at hSw); go_simp
  try simp only [Act.put, List.setIfInBounds_toArray, List.set_cons_zero, List.set_cons_succ]
  refine wpAnyH_takeD (i := 27) (d := some 79) (v := .slice (some ⟨gm, om, none⟩) 1 c6) rfl rfl (by kernel_rfl) (by kernel_rfl) (by kernel_rfl) (fun _ _ _ h => h) (Or.inl ⟨by rfl, ?_⟩) hHeld ?_
  · intro w hSw; (try dsimp only at hSw); go_simp
  try simp only [Act.put, List.setIfInBounds_toArray, List.set_cons_zero, List.set_cons_succ]
  refine wpAnyH_takeD (i := 28) (d := some 80) (v := .int .i64 1) rfl rfl (by kernel_rfl) (by kernel_rfl) (by kernel_rfl) (fun _ _ _ h => h) (Or.inl ⟨by rfl, ?_⟩) hHeld ?_
  · intro w hSw; (try dsimp only at hSw); go_simp
  try simp only [Act.put, List.setIfInBounds_toArray, List.set_cons_zero, List.set_cons_succ]
  refine wpAnyH_takeD (i := 29) (d := some 81) (v := .bool true) rfl rfl (by kernel_rfl) (by kernel_rfl) (by kernel_rfl) (fun _ _ _ h => h) (Or.inl ⟨by rfl, ?_⟩) hHeld ?_
  · intro w hSw; (try dsimp only at hSw); go_simp
  try simp only [Act.put, List.setIfInBounds_toArray, List.set_cons_zero, List.set_cons_succ]
  refine wpAnyH_takeD (i := 30) (d := some 82) (v := .bool true) rfl rfl (by kernel_rfl) (by kernel_rfl) (by kernel_rfl) (fun _ _ _ h => h) (Or.inl ⟨by rfl, ?_⟩) hHeld ?_
  · intro w hSw; (try dsimp only at hSw); go_simp
  try simp only [Act.put, List.setIfInBounds_toArray, List.set_cons_zero, List.set_cons_succ]
  refine wpAnyH_takeD (i := 31) (d := some 83) (v := .bool true) rfl rfl (by kernel_rfl) (by kernel_rfl) (by kernel_rfl) (fun _ _ _ h => h) (Or.inl ⟨by rfl, ?_⟩) hHeld ?_
  · intro w hSw; (try dsimp only at hSw); go_simp
  try simp only [Act.put, List.setIfInBounds_toArray, List.set_cons_zero, List.set_cons_succ]
  refine wpAnyH_takeD (i := 32) (d := some 84) (v := .slice (some ⟨gm, om, none⟩) 1 c6) rfl rfl (by kernel_rfl) (by kernel_rfl) (by kernel_rfl) (fun _ _ _ h => h) (Or.inl ⟨by rfl, ?_⟩) hHeld ?_
  · intro w hSw; (try dsimp only at hSw); go_simp
  try simp only [Act.put, List.setIfInBounds_toArray, List.set_cons_zero, List.set_cons_succ]
  refine wpAnyH_takeD (i := 33) (d := some 85) (v := .pointer (some ⟨gm, om, none⟩)) rfl rfl (by kernel_rfl) (by kernel_rfl) (by kernel_rfl) (fun _ _ _ h => h) (Or.inl ⟨by rfl, ?_⟩) hHeld ?_
  · intro w hSw; (try dsimp only at hSw); go_simp
  try simp only [Act.put, List.setIfInBounds_toArray, List.set_cons_zero, List.set_cons_succ]
  refine wpAnyH_takeD (i := 34) (d := some 86) (v := .pointer (some ⟨gm, om + 1, none⟩)) rfl rfl (by kernel_rfl) (by kernel_rfl) (by kernel_rfl) (fun _ _ _ h => h) (Or.inl ⟨by rfl, ?_⟩) hHeld ?_
  · intro w hSw; (try dsimp only at hSw); go_simp
  try simp only [Act.put, List.setIfInBounds_toArray, List.set_cons_zero, List.set_cons_succ]
  refine wpAnyH_takeD (i := 35) (d := some 87) (v := .int .i64 (-5)) rfl rfl (by kernel_rfl) (by kernel_rfl) (by kernel_rfl) (fun _ _ _ h => h) (Or.inl ⟨by rfl, ?_⟩) hHeld ?_
  · intro w hSw; (try dsimp only at hSw); go_simp
  try simp only [Act.put, List.setIfInBounds_toArray, List.set_cons_zero, List.set_cons_succ]
  refine wpAnyH_takeD (i := 36) (d := some 88) (v := .bool true) rfl rfl (by kernel_rfl) (by kernel_rfl) (by kernel_rfl) (fun _ _ _ h => h) (Or.inl ⟨by rfl, ?_⟩) hHeld ?_
  · intro w hSw; (try dsimp only at hSw); go_simp
  try simp only [Act.put, List.setIfInBounds_toArray, List.set_cons_zero, List.set_cons_succ]
  refine wpAnyH_takeD (i := 37) (d := some 89) (v := .bool true) rfl rfl (by kernel_rfl) (by kernel_rfl) (by kernel_rfl) (fun _ _ _ h => h) (Or.inl ⟨by rfl, ?_⟩) hHeld ?_
  · intro w hSw; (try dsimp only at hSw); go_simp
  try simp only [Act.put, List.setIfInBounds_toArray, List.set_cons_zero, List.set_cons_succ]
  refine wpAnyH_takeD (i := 38) (d := some 90) (v := .bool true) rfl rfl (by kernel_rfl) (by kernel_rfl) (by kernel_rfl) (fun _ _ _ h => h) (Or.inl ⟨by rfl, ?_⟩) hHeld ?_
  · intro w hSw; (try dsimp only at hSw); go_simp
  try simp only [Act.put, List.setIfInBounds_toArray, List.set_cons_zero, List.set_cons_succ]
  refine wpAnyH_takeD (i := 39) (d := some 91) (v := .int .i64 0) rfl rfl (by kernel_rfl) (by kernel_rfl) (by kernel_rfl) (fun _ _ _ h => h) (Or.inl ⟨by rfl, ?_⟩) hHeld ?_
  · intro w hSw; (try dsimp only at hSw); go_simp
  try simp only [Act.put, List.setIfInBounds_toArray, List.set_cons_zero, List.set_cons_succ]
  refine wpAnyH_takeD (i := 40) (d := some 92) (v := .bool true) rfl rfl (by kernel_rfl) (by kernel_rfl) (by kernel_rfl) (fun _ _ _ h => h) (Or.inl ⟨by rfl, ?_⟩) hHeld ?_
  · intro w hSw; (try dsimp only at hSw); go_simp
  try simp only [Act.put, List.setIfInBounds_toArray, List.set_cons_zero, List.set_cons_succ]
  refine wpAnyH_takeD (i := 41) (d := some 93) (v := .bool true) rfl rfl (by kernel_rfl) (by kernel_rfl) (by kernel_rfl) (fun _ _ _ h => h) (Or.inl ⟨by rfl, ?_⟩) hHeld ?_
  · intro w hSw; (try dsimp only at hSw); go_simp
  try simp only [Act.put, List.setIfInBounds_toArray, List.set_cons_zero, List.set_cons_succ]
  refine wpAnyH_takeD (i := 42) (d := some 94) (v := .bool true) rfl rfl (by kernel_rfl) (by kernel_rfl) (by kernel_rfl) (fun _ _ _ h => h) (Or.inl ⟨by rfl, ?_⟩) hHeld ?_
  · intro w hSw; (try dsimp only at hSw); go_simp
  try simp only [Act.put, List.setIfInBounds_toArray, List.set_cons_zero, List.set_cons_succ]
  refine wpAnyH_takeD (i := 43) (d := some 95) (v := .slice A8 0 c8) rfl rfl (by kernel_rfl) (by kernel_rfl) (by kernel_rfl) (fun _ _ _ h => h) (Or.inl ⟨by rfl, ?_⟩) hHeld ?_
  · intro w hSw; (try dsimp only at hSw); go_simp
  try simp only [Act.put, List.setIfInBounds_toArray, List.set_cons_zero, List.set_cons_succ]
  refine wpAnyH_takeD (i := 44) (d := some 96) (v := .int .i64 0) rfl rfl (by kernel_rfl) (by kernel_rfl) (by kernel_rfl) (fun _ _ _ h => h) (Or.inl ⟨by rfl, ?_⟩) hHeld ?_
  · intro w hSw; (try dsimp only at hSw); go_simp
  try simp only [Act.put, List.setIfInBounds_toArray, List.set_cons_zero, List.set_cons_succ]
  refine wpAnyH_takeD (i := 45) (d := some 97) (v := .bool true) rfl rfl (by kernel_rfl) (by kernel_rfl) (by kernel_rfl) (fun _ _ _ h => h) (Or.inl ⟨by rfl, ?_⟩) hHeld ?_
  · intro w hSw; (try dsimp only at hSw); go_simp
  try simp only [Act.put, List.setIfInBounds_toArray, List.set_cons_zero, List.set_cons_succ]
  refine wpAnyH_takeD (i := 46) (d := some 98) (v := .bool true) rfl rfl (by kernel_rfl) (by kernel_rfl) (by kernel_rfl) (fun _ _ _ h => h) (Or.inl ⟨by rfl, ?_⟩) hHeld ?_
  · intro w hSw; (try dsimp only at hSw); go_simp
  try simp only [Act.put, List.setIfInBounds_toArray, List.set_cons_zero, List.set_cons_succ]
  refine wpAnyH_takeD (i := 47) (d := some 99) (v := .bool true) rfl rfl (by kernel_rfl) (by kernel_rfl) (by kernel_rfl) (fun _ _ _ h => h) (Or.inl ⟨by rfl, ?_⟩) hHeld ?_
  · intro w hSw; (try dsimp only at hSw); go_simp
  try simp only [Act.put, List.setIfInBounds_toArray, List.set_cons_zero, List.set_cons_succ]
  refine wpAnyH_takeD (i := 48) (d := some 100) (v := .int .i64 13) rfl rfl (by kernel_rfl) (by kernel_rfl) (by kernel_rfl) (fun _ _ _ h => h) (Or.inl ⟨by rfl, ?_⟩) hHeld ?_
  · intro w hSw; (try dsimp only at hSw); go_simp
  try simp only [Act.put, List.setIfInBounds_toArray, List.set_cons_zero, List.set_cons_succ]
  refine wpAnyH_takeD (i := 49) (d := some 101) (v := .bool true) rfl rfl (by kernel_rfl) (by kernel_rfl) (by kernel_rfl) (fun _ _ _ h => h) (Or.inl ⟨by rfl, ?_⟩) hHeld ?_
  · intro w hSw; (try dsimp only at hSw); go_simp
  try simp only [Act.put, List.setIfInBounds_toArray, List.set_cons_zero, List.set_cons_succ]
  refine wpAnyH_takeD (i := 50) (d := some 102) (v := .bool true) rfl rfl (by kernel_rfl) (by kernel_rfl) (by kernel_rfl) (fun _ _ _ h => h) (Or.inl ⟨by rfl, ?_⟩) hHeld ?_
  · intro w hSw; (try dsimp only at hSw); go_simp
  try simp only [Act.put, List.setIfInBounds_toArray, List.set_cons_zero, List.set_cons_succ]
  refine wpAnyH_takeD (i := 51) (d := some 103) (v := .bool true) rfl rfl (by kernel_rfl) (by kernel_rfl) (by kernel_rfl) (fun _ _ _ h => h) (Or.inl ⟨by rfl, ?_⟩) hHeld ?_
  · intro w hSw; (try dsimp only at hSw); go_simp
  try simp only [Act.put, List.setIfInBounds_toArray, List.set_cons_zero, List.set_cons_succ]
  refine wpAnyH_takeD (i := 52) (d := some 104) (v := .agg #[.int .i64 3, .slice A5 1 c5, .bool true, .int .i64 2]) rfl rfl (by kernel_rfl) (by kernel_rfl) (by kernel_rfl) (fun _ _ _ h => h) (Or.inl ⟨by rfl, ?_⟩) hHeld ?_
  · intro w hSw; (try dsimp only at hSw); go_simp
  try simp only [Act.put, List.setIfInBounds_toArray, List.set_cons_zero, List.set_cons_succ]
  refine wpAnyH_ready (rs := [53]) (by kernel_rfl) (by simp) ?_
  refine AllReadyH.cons rfl (fun K hK => ?_) AllReadyH.nil
  go_simp
  refine hr.mono ?_
  rintro e w7 ⟨rfl, b7⟩
  go_wp2_with fail
  refine hK.out _ _ (HC.out _ (below_drew (W := V6) b7)) (fun hHeld => ?_)
  clear hK K
  try simp only [Act.put, List.setIfInBounds_toArray, List.set_cons_zero, List.set_cons_succ]
  refine wpAnyH_takeD (i := 54) (d := some 106) (v := .bool true) rfl rfl (by kernel_rfl) (by kernel_rfl) (by kernel_rfl) (fun _ _ _ h => h) (Or.inl ⟨by rfl, ?_⟩) hHeld ?_
  · intro w hSw; (try dsimp only at hSw); go_simp
  try simp only [Act.put, List.setIfInBounds_toArray, List.set_cons_zero, List.set_cons_succ]
  refine wpAnyH_takeD (i := 55) (d := some 107) (v := .bool true) rfl rfl (by kernel_rfl) (by kernel_rfl) (by kernel_rfl) (fun _ _ _ h => h) (Or.inl ⟨by rfl, ?_⟩) hHeld ?_
  · intro w hSw; (try dsimp only at hSw); go_simp
  try simp only [Act.put, List.setIfInBounds_toArray, List.set_cons_zero, List.set_cons_succ]
  refine wpAnyH_takeD (i := 56) (d := some 108) (v := .agg #[.int .i64 3, .slice A5 1 c5, .bool true, .int .i64 2]) rfl rfl (by kernel_rfl) (by kernel_rfl) (by kernel_rfl) (fun _ _ _ h => h) (Or.inl ⟨by rfl, ?_⟩) hHeld ?_
  · intro w hSw; (try dsimp only at hSw); go_simp
  try simp only [Act.put, List.setIfInBounds_toArray, List.set_cons_zero, List.set_cons_succ]
  refine wpAnyH_ready (rs := [57]) (by kernel_rfl) (by simp) ?_
  refine AllReadyH.cons rfl (fun K hK => ?_) AllReadyH.nil
  go_simp
  refine (effect_c 3 A5 1 c5 true 2 [⟨3, 5⟩] w7 (r10_a.drew.on b7) (by omega)).mono ?_
  rintro e w8 ⟨A11, n11, c11, rfl, hs8, b8⟩
  obtain rfl : 2 = n11 := al_8.symm.trans hs8.len
  go_wp2_with fail
  refine hK.out _ _ (HC.out _ (bel2 (below_drew (W := V6) b7) b8)) (fun hHeld => ?_)
  clear hK K
  try simp only [Act.put, List.setIfInBounds_toArray, List.set_cons_zero, List.set_cons_succ]
  refine wpAnyH_takeD (i := 58) (d := some 110) (v := .int .i64 2) rfl rfl (by kernel_rfl) (by kernel_rfl) (by kernel_rfl) (fun _ _ _ h => h) (Or.inl ⟨by rfl, ?_⟩) hHeld ?_
  · intro w hSw; (try dsimp only at hSw); go_simp
  try simp only [Act.put, List.setIfInBounds_toArray, List.set_cons_zero, List.set_cons_succ]
  refine wpAnyH_takeD (i := 59) (d := some 111) (v := .bool true) rfl rfl (by kernel_rfl) (by kernel_rfl) (by kernel_rfl) (fun _ _ _ h => h) (Or.inl ⟨by rfl, ?_⟩) hHeld ?_
  · intro w hSw; (try dsimp only at hSw); go_simp
  try simp only [Act.put, List.setIfInBounds_toArray, List.set_cons_zero, List.set_cons_succ]
  refine wpAnyH_takeD (i := 60) (d := some 112) (v := .bool true) rfl rfl (by kernel_rfl) (by kernel_rfl) (by kernel_rfl) (fun _ _ _ h => h) (Or.inl ⟨by rfl, ?_⟩) hHeld ?_
  · intro w hSw; (try dsimp only at hSw); go_simp
  try simp only [Act.put, List.setIfInBounds_toArray, List.set_cons_zero, List.set_cons_succ]
  refine wpAnyH_takeD (i := 61) (d := some 0) (v := .bool true) rfl rfl (by kernel_rfl) (by kernel_rfl) (by kernel_rfl) (fun _ _ _ h => h) (Or.inl ⟨by rfl, ?_⟩) hHeld ?_
  · intro w hSw; (try dsimp only at hSw); go_simp
  try simp only [Act.put, List.setIfInBounds_toArray, List.set_cons_zero, List.set_cons_succ]
  refine wpAnyH_done (by kernel_rfl) ?_ _
  have H := Lib.hid (bel2 (bel2 l10 (below_drew (W := V6) b7)) b8)
  clear b7 b8 hs8 hr
  go_wp2_with fail
  go_ret
  exact ⟨rfl, H.out⟩
end Go.Proofs.Ytmbmbodcmobllaa
