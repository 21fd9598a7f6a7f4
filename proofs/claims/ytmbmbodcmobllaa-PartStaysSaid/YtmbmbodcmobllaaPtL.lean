/-
  does of layer 9's laws, the document's side a part that is just begun. Condition: the deltas can be read, a thousand at most.
-/
import Derived.Test.YtmbmbodcmobllaaPtK
import Derived.Deep.CutRange
import Derived.Deep.RegionHeld3
set_option linter.unusedVariables false
set_option linter.unusedSimpArgs false
namespace Go.Proofs.Ytmbmbodcmobllaa
open Go.RowKit

set_option maxRecDepth 100000 in
set_option maxHeartbeats 4000000 in
theorem does0_c (s : Int) (A : Option Addr) (n c : Nat) (l : Bool) (o : Int) (L : List Dl) (a : Ac) (w : World) (h : DR w A n c L) (hn : n ≤ 1000)  :
    Calls Try.prog 10 #[.agg #[.int .i64 s, .slice A n c, .bool l, .int .i64 o], .agg #[.int .i64 0, .slice none 0 0, .bool false, .int .i64 0], av a] w (EPost w (stp ⟨s, L, l, o⟩ a) (chg ⟨s, L, l, o⟩ a) (fun _ _ => True)) := by
  have h' := RR.nil w dc 2
  obtain ⟨kd, dk, db, y, u⟩ := a
  dsimp only [av] at *
  obtain ⟨W, hW⟩ : ∃ W, ((((w.alloc (.cells #[.int .i64 s, .slice A n c, .bool l, .int .i64 o] 30)).alloc (.cells #[.int .i64 0, .slice none 0 0, .bool false, .int .i64 0] 24)).alloc (.cells #[.int .u8 kd, .int .u8 dk, .int .i64 db, .bool y, .int .i64 u] 28)).alloc (.cells #[.int .i64 0, .slice none 0 0, .bool false, .int .i64 0] 30)).alloc (.cells #[.int .i64 0, .slice none 0 0, .bool false, .int .i64 0] 24) = W := ⟨_, rfl⟩
  have hp : PB W (w.heap.size) 30 s A n c l o := by
    rw [← hW]
    have := (((((PB.new w 30 s A n c l o).alloc (.cells #[.int .i64 0, .slice none 0 0, .bool false, .int .i64 0] 24)).alloc (.cells #[.int .u8 kd, .int .u8 dk, .int .i64 db, .bool y, .int .i64 u] 28)).alloc (.cells #[.int .i64 0, .slice none 0 0, .bool false, .int .i64 0] 30)).alloc (.cells #[.int .i64 0, .slice none 0 0, .bool false, .int .i64 0] 24))
    simpa using this
  have hm : PB W (w.heap.size + 1) 24 0 none 0 0 false 0 := by
    rw [← hW]
    have := ((((PB.new (w.alloc (.cells #[.int .i64 s, .slice A n c, .bool l, .int .i64 o] 30)) 24 0 none 0 0 false 0).alloc (.cells #[.int .u8 kd, .int .u8 dk, .int .i64 db, .bool y, .int .i64 u] 28)).alloc (.cells #[.int .i64 0, .slice none 0 0, .bool false, .int .i64 0] 30)).alloc (.cells #[.int .i64 0, .slice none 0 0, .bool false, .int .i64 0] 24))
    simpa using this
  have ha : CB W (w.heap.size + 1 + 1) 28 #[.int .u8 kd, .int .u8 dk, .int .i64 db, .bool y, .int .i64 u] := by
    rw [← hW]
    have := (((CB.new ((w.alloc (.cells #[.int .i64 s, .slice A n c, .bool l, .int .i64 o] 30)).alloc (.cells #[.int .i64 0, .slice none 0 0, .bool false, .int .i64 0] 24)) 28 #[.int .u8 kd, .int .u8 dk, .int .i64 db, .bool y, .int .i64 u]).alloc (.cells #[.int .i64 0, .slice none 0 0, .bool false, .int .i64 0] 30)).alloc (.cells #[.int .i64 0, .slice none 0 0, .bool false, .int .i64 0] 24))
    simpa using this
  have hr : PB W (w.heap.size + 1 + 1 + 1) 30 0 none 0 0 false 0 := by
    rw [← hW]
    have := ((PB.new (((w.alloc (.cells #[.int .i64 s, .slice A n c, .bool l, .int .i64 o] 30)).alloc (.cells #[.int .i64 0, .slice none 0 0, .bool false, .int .i64 0] 24)).alloc (.cells #[.int .u8 kd, .int .u8 dk, .int .i64 db, .bool y, .int .i64 u] 28)) 30 0 none 0 0 false 0).alloc (.cells #[.int .i64 0, .slice none 0 0, .bool false, .int .i64 0] 24))
    simpa using this
  have hz : PB W (w.heap.size + 1 + 1 + 1 + 1) 24 0 none 0 0 false 0 := by
    rw [← hW]
    have := (PB.new ((((w.alloc (.cells #[.int .i64 s, .slice A n c, .bool l, .int .i64 o] 30)).alloc (.cells #[.int .i64 0, .slice none 0 0, .bool false, .int .i64 0] 24)).alloc (.cells #[.int .u8 kd, .int .u8 dk, .int .i64 db, .bool y, .int .i64 u] 28)).alloc (.cells #[.int .i64 0, .slice none 0 0, .bool false, .int .i64 0] 30)) 24 0 none 0 0 false 0)
    simpa using this
  have hb : Below w.heap.size w W := by rw [← hW]; exact bel2 (bel2 (bel2 (bel2 (belA _ _) (belA _ _)) (belA _ _)) (belA _ _)) (belA _ _)
  have hS := Lib.hid (show W.heap.size = w.heap.size + 5 by rw [← hW]; simp)
  have HW := Lib.hid hW
  clear hW
  have hd := h.on hb
  have hd' := h'.on hb
  have Hb := Lib.hid hb
  by_cases hk : kd.tmod 6 = 2
  · have k2b : (kd.tmod 6 == 2) = true := by simp [hk]
    have k5b : (kd.tmod 6 == 5) = false := by simp [hk]
    cases y with
    | false =>
      obtain ⟨S1, S2⟩ := st_vote (a := ⟨kd, dk, db, false, u⟩) (p := ⟨s, L, l, o⟩) (y := false) (.inl ⟨hk, rfl⟩)
      clear hk
      rw [S1, S2]
      clear S1 S2
      obtain ⟨X, hX⟩ : ∃ X, sVote ⟨s, L, l, o⟩ false = X := ⟨_, rfl⟩
      obtain ⟨E, hE⟩ : ∃ E, eVote ⟨s, L, l, o⟩ = E := ⟨_, rfl⟩
      obtain ⟨Y, hY⟩ : ∃ Y, sVote ⟨0, [], false, 0⟩ false = Y := ⟨_, rfl⟩
      obtain ⟨F, hF⟩ : ∃ F, eVote ⟨0, [], false, 0⟩ = F := ⟨_, rfl⟩
      rw [hX]
      have a0 := ha.cell 0
      have a1 := ha.cell 1
      have a2 := ha.cell 2
      have a3 := ha.cell 3
      have a4 := ha.cell 4
      simp only [List.getElem?_toArray, List.getElem?_cons_zero, List.getElem?_cons_succ] at a0 a1 a2 a3 a4
      obtain ⟨cp0, cp1, cp2, cp3⟩ := hp.cells
      go_enter Try.func10, Try.ntmps10
      go_upto_region 1 with fail
      rw [HW.out]
      have hc := vote_c s A n c l o false L W hd hn
      rw [hX, hE] at hc
      go_wp2_with fail
      refine hc.mono ?_
      rintro e w1 ⟨A1, n1, c1, rfl, d1, b1, fr1⟩
      clear cp0 cp1 cp2 cp3
      clear hc a0 a1 a2 a3 a4
      have HbW := Lib.hid b1
      have r1_p := hp.on b1
      have r1_m := hm.on b1
      have r1_a := ha.on b1
      have r1_r := hr.on b1
      have r1_z := hz.on b1
      have r1_d := hd.on b1
      have r1_e := hd'.on b1
      have l1 := bel2 hb b1
      clear b1 hp hm ha hr hz hd hd' hb
      have HN := Lib.hid (show w.heap.size + 5 ≤ w1.heap.size by have := hS.out; have := HbW.out.size; omega)
      have Fr1 := Lib.hid (fr1.mono Hb.out.size)
      clear fr1
      obtain ⟨V, hV⟩ : ∃ V, w1.alloc (.cells #[.int .i64 X.st, .slice A1 n1 c1, .bool X.lo, .int .i64 X.ou] 30) = V := ⟨_, rfl⟩
      have bV : Below w1.heap.size w1 V := by rw [← hV]; exact belA _ _
      have nV := PB.new w1 30 X.st A1 n1 c1 X.lo X.ou
      rw [hV] at nV
      have HV := Lib.hid hV
      clear hV
      have r2_p := r1_p.on bV
      have r2_m := r1_m.on bV
      have r2_a := r1_a.on bV
      have r2_r := r1_r.on bV
      have r2_z := r1_z.on bV
      have r2_d := r1_d.on bV
      have r2_e := r1_e.on bV
      have r2_g := d1.on bV
      have l2 := bel2 l1 bV
      clear bV r1_p r1_m r1_a r1_r r1_z r1_d r1_e d1 l1
      have a0 := r2_a.cell 0
      have a1 := r2_a.cell 1
      have a2 := r2_a.cell 2
      have a3 := r2_a.cell 3
      have a4 := r2_a.cell 4
      simp only [List.getElem?_toArray, List.getElem?_cons_zero, List.getElem?_cons_succ] at a0 a1 a2 a3 a4
      obtain ⟨cp0, cp1, cp2, cp3⟩ := r2_m.cells
      have hc := voteR_c 0 none 0 0 false 0 false [] V r2_e (by omega)
      rw [hY, hF] at hc
      go_upto_region 6 with fail
      rw [HV.out]
      go_wp2_with fail
      refine hc.mono ?_
      rintro e w2 ⟨A2, n2, c2, rfl, d2, b2, _⟩
      clear cp0 cp1 cp2 cp3
      clear hc a0 a1 a2 a3 a4
      have HVs := Lib.hid b2.size
      have HVt := Lib.hid nV.lt
      have r3_r := r2_r.on b2
      have r3_z := r2_z.on b2
      have r3_g := r2_g.on b2
      have r3_x := nV.on b2
      have l3 := bel2 l2 b2
      clear b2 r2_p r2_m r2_a r2_r r2_z r2_d r2_e r2_g nV l2
      obtain ⟨V2, hV2⟩ : ∃ V, w2.alloc (.cells #[.int .i64 Y.st, .slice A2 n2 c2, .bool Y.lo, .int .i64 Y.ou] 24) = V := ⟨_, rfl⟩
      have bV2 : Below w2.heap.size w2 V2 := by rw [← hV2]; exact belA _ _
      have nV2 := PB.new w2 24 Y.st A2 n2 c2 Y.lo Y.ou
      rw [hV2] at nV2
      have HV2 := Lib.hid hV2
      clear hV2
      have r4_r := r3_r.on bV2
      have r4_z := r3_z.on bV2
      have r4_g := r3_g.on bV2
      have r4_x := r3_x.on bV2
      have r4_y := d2.on bV2
      have l4 := bel2 l3 bV2
      clear bV2 r3_r r3_z r3_g r3_x d2 l3
      obtain ⟨cp0, cp1, cp2, cp3⟩ := r4_x.cells
      obtain ⟨cq0, cq1, cq2, cq3⟩ := nV2.cells
      obtain ⟨cr0, cr1, cr2, cr3⟩ := r4_r.cells
      obtain ⟨fr0, fr1, fr2, fr3⟩ := r4_r.froz
      obtain ⟨cz0, cz1, cz2, cz3⟩ := r4_z.cells
      obtain ⟨fz0, fz1, fz2, fz3⟩ := r4_z.froz
      obtain ⟨Ua, hUa, pUa, kUa⟩ := store_end r4_r Try.neP X.st A1 n1 c1 X.lo X.ou
      obtain ⟨ya0, ya1, ya2, ya3⟩ := (show PB Ua _ _ _ _ _ _ _ _ from kUa.cb _ _ _ (by have := HN.out; have := HVt.out; have := HVs.out; omega) nV2).cells
      obtain ⟨za0, za1, za2, za3⟩ := (show PB Ua _ _ _ _ _ _ _ _ from kUa.cb _ _ _ (by omega) r4_z).cells
      obtain ⟨zf0, zf1, zf2, zf3⟩ := (show PB Ua _ _ _ _ _ _ _ _ from kUa.cb _ _ _ (by omega) r4_z).froz
      obtain ⟨Uc, hUc, pUc, kUc⟩ := store_end (show PB Ua _ _ _ _ _ _ _ _ from kUa.cb _ _ _ (by omega) r4_z) Try.neR Y.st A2 n2 c2 Y.lo Y.ou
      obtain ⟨u0, u1, u2, u3⟩ := (show PB Uc _ _ _ _ _ _ _ _ from kUc.cb _ _ _ (by omega) pUa).cells
      obtain ⟨v0, v1, v2, v3⟩ := pUc.cells
      have H := Lib.hid (show EPost w X [] (fun _ _ => True) (.returned (.tuple #[.agg #[.int .i64 X.st, .slice A1 n1 c1, .bool X.lo, .int .i64 X.ou], .agg #[.int .i64 Y.st, .slice A2 n2 c2, .bool Y.lo, .int .i64 Y.ou], .slice none 0 0, .bool (E == F)])) Uc.drew from ⟨A1, n1, c1, Y, A2, n2, c2, none, 0, 0, _, rfl, (kUc.dr _ _ _ _ (kUa.dr _ _ _ _ r4_g)).drew, (kUc.dr _ _ _ _ (kUa.dr _ _ _ _ r4_y)).drew, RR.nil _ _ _, belowD (kUc.low _ _ (kUa.low _ _ l4 (by omega)) (by omega)), Fr1.out, trivial⟩)
      clear kUa kUc pUa pUc
      go_upto_region 7 with fail
      rw [HV2.out]
      go_region
      go_wp2_with fail
      exact bodyPost_ret (v := .tuple #[.agg #[.int .i64 X.st, .slice A1 n1 c1, .bool X.lo, .int .i64 X.ou], .agg #[.int .i64 Y.st, .slice A2 n2 c2, .bool Y.lo, .int .i64 Y.ou], .slice none 0 0, .bool (E == F)]) (by simp [results, Try.results10, go_sem, u0, u1, u2, u3, v0, v1, v2, v3]) rfl H.out
    | true =>
      obtain ⟨S1, S2⟩ := st_vote (a := ⟨kd, dk, db, true, u⟩) (p := ⟨s, L, l, o⟩) (y := true) (.inl ⟨hk, rfl⟩)
      clear hk
      rw [S1, S2]
      clear S1 S2
      obtain ⟨X, hX⟩ : ∃ X, sVote ⟨s, L, l, o⟩ true = X := ⟨_, rfl⟩
      obtain ⟨E, hE⟩ : ∃ E, eVote ⟨s, L, l, o⟩ = E := ⟨_, rfl⟩
      obtain ⟨Y, hY⟩ : ∃ Y, sVote ⟨0, [], false, 0⟩ true = Y := ⟨_, rfl⟩
      obtain ⟨F, hF⟩ : ∃ F, eVote ⟨0, [], false, 0⟩ = F := ⟨_, rfl⟩
      rw [hX]
      have a0 := ha.cell 0
      have a1 := ha.cell 1
      have a2 := ha.cell 2
      have a3 := ha.cell 3
      have a4 := ha.cell 4
      simp only [List.getElem?_toArray, List.getElem?_cons_zero, List.getElem?_cons_succ] at a0 a1 a2 a3 a4
      obtain ⟨cp0, cp1, cp2, cp3⟩ := hp.cells
      go_enter Try.func10, Try.ntmps10
      go_upto_region 1 with fail
      rw [HW.out]
      have hc := vote_c s A n c l o true L W hd hn
      rw [hX, hE] at hc
      go_wp2_with fail
      refine hc.mono ?_
      rintro e w1 ⟨A1, n1, c1, rfl, d1, b1, fr1⟩
      clear cp0 cp1 cp2 cp3
      clear hc a0 a1 a2 a3 a4
      have HbW := Lib.hid b1
      have r5_p := hp.on b1
      have r5_m := hm.on b1
      have r5_a := ha.on b1
      have r5_r := hr.on b1
      have r5_z := hz.on b1
      have r5_d := hd.on b1
      have r5_e := hd'.on b1
      have l5 := bel2 hb b1
      clear b1 hp hm ha hr hz hd hd' hb
      have HN := Lib.hid (show w.heap.size + 5 ≤ w1.heap.size by have := hS.out; have := HbW.out.size; omega)
      have Fr1 := Lib.hid (fr1.mono Hb.out.size)
      clear fr1
      obtain ⟨V, hV⟩ : ∃ V, w1.alloc (.cells #[.int .i64 X.st, .slice A1 n1 c1, .bool X.lo, .int .i64 X.ou] 30) = V := ⟨_, rfl⟩
      have bV : Below w1.heap.size w1 V := by rw [← hV]; exact belA _ _
      have nV := PB.new w1 30 X.st A1 n1 c1 X.lo X.ou
      rw [hV] at nV
      have HV := Lib.hid hV
      clear hV
      have r6_p := r5_p.on bV
      have r6_m := r5_m.on bV
      have r6_a := r5_a.on bV
      have r6_r := r5_r.on bV
      have r6_z := r5_z.on bV
      have r6_d := r5_d.on bV
      have r6_e := r5_e.on bV
      have r6_g := d1.on bV
      have l6 := bel2 l5 bV
      clear bV r5_p r5_m r5_a r5_r r5_z r5_d r5_e d1 l5
      have a0 := r6_a.cell 0
      have a1 := r6_a.cell 1
      have a2 := r6_a.cell 2
      have a3 := r6_a.cell 3
      have a4 := r6_a.cell 4
      simp only [List.getElem?_toArray, List.getElem?_cons_zero, List.getElem?_cons_succ] at a0 a1 a2 a3 a4
      obtain ⟨cp0, cp1, cp2, cp3⟩ := r6_m.cells
      have hc := voteR_c 0 none 0 0 false 0 true [] V r6_e (by omega)
      rw [hY, hF] at hc
      go_upto_region 6 with fail
      rw [HV.out]
      go_wp2_with fail
      refine hc.mono ?_
      rintro e w2 ⟨A2, n2, c2, rfl, d2, b2, _⟩
      clear cp0 cp1 cp2 cp3
      clear hc a0 a1 a2 a3 a4
      have HVs := Lib.hid b2.size
      have HVt := Lib.hid nV.lt
      have r7_r := r6_r.on b2
      have r7_z := r6_z.on b2
      have r7_g := r6_g.on b2
      have r7_x := nV.on b2
      have l7 := bel2 l6 b2
      clear b2 r6_p r6_m r6_a r6_r r6_z r6_d r6_e r6_g nV l6
      obtain ⟨V2, hV2⟩ : ∃ V, w2.alloc (.cells #[.int .i64 Y.st, .slice A2 n2 c2, .bool Y.lo, .int .i64 Y.ou] 24) = V := ⟨_, rfl⟩
      have bV2 : Below w2.heap.size w2 V2 := by rw [← hV2]; exact belA _ _
      have nV2 := PB.new w2 24 Y.st A2 n2 c2 Y.lo Y.ou
      rw [hV2] at nV2
      have HV2 := Lib.hid hV2
      clear hV2
      have r8_r := r7_r.on bV2
      have r8_z := r7_z.on bV2
      have r8_g := r7_g.on bV2
      have r8_x := r7_x.on bV2
      have r8_y := d2.on bV2
      have l8 := bel2 l7 bV2
      clear bV2 r7_r r7_z r7_g r7_x d2 l7
      obtain ⟨cp0, cp1, cp2, cp3⟩ := r8_x.cells
      obtain ⟨cq0, cq1, cq2, cq3⟩ := nV2.cells
      obtain ⟨cr0, cr1, cr2, cr3⟩ := r8_r.cells
      obtain ⟨fr0, fr1, fr2, fr3⟩ := r8_r.froz
      obtain ⟨cz0, cz1, cz2, cz3⟩ := r8_z.cells
      obtain ⟨fz0, fz1, fz2, fz3⟩ := r8_z.froz
      obtain ⟨Ua, hUa, pUa, kUa⟩ := store_end r8_r Try.neP X.st A1 n1 c1 X.lo X.ou
      obtain ⟨ya0, ya1, ya2, ya3⟩ := (show PB Ua _ _ _ _ _ _ _ _ from kUa.cb _ _ _ (by have := HN.out; have := HVt.out; have := HVs.out; omega) nV2).cells
      obtain ⟨za0, za1, za2, za3⟩ := (show PB Ua _ _ _ _ _ _ _ _ from kUa.cb _ _ _ (by omega) r8_z).cells
      obtain ⟨zf0, zf1, zf2, zf3⟩ := (show PB Ua _ _ _ _ _ _ _ _ from kUa.cb _ _ _ (by omega) r8_z).froz
      obtain ⟨Uc, hUc, pUc, kUc⟩ := store_end (show PB Ua _ _ _ _ _ _ _ _ from kUa.cb _ _ _ (by omega) r8_z) Try.neR Y.st A2 n2 c2 Y.lo Y.ou
      obtain ⟨u0, u1, u2, u3⟩ := (show PB Uc _ _ _ _ _ _ _ _ from kUc.cb _ _ _ (by omega) pUa).cells
      obtain ⟨v0, v1, v2, v3⟩ := pUc.cells
      have H := Lib.hid (show EPost w X [] (fun _ _ => True) (.returned (.tuple #[.agg #[.int .i64 X.st, .slice A1 n1 c1, .bool X.lo, .int .i64 X.ou], .agg #[.int .i64 Y.st, .slice A2 n2 c2, .bool Y.lo, .int .i64 Y.ou], .slice none 0 0, .bool (E == F)])) Uc.drew from ⟨A1, n1, c1, Y, A2, n2, c2, none, 0, 0, _, rfl, (kUc.dr _ _ _ _ (kUa.dr _ _ _ _ r8_g)).drew, (kUc.dr _ _ _ _ (kUa.dr _ _ _ _ r8_y)).drew, RR.nil _ _ _, belowD (kUc.low _ _ (kUa.low _ _ l8 (by omega)) (by omega)), Fr1.out, trivial⟩)
      clear kUa kUc pUa pUc
      go_upto_region 7 with fail
      rw [HV2.out]
      go_region
      go_wp2_with fail
      exact bodyPost_ret (v := .tuple #[.agg #[.int .i64 X.st, .slice A1 n1 c1, .bool X.lo, .int .i64 X.ou], .agg #[.int .i64 Y.st, .slice A2 n2 c2, .bool Y.lo, .int .i64 Y.ou], .slice none 0 0, .bool (E == F)]) (by simp [results, Try.results10, go_sem, u0, u1, u2, u3, v0, v1, v2, v3]) rfl H.out
  have h2 : ¬ kd.tmod 6 = 2 := hk
  clear hk
  have k2b : (kd.tmod 6 == 2) = false := by simp [h2]
  by_cases hk : kd.tmod 6 = 5
  · have k5b : (kd.tmod 6 == 5) = true := by simp [hk]
    clear h2
    cases y with
    | false =>
      obtain ⟨S1, S2⟩ := st_vote (a := ⟨kd, dk, db, false, u⟩) (p := ⟨s, L, l, o⟩) (y := true) (.inr ⟨hk, rfl⟩)
      clear hk
      rw [S1, S2]
      clear S1 S2
      obtain ⟨X, hX⟩ : ∃ X, sVote ⟨s, L, l, o⟩ true = X := ⟨_, rfl⟩
      obtain ⟨E, hE⟩ : ∃ E, eVote ⟨s, L, l, o⟩ = E := ⟨_, rfl⟩
      obtain ⟨Y, hY⟩ : ∃ Y, sVote ⟨0, [], false, 0⟩ true = Y := ⟨_, rfl⟩
      obtain ⟨F, hF⟩ : ∃ F, eVote ⟨0, [], false, 0⟩ = F := ⟨_, rfl⟩
      rw [hX]
      have a0 := ha.cell 0
      have a1 := ha.cell 1
      have a2 := ha.cell 2
      have a3 := ha.cell 3
      have a4 := ha.cell 4
      simp only [List.getElem?_toArray, List.getElem?_cons_zero, List.getElem?_cons_succ] at a0 a1 a2 a3 a4
      obtain ⟨cp0, cp1, cp2, cp3⟩ := hp.cells
      go_enter Try.func10, Try.ntmps10
      go_upto_region 1 with fail
      rw [HW.out]
      have hc := vote_c s A n c l o true L W hd hn
      rw [hX, hE] at hc
      go_wp2_with fail
      refine hc.mono ?_
      rintro e w1 ⟨A1, n1, c1, rfl, d1, b1, fr1⟩
      clear cp0 cp1 cp2 cp3
      clear hc a0 a1 a2 a3 a4
      have HbW := Lib.hid b1
      have r9_p := hp.on b1
      have r9_m := hm.on b1
      have r9_a := ha.on b1
      have r9_r := hr.on b1
      have r9_z := hz.on b1
      have r9_d := hd.on b1
      have r9_e := hd'.on b1
      have l9 := bel2 hb b1
      clear b1 hp hm ha hr hz hd hd' hb
      have HN := Lib.hid (show w.heap.size + 5 ≤ w1.heap.size by have := hS.out; have := HbW.out.size; omega)
      have Fr1 := Lib.hid (fr1.mono Hb.out.size)
      clear fr1
      obtain ⟨V, hV⟩ : ∃ V, w1.alloc (.cells #[.int .i64 X.st, .slice A1 n1 c1, .bool X.lo, .int .i64 X.ou] 30) = V := ⟨_, rfl⟩
      have bV : Below w1.heap.size w1 V := by rw [← hV]; exact belA _ _
      have nV := PB.new w1 30 X.st A1 n1 c1 X.lo X.ou
      rw [hV] at nV
      have HV := Lib.hid hV
      clear hV
      have r10_p := r9_p.on bV
      have r10_m := r9_m.on bV
      have r10_a := r9_a.on bV
      have r10_r := r9_r.on bV
      have r10_z := r9_z.on bV
      have r10_d := r9_d.on bV
      have r10_e := r9_e.on bV
      have r10_g := d1.on bV
      have l10 := bel2 l9 bV
      clear bV r9_p r9_m r9_a r9_r r9_z r9_d r9_e d1 l9
      have a0 := r10_a.cell 0
      have a1 := r10_a.cell 1
      have a2 := r10_a.cell 2
      have a3 := r10_a.cell 3
      have a4 := r10_a.cell 4
      simp only [List.getElem?_toArray, List.getElem?_cons_zero, List.getElem?_cons_succ] at a0 a1 a2 a3 a4
      obtain ⟨cp0, cp1, cp2, cp3⟩ := r10_m.cells
      have hc := voteR_c 0 none 0 0 false 0 true [] V r10_e (by omega)
      rw [hY, hF] at hc
      go_upto_region 6 with fail
      rw [HV.out]
      go_wp2_with fail
      refine hc.mono ?_
      rintro e w2 ⟨A2, n2, c2, rfl, d2, b2, _⟩
      clear cp0 cp1 cp2 cp3
      clear hc a0 a1 a2 a3 a4
      have HVs := Lib.hid b2.size
      have HVt := Lib.hid nV.lt
      have r11_r := r10_r.on b2
      have r11_z := r10_z.on b2
      have r11_g := r10_g.on b2
      have r11_x := nV.on b2
      have l11 := bel2 l10 b2
      clear b2 r10_p r10_m r10_a r10_r r10_z r10_d r10_e r10_g nV l10
      obtain ⟨V2, hV2⟩ : ∃ V, w2.alloc (.cells #[.int .i64 Y.st, .slice A2 n2 c2, .bool Y.lo, .int .i64 Y.ou] 24) = V := ⟨_, rfl⟩
      have bV2 : Below w2.heap.size w2 V2 := by rw [← hV2]; exact belA _ _
      have nV2 := PB.new w2 24 Y.st A2 n2 c2 Y.lo Y.ou
      rw [hV2] at nV2
      have HV2 := Lib.hid hV2
      clear hV2
      have r12_r := r11_r.on bV2
      have r12_z := r11_z.on bV2
      have r12_g := r11_g.on bV2
      have r12_x := r11_x.on bV2
      have r12_y := d2.on bV2
      have l12 := bel2 l11 bV2
      clear bV2 r11_r r11_z r11_g r11_x d2 l11
      obtain ⟨cp0, cp1, cp2, cp3⟩ := r12_x.cells
      obtain ⟨cq0, cq1, cq2, cq3⟩ := nV2.cells
      obtain ⟨cr0, cr1, cr2, cr3⟩ := r12_r.cells
      obtain ⟨fr0, fr1, fr2, fr3⟩ := r12_r.froz
      obtain ⟨cz0, cz1, cz2, cz3⟩ := r12_z.cells
      obtain ⟨fz0, fz1, fz2, fz3⟩ := r12_z.froz
      obtain ⟨Ua, hUa, pUa, kUa⟩ := store_end r12_r Try.neP X.st A1 n1 c1 X.lo X.ou
      obtain ⟨ya0, ya1, ya2, ya3⟩ := (show PB Ua _ _ _ _ _ _ _ _ from kUa.cb _ _ _ (by have := HN.out; have := HVt.out; have := HVs.out; omega) nV2).cells
      obtain ⟨za0, za1, za2, za3⟩ := (show PB Ua _ _ _ _ _ _ _ _ from kUa.cb _ _ _ (by omega) r12_z).cells
      obtain ⟨zf0, zf1, zf2, zf3⟩ := (show PB Ua _ _ _ _ _ _ _ _ from kUa.cb _ _ _ (by omega) r12_z).froz
      obtain ⟨Uc, hUc, pUc, kUc⟩ := store_end (show PB Ua _ _ _ _ _ _ _ _ from kUa.cb _ _ _ (by omega) r12_z) Try.neR Y.st A2 n2 c2 Y.lo Y.ou
      obtain ⟨u0, u1, u2, u3⟩ := (show PB Uc _ _ _ _ _ _ _ _ from kUc.cb _ _ _ (by omega) pUa).cells
      obtain ⟨v0, v1, v2, v3⟩ := pUc.cells
      have H := Lib.hid (show EPost w X [] (fun _ _ => True) (.returned (.tuple #[.agg #[.int .i64 X.st, .slice A1 n1 c1, .bool X.lo, .int .i64 X.ou], .agg #[.int .i64 Y.st, .slice A2 n2 c2, .bool Y.lo, .int .i64 Y.ou], .slice none 0 0, .bool (E == F)])) Uc.drew from ⟨A1, n1, c1, Y, A2, n2, c2, none, 0, 0, _, rfl, (kUc.dr _ _ _ _ (kUa.dr _ _ _ _ r12_g)).drew, (kUc.dr _ _ _ _ (kUa.dr _ _ _ _ r12_y)).drew, RR.nil _ _ _, belowD (kUc.low _ _ (kUa.low _ _ l12 (by omega)) (by omega)), Fr1.out, trivial⟩)
      clear kUa kUc pUa pUc
      go_upto_region 7 with fail
      rw [HV2.out]
      go_region
      go_wp2_with fail
      exact bodyPost_ret (v := .tuple #[.agg #[.int .i64 X.st, .slice A1 n1 c1, .bool X.lo, .int .i64 X.ou], .agg #[.int .i64 Y.st, .slice A2 n2 c2, .bool Y.lo, .int .i64 Y.ou], .slice none 0 0, .bool (E == F)]) (by simp [results, Try.results10, go_sem, u0, u1, u2, u3, v0, v1, v2, v3]) rfl H.out
    | true =>
      obtain ⟨S1, S2⟩ := st_vote (a := ⟨kd, dk, db, true, u⟩) (p := ⟨s, L, l, o⟩) (y := true) (.inr ⟨hk, rfl⟩)
      clear hk
      rw [S1, S2]
      clear S1 S2
      obtain ⟨X, hX⟩ : ∃ X, sVote ⟨s, L, l, o⟩ true = X := ⟨_, rfl⟩
      obtain ⟨E, hE⟩ : ∃ E, eVote ⟨s, L, l, o⟩ = E := ⟨_, rfl⟩
      obtain ⟨Y, hY⟩ : ∃ Y, sVote ⟨0, [], false, 0⟩ true = Y := ⟨_, rfl⟩
      obtain ⟨F, hF⟩ : ∃ F, eVote ⟨0, [], false, 0⟩ = F := ⟨_, rfl⟩
      rw [hX]
      have a0 := ha.cell 0
      have a1 := ha.cell 1
      have a2 := ha.cell 2
      have a3 := ha.cell 3
      have a4 := ha.cell 4
      simp only [List.getElem?_toArray, List.getElem?_cons_zero, List.getElem?_cons_succ] at a0 a1 a2 a3 a4
      obtain ⟨cp0, cp1, cp2, cp3⟩ := hp.cells
      go_enter Try.func10, Try.ntmps10
      go_upto_region 1 with fail
      rw [HW.out]
      have hc := vote_c s A n c l o true L W hd hn
      rw [hX, hE] at hc
      go_wp2_with fail
      refine hc.mono ?_
      rintro e w1 ⟨A1, n1, c1, rfl, d1, b1, fr1⟩
      clear cp0 cp1 cp2 cp3
      clear hc a0 a1 a2 a3 a4
      have HbW := Lib.hid b1
      have r13_p := hp.on b1
      have r13_m := hm.on b1
      have r13_a := ha.on b1
      have r13_r := hr.on b1
      have r13_z := hz.on b1
      have r13_d := hd.on b1
      have r13_e := hd'.on b1
      have l13 := bel2 hb b1
      clear b1 hp hm ha hr hz hd hd' hb
      have HN := Lib.hid (show w.heap.size + 5 ≤ w1.heap.size by have := hS.out; have := HbW.out.size; omega)
      have Fr1 := Lib.hid (fr1.mono Hb.out.size)
      clear fr1
      obtain ⟨V, hV⟩ : ∃ V, w1.alloc (.cells #[.int .i64 X.st, .slice A1 n1 c1, .bool X.lo, .int .i64 X.ou] 30) = V := ⟨_, rfl⟩
      have bV : Below w1.heap.size w1 V := by rw [← hV]; exact belA _ _
      have nV := PB.new w1 30 X.st A1 n1 c1 X.lo X.ou
      rw [hV] at nV
      have HV := Lib.hid hV
      clear hV
      have r14_p := r13_p.on bV
      have r14_m := r13_m.on bV
      have r14_a := r13_a.on bV
      have r14_r := r13_r.on bV
      have r14_z := r13_z.on bV
      have r14_d := r13_d.on bV
      have r14_e := r13_e.on bV
      have r14_g := d1.on bV
      have l14 := bel2 l13 bV
      clear bV r13_p r13_m r13_a r13_r r13_z r13_d r13_e d1 l13
      have a0 := r14_a.cell 0
      have a1 := r14_a.cell 1
      have a2 := r14_a.cell 2
      have a3 := r14_a.cell 3
      have a4 := r14_a.cell 4
      simp only [List.getElem?_toArray, List.getElem?_cons_zero, List.getElem?_cons_succ] at a0 a1 a2 a3 a4
      obtain ⟨cp0, cp1, cp2, cp3⟩ := r14_m.cells
      have hc := voteR_c 0 none 0 0 false 0 true [] V r14_e (by omega)
      rw [hY, hF] at hc
      go_upto_region 6 with fail
      rw [HV.out]
      go_wp2_with fail
      refine hc.mono ?_
      rintro e w2 ⟨A2, n2, c2, rfl, d2, b2, _⟩
      clear cp0 cp1 cp2 cp3
      clear hc a0 a1 a2 a3 a4
      have HVs := Lib.hid b2.size
      have HVt := Lib.hid nV.lt
      have r15_r := r14_r.on b2
      have r15_z := r14_z.on b2
      have r15_g := r14_g.on b2
      have r15_x := nV.on b2
      have l15 := bel2 l14 b2
      clear b2 r14_p r14_m r14_a r14_r r14_z r14_d r14_e r14_g nV l14
      obtain ⟨V2, hV2⟩ : ∃ V, w2.alloc (.cells #[.int .i64 Y.st, .slice A2 n2 c2, .bool Y.lo, .int .i64 Y.ou] 24) = V := ⟨_, rfl⟩
      have bV2 : Below w2.heap.size w2 V2 := by rw [← hV2]; exact belA _ _
      have nV2 := PB.new w2 24 Y.st A2 n2 c2 Y.lo Y.ou
      rw [hV2] at nV2
      have HV2 := Lib.hid hV2
      clear hV2
      have r16_r := r15_r.on bV2
      have r16_z := r15_z.on bV2
      have r16_g := r15_g.on bV2
      have r16_x := r15_x.on bV2
      have r16_y := d2.on bV2
      have l16 := bel2 l15 bV2
      clear bV2 r15_r r15_z r15_g r15_x d2 l15
      obtain ⟨cp0, cp1, cp2, cp3⟩ := r16_x.cells
      obtain ⟨cq0, cq1, cq2, cq3⟩ := nV2.cells
      obtain ⟨cr0, cr1, cr2, cr3⟩ := r16_r.cells
      obtain ⟨fr0, fr1, fr2, fr3⟩ := r16_r.froz
      obtain ⟨cz0, cz1, cz2, cz3⟩ := r16_z.cells
      obtain ⟨fz0, fz1, fz2, fz3⟩ := r16_z.froz
      obtain ⟨Ua, hUa, pUa, kUa⟩ := store_end r16_r Try.neP X.st A1 n1 c1 X.lo X.ou
      obtain ⟨ya0, ya1, ya2, ya3⟩ := (show PB Ua _ _ _ _ _ _ _ _ from kUa.cb _ _ _ (by have := HN.out; have := HVt.out; have := HVs.out; omega) nV2).cells
      obtain ⟨za0, za1, za2, za3⟩ := (show PB Ua _ _ _ _ _ _ _ _ from kUa.cb _ _ _ (by omega) r16_z).cells
      obtain ⟨zf0, zf1, zf2, zf3⟩ := (show PB Ua _ _ _ _ _ _ _ _ from kUa.cb _ _ _ (by omega) r16_z).froz
      obtain ⟨Uc, hUc, pUc, kUc⟩ := store_end (show PB Ua _ _ _ _ _ _ _ _ from kUa.cb _ _ _ (by omega) r16_z) Try.neR Y.st A2 n2 c2 Y.lo Y.ou
      obtain ⟨u0, u1, u2, u3⟩ := (show PB Uc _ _ _ _ _ _ _ _ from kUc.cb _ _ _ (by omega) pUa).cells
      obtain ⟨v0, v1, v2, v3⟩ := pUc.cells
      have H := Lib.hid (show EPost w X [] (fun _ _ => True) (.returned (.tuple #[.agg #[.int .i64 X.st, .slice A1 n1 c1, .bool X.lo, .int .i64 X.ou], .agg #[.int .i64 Y.st, .slice A2 n2 c2, .bool Y.lo, .int .i64 Y.ou], .slice none 0 0, .bool (E == F)])) Uc.drew from ⟨A1, n1, c1, Y, A2, n2, c2, none, 0, 0, _, rfl, (kUc.dr _ _ _ _ (kUa.dr _ _ _ _ r16_g)).drew, (kUc.dr _ _ _ _ (kUa.dr _ _ _ _ r16_y)).drew, RR.nil _ _ _, belowD (kUc.low _ _ (kUa.low _ _ l16 (by omega)) (by omega)), Fr1.out, trivial⟩)
      clear kUa kUc pUa pUc
      go_upto_region 7 with fail
      rw [HV2.out]
      go_region
      go_wp2_with fail
      exact bodyPost_ret (v := .tuple #[.agg #[.int .i64 X.st, .slice A1 n1 c1, .bool X.lo, .int .i64 X.ou], .agg #[.int .i64 Y.st, .slice A2 n2 c2, .bool Y.lo, .int .i64 Y.ou], .slice none 0 0, .bool (E == F)]) (by simp [results, Try.results10, go_sem, u0, u1, u2, u3, v0, v1, v2, v3]) rfl H.out
  have h5 : ¬ kd.tmod 6 = 5 := hk
  clear hk
  have k5b : (kd.tmod 6 == 5) = false := by simp [h5]
  by_cases hk : kd.tmod 6 = 3
  · have k3b : (kd.tmod 6 == 3) = true := by simp [hk]
    clear h2 h5
    obtain ⟨S1, S2⟩ := st_loc (a := ⟨kd, dk, db, y, u⟩) (p := ⟨s, L, l, o⟩) hk
    clear hk
    rw [S1, S2]
    clear S1 S2
    obtain ⟨X, hX⟩ : ∃ X, sLoc ⟨s, L, l, o⟩ = X := ⟨_, rfl⟩
    obtain ⟨E, hE⟩ : ∃ E, eLoc ⟨s, L, l, o⟩ = E := ⟨_, rfl⟩
    obtain ⟨DD, hD⟩ : ∃ D, dLoc ⟨s, L, l, o⟩ = D := ⟨_, rfl⟩
    obtain ⟨Y, hY⟩ : ∃ Y, sLoc ⟨0, [], false, 0⟩ = Y := ⟨_, rfl⟩
    obtain ⟨F, hF⟩ : ∃ F, eLoc ⟨0, [], false, 0⟩ = F := ⟨_, rfl⟩
    have hD0 : dLoc ⟨0, [], false, 0⟩ = [] := no_loc
    rw [hX, hD]
    have a0 := ha.cell 0
    have a1 := ha.cell 1
    have a2 := ha.cell 2
    have a3 := ha.cell 3
    have a4 := ha.cell 4
    simp only [List.getElem?_toArray, List.getElem?_cons_zero, List.getElem?_cons_succ] at a0 a1 a2 a3 a4
    obtain ⟨cp0, cp1, cp2, cp3⟩ := hp.cells
    go_enter Try.func10, Try.ntmps10
    go_upto_region 1 with fail
    rw [HW.out]
    have hc := local_c s A n c l o L W hd hn
    rw [hX, hE, hD] at hc
    go_wp2_with fail
    refine hc.mono ?_
    rintro e w1 ⟨A1, n1, c1, A3, n3, c3, rfl, d1, d3, b1, fr1⟩
    clear cp0 cp1 cp2 cp3
    clear hc a0 a1 a2 a3 a4
    have HbW := Lib.hid b1
    have r17_p := hp.on b1
    have r17_m := hm.on b1
    have r17_a := ha.on b1
    have r17_r := hr.on b1
    have r17_z := hz.on b1
    have r17_d := hd.on b1
    have r17_e := hd'.on b1
    have l17 := bel2 hb b1
    clear b1 hp hm ha hr hz hd hd' hb
    have HN := Lib.hid (show w.heap.size + 5 ≤ w1.heap.size by have := hS.out; have := HbW.out.size; omega)
    have Fr1 := Lib.hid (fr1.mono Hb.out.size)
    clear fr1
    obtain ⟨V, hV⟩ : ∃ V, w1.alloc (.cells #[.int .i64 X.st, .slice A1 n1 c1, .bool X.lo, .int .i64 X.ou] 30) = V := ⟨_, rfl⟩
    have bV : Below w1.heap.size w1 V := by rw [← hV]; exact belA _ _
    have nV := PB.new w1 30 X.st A1 n1 c1 X.lo X.ou
    rw [hV] at nV
    have HV := Lib.hid hV
    clear hV
    have r18_p := r17_p.on bV
    have r18_m := r17_m.on bV
    have r18_a := r17_a.on bV
    have r18_r := r17_r.on bV
    have r18_z := r17_z.on bV
    have r18_d := r17_d.on bV
    have r18_e := r17_e.on bV
    have r18_g := d1.on bV
    have r18_h := d3.on bV
    have l18 := bel2 l17 bV
    clear bV r17_p r17_m r17_a r17_r r17_z r17_d r17_e d1 d3 l17
    have a0 := r18_a.cell 0
    have a1 := r18_a.cell 1
    have a2 := r18_a.cell 2
    have a3 := r18_a.cell 3
    have a4 := r18_a.cell 4
    simp only [List.getElem?_toArray, List.getElem?_cons_zero, List.getElem?_cons_succ] at a0 a1 a2 a3 a4
    obtain ⟨cp0, cp1, cp2, cp3⟩ := r18_m.cells
    have hc := localR_c 0 none 0 0 false 0 [] V r18_e (by omega)
    rw [hY, hF, hD0] at hc
    go_upto_region 10 with fail
    rw [HV.out]
    go_wp2_with fail
    refine hc.mono ?_
    rintro e w2 ⟨A2, n2, c2, A4, n4, c4, rfl, d2, d4, b2, _⟩
    clear cp0 cp1 cp2 cp3
    clear hc a0 a1 a2 a3 a4
    have HVs := Lib.hid b2.size
    have HVt := Lib.hid nV.lt
    have r19_r := r18_r.on b2
    have r19_z := r18_z.on b2
    have r19_g := r18_g.on b2
    have r19_h := r18_h.on b2
    have r19_x := nV.on b2
    have l19 := bel2 l18 b2
    clear b2 r18_p r18_m r18_a r18_r r18_z r18_d r18_e r18_g r18_h nV l18
    obtain ⟨V2, hV2⟩ : ∃ V, w2.alloc (.cells #[.int .i64 Y.st, .slice A2 n2 c2, .bool Y.lo, .int .i64 Y.ou] 24) = V := ⟨_, rfl⟩
    have bV2 : Below w2.heap.size w2 V2 := by rw [← hV2]; exact belA _ _
    have nV2 := PB.new w2 24 Y.st A2 n2 c2 Y.lo Y.ou
    rw [hV2] at nV2
    have HV2 := Lib.hid hV2
    clear hV2
    have r20_r := r19_r.on bV2
    have r20_z := r19_z.on bV2
    have r20_g := r19_g.on bV2
    have r20_h := r19_h.on bV2
    have r20_x := r19_x.on bV2
    have r20_y := d2.on bV2
    have r20_k := d4.on bV2
    have l20 := bel2 l19 bV2
    clear bV2 r19_r r19_z r19_g r19_h r19_x d2 d4 l19
    cases hef : (E == F) with
    | true =>
      have Hc := Lib.hid (show (V2.cell? ⟨w1.heap.size, 0, none⟩ = some (.int .i64 X.st) ∧ V2.cell? ⟨w1.heap.size, 1, none⟩ = some (.slice A1 n1 c1) ∧ V2.cell? ⟨w1.heap.size, 2, none⟩ = some (.bool X.lo) ∧ V2.cell? ⟨w1.heap.size, 3, none⟩ = some (.int .i64 X.ou)) ∧ (V2.cell? ⟨w2.heap.size, 0, none⟩ = some (.int .i64 Y.st) ∧ V2.cell? ⟨w2.heap.size, 1, none⟩ = some (.slice A2 n2 c2) ∧ V2.cell? ⟨w2.heap.size, 2, none⟩ = some (.bool Y.lo) ∧ V2.cell? ⟨w2.heap.size, 3, none⟩ = some (.int .i64 Y.ou)) from ⟨(r20_x).cells, (nV2).cells⟩)
      have hc := deltas0_c A3 A4 n3 c3 n4 c4 DD V2.drew r20_h.drew r20_k.drew
      go_upto_region 11 with fail
      rw [HV2.out]
      go_region_held3 (fun W' => (W'.cell? ⟨w1.heap.size, 0, none⟩ = some (.int .i64 X.st) ∧ W'.cell? ⟨w1.heap.size, 1, none⟩ = some (.slice A1 n1 c1) ∧ W'.cell? ⟨w1.heap.size, 2, none⟩ = some (.bool X.lo) ∧ W'.cell? ⟨w1.heap.size, 3, none⟩ = some (.int .i64 X.ou)) ∧ (W'.cell? ⟨w2.heap.size, 0, none⟩ = some (.int .i64 Y.st) ∧ W'.cell? ⟨w2.heap.size, 1, none⟩ = some (.slice A2 n2 c2) ∧ W'.cell? ⟨w2.heap.size, 2, none⟩ = some (.bool Y.lo) ∧ W'.cell? ⟨w2.heap.size, 3, none⟩ = some (.int .i64 Y.ou))) (first | exact Hc.out | exact t1.out | exact t2.out | exact t3.out) (first
        | (go_at_call 14; refine hc.mono ?_; rintro e w5 ⟨ok, rfl, b5⟩; have x5 := (r20_x).drew.on b5; have y5 := (nV2).drew.on b5; have r5 := (r20_r).drew.on b5; have z5 := (r20_z).drew.on b5; have t1 := Lib.hid (And.intro x5.cells y5.cells); obtain ⟨cr0, cr1, cr2, cr3⟩ := r5.cells; obtain ⟨fr0, fr1, fr2, fr3⟩ := r5.froz; obtain ⟨cz0, cz1, cz2, cz3⟩ := z5.cells; obtain ⟨fz0, fz1, fz2, fz3⟩ := z5.froz; obtain ⟨Ua, hUa, pUa, kUa⟩ := store_end r5 Try.neP X.st A1 n1 c1 X.lo X.ou; obtain ⟨ya0, ya1, ya2, ya3⟩ := (show PB Ua _ _ _ _ _ _ _ _ from kUa.cb _ _ _ (by have := HN.out; have := HVt.out; have := HVs.out; omega) y5).cells; obtain ⟨za0, za1, za2, za3⟩ := (show PB Ua _ _ _ _ _ _ _ _ from kUa.cb _ _ _ (by omega) z5).cells; obtain ⟨zf0, zf1, zf2, zf3⟩ := (show PB Ua _ _ _ _ _ _ _ _ from kUa.cb _ _ _ (by omega) z5).froz; obtain ⟨Uc, hUc, pUc, kUc⟩ := store_end (show PB Ua _ _ _ _ _ _ _ _ from kUa.cb _ _ _ (by omega) z5) Try.neR Y.st A2 n2 c2 Y.lo Y.ou; have xa := (show PB Ua _ _ _ _ _ _ _ _ from kUa.cb _ _ _ (by have := HN.out; omega) x5); have ya := (show PB Ua _ _ _ _ _ _ _ _ from kUa.cb _ _ _ (by have := HN.out; have := HVt.out; have := HVs.out; omega) y5); have t2 := Lib.hid (And.intro xa.cells ya.cells); have t3 := Lib.hid (And.intro (show PB Uc _ _ _ _ _ _ _ _ from kUc.cb _ _ _ (by have := HN.out; omega) xa).cells (show PB Uc _ _ _ _ _ _ _ _ from kUc.cb _ _ _ (by have := HN.out; have := HVt.out; have := HVs.out; omega) ya).cells)))
      obtain ⟨u0, u1, u2, u3⟩ := (show PB Uc _ _ _ _ _ _ _ _ from kUc.cb _ _ _ (by omega) pUa).cells
      obtain ⟨v0, v1, v2, v3⟩ := pUc.cells
      have H := Lib.hid (show EPost w X DD (fun _ _ => True) (.returned (.tuple #[.agg #[.int .i64 X.st, .slice A1 n1 c1, .bool X.lo, .int .i64 X.ou], .agg #[.int .i64 Y.st, .slice A2 n2 c2, .bool Y.lo, .int .i64 Y.ou], .slice A3 n3 c3, .bool ok])) Uc from ⟨A1, n1, c1, Y, A2, n2, c2, A3, n3, c3, _, rfl, kUc.dr _ _ _ _ (kUa.dr _ _ _ _ (r20_g.drew.on b5)), kUc.dr _ _ _ _ (kUa.dr _ _ _ _ (r20_y.drew.on b5)), kUc.dr _ _ _ _ (kUa.dr _ _ _ _ (r20_h.drew.on b5)), kUc.low _ _ (kUa.low _ _ (bel2 l20 (below_drew (W := V2) b5)) (by omega)) (by omega), Fr1.out, trivial⟩)
      clear kUa kUc pUa pUc t1 t2 t3 x5 y5 r5 z5 xa ya b5
      go_wp2_with fail
      exact bodyPost_ret (v := .tuple #[.agg #[.int .i64 X.st, .slice A1 n1 c1, .bool X.lo, .int .i64 X.ou], .agg #[.int .i64 Y.st, .slice A2 n2 c2, .bool Y.lo, .int .i64 Y.ou], .slice A3 n3 c3, .bool ok]) (by simp [results, Try.results10, go_sem, u0, u1, u2, u3, v0, v1, v2, v3]) rfl H.out
    | false =>
      have Hc := Lib.hid (show (V2.cell? ⟨w1.heap.size, 0, none⟩ = some (.int .i64 X.st) ∧ V2.cell? ⟨w1.heap.size, 1, none⟩ = some (.slice A1 n1 c1) ∧ V2.cell? ⟨w1.heap.size, 2, none⟩ = some (.bool X.lo) ∧ V2.cell? ⟨w1.heap.size, 3, none⟩ = some (.int .i64 X.ou)) ∧ (V2.cell? ⟨w2.heap.size, 0, none⟩ = some (.int .i64 Y.st) ∧ V2.cell? ⟨w2.heap.size, 1, none⟩ = some (.slice A2 n2 c2) ∧ V2.cell? ⟨w2.heap.size, 2, none⟩ = some (.bool Y.lo) ∧ V2.cell? ⟨w2.heap.size, 3, none⟩ = some (.int .i64 Y.ou)) from ⟨(r20_x).cells, (nV2).cells⟩)
      obtain ⟨Ua, hUa, pUa, kUa⟩ := store_end r20_r Try.neP X.st A1 n1 c1 X.lo X.ou
      obtain ⟨ya0, ya1, ya2, ya3⟩ := (show PB Ua _ _ _ _ _ _ _ _ from kUa.cb _ _ _ (by have := HN.out; have := HVt.out; have := HVs.out; omega) nV2).cells
      obtain ⟨za0, za1, za2, za3⟩ := (show PB Ua _ _ _ _ _ _ _ _ from kUa.cb _ _ _ (by omega) r20_z).cells
      obtain ⟨zf0, zf1, zf2, zf3⟩ := (show PB Ua _ _ _ _ _ _ _ _ from kUa.cb _ _ _ (by omega) r20_z).froz
      obtain ⟨Uc, hUc, pUc, kUc⟩ := store_end (show PB Ua _ _ _ _ _ _ _ _ from kUa.cb _ _ _ (by omega) r20_z) Try.neR Y.st A2 n2 c2 Y.lo Y.ou
      have xa := (show PB Ua _ _ _ _ _ _ _ _ from kUa.cb _ _ _ (by have := HN.out; omega) r20_x)
      have ya := (show PB Ua _ _ _ _ _ _ _ _ from kUa.cb _ _ _ (by have := HN.out; have := HVt.out; have := HVs.out; omega) nV2)
      have t2 := Lib.hid (And.intro xa.cells ya.cells)
      have t3 := Lib.hid (And.intro (show PB Uc _ _ _ _ _ _ _ _ from kUc.cb _ _ _ (by have := HN.out; omega) xa).cells (show PB Uc _ _ _ _ _ _ _ _ from kUc.cb _ _ _ (by have := HN.out; have := HVt.out; have := HVs.out; omega) ya).cells)
      obtain ⟨u0, u1, u2, u3⟩ := (show PB Uc _ _ _ _ _ _ _ _ from kUc.cb _ _ _ (by omega) pUa).cells
      obtain ⟨v0, v1, v2, v3⟩ := pUc.cells
      have H := Lib.hid (show EPost w X DD (fun _ _ => True) (.returned (.tuple #[.agg #[.int .i64 X.st, .slice A1 n1 c1, .bool X.lo, .int .i64 X.ou], .agg #[.int .i64 Y.st, .slice A2 n2 c2, .bool Y.lo, .int .i64 Y.ou], .slice A3 n3 c3, .bool false])) Uc.drew from ⟨A1, n1, c1, Y, A2, n2, c2, A3, n3, c3, _, rfl, (kUc.dr _ _ _ _ (kUa.dr _ _ _ _ r20_g)).drew, (kUc.dr _ _ _ _ (kUa.dr _ _ _ _ r20_y)).drew, (kUc.dr _ _ _ _ (kUa.dr _ _ _ _ r20_h)).drew, belowD (kUc.low _ _ (kUa.low _ _ l20 (by omega)) (by omega)), Fr1.out, trivial⟩)
      clear kUa kUc pUa pUc xa ya
      obtain ⟨cp0, cp1, cp2, cp3⟩ := r20_x.cells
      obtain ⟨cq0, cq1, cq2, cq3⟩ := nV2.cells
      obtain ⟨cr0, cr1, cr2, cr3⟩ := r20_r.cells
      obtain ⟨fr0, fr1, fr2, fr3⟩ := r20_r.froz
      obtain ⟨cz0, cz1, cz2, cz3⟩ := r20_z.cells
      obtain ⟨fz0, fz1, fz2, fz3⟩ := r20_z.froz
      go_upto_region 11 with fail
      rw [HV2.out]
      go_region
      go_wp2_with fail
      exact bodyPost_ret (v := .tuple #[.agg #[.int .i64 X.st, .slice A1 n1 c1, .bool X.lo, .int .i64 X.ou], .agg #[.int .i64 Y.st, .slice A2 n2 c2, .bool Y.lo, .int .i64 Y.ou], .slice A3 n3 c3, .bool false]) (by simp [results, Try.results10, go_sem, u0, u1, u2, u3, v0, v1, v2, v3]) rfl H.out
  have h3 : ¬ kd.tmod 6 = 3 := hk
  clear hk
  have k3b : (kd.tmod 6 == 3) = false := by simp [h3]
  by_cases hk : kd.tmod 6 = 4
  · have k4b : (kd.tmod 6 == 4) = true := by simp [hk]
    clear h2 h5 h3
    obtain ⟨S1, S2⟩ := st_dec (a := ⟨kd, dk, db, y, u⟩) (p := ⟨s, L, l, o⟩) hk
    clear hk
    rw [S1, S2]
    clear S1 S2
    obtain ⟨X, hX⟩ : ∃ X, sDec ⟨s, L, l, o⟩ u = X := ⟨_, rfl⟩
    obtain ⟨E, hE⟩ : ∃ E, eDec ⟨s, L, l, o⟩ u = E := ⟨_, rfl⟩
    obtain ⟨DD, hD⟩ : ∃ D, dDec ⟨s, L, l, o⟩ u = D := ⟨_, rfl⟩
    obtain ⟨Y, hY⟩ : ∃ Y, sDec ⟨0, [], false, 0⟩ u = Y := ⟨_, rfl⟩
    obtain ⟨F, hF⟩ : ∃ F, eDec ⟨0, [], false, 0⟩ u = F := ⟨_, rfl⟩
    have hD0 : dDec ⟨0, [], false, 0⟩ u = [] := no_dec u
    rw [hX, hD]
    have a0 := ha.cell 0
    have a1 := ha.cell 1
    have a2 := ha.cell 2
    have a3 := ha.cell 3
    have a4 := ha.cell 4
    simp only [List.getElem?_toArray, List.getElem?_cons_zero, List.getElem?_cons_succ] at a0 a1 a2 a3 a4
    obtain ⟨cp0, cp1, cp2, cp3⟩ := hp.cells
    go_enter Try.func10, Try.ntmps10
    go_upto_region 1 with fail
    rw [HW.out]
    have hc := decide_c s A n c l o u L W hd hn
    rw [hX, hE, hD] at hc
    go_wp2_with fail
    refine hc.mono ?_
    rintro e w1 ⟨A1, n1, c1, A3, n3, c3, rfl, d1, d3, b1, fr1⟩
    clear cp0 cp1 cp2 cp3
    clear hc a0 a1 a2 a3 a4
    have HbW := Lib.hid b1
    have r21_p := hp.on b1
    have r21_m := hm.on b1
    have r21_a := ha.on b1
    have r21_r := hr.on b1
    have r21_z := hz.on b1
    have r21_d := hd.on b1
    have r21_e := hd'.on b1
    have l21 := bel2 hb b1
    clear b1 hp hm ha hr hz hd hd' hb
    have HN := Lib.hid (show w.heap.size + 5 ≤ w1.heap.size by have := hS.out; have := HbW.out.size; omega)
    have Fr1 := Lib.hid (fr1.mono Hb.out.size)
    clear fr1
    obtain ⟨V, hV⟩ : ∃ V, w1.alloc (.cells #[.int .i64 X.st, .slice A1 n1 c1, .bool X.lo, .int .i64 X.ou] 30) = V := ⟨_, rfl⟩
    have bV : Below w1.heap.size w1 V := by rw [← hV]; exact belA _ _
    have nV := PB.new w1 30 X.st A1 n1 c1 X.lo X.ou
    rw [hV] at nV
    have HV := Lib.hid hV
    clear hV
    have r22_p := r21_p.on bV
    have r22_m := r21_m.on bV
    have r22_a := r21_a.on bV
    have r22_r := r21_r.on bV
    have r22_z := r21_z.on bV
    have r22_d := r21_d.on bV
    have r22_e := r21_e.on bV
    have r22_g := d1.on bV
    have r22_h := d3.on bV
    have l22 := bel2 l21 bV
    clear bV r21_p r21_m r21_a r21_r r21_z r21_d r21_e d1 d3 l21
    have a0 := r22_a.cell 0
    have a1 := r22_a.cell 1
    have a2 := r22_a.cell 2
    have a3 := r22_a.cell 3
    have a4 := r22_a.cell 4
    simp only [List.getElem?_toArray, List.getElem?_cons_zero, List.getElem?_cons_succ] at a0 a1 a2 a3 a4
    obtain ⟨cp0, cp1, cp2, cp3⟩ := r22_m.cells
    have hc := decideR_c 0 none 0 0 false 0 u [] V r22_e (by omega)
    rw [hY, hF, hD0] at hc
    go_upto_region 14 with fail
    rw [HV.out]
    go_wp2_with fail
    refine hc.mono ?_
    rintro e w2 ⟨A2, n2, c2, A4, n4, c4, rfl, d2, d4, b2, _⟩
    clear cp0 cp1 cp2 cp3
    clear hc a0 a1 a2 a3 a4
    have HVs := Lib.hid b2.size
    have HVt := Lib.hid nV.lt
    have r23_r := r22_r.on b2
    have r23_z := r22_z.on b2
    have r23_g := r22_g.on b2
    have r23_h := r22_h.on b2
    have r23_x := nV.on b2
    have l23 := bel2 l22 b2
    clear b2 r22_p r22_m r22_a r22_r r22_z r22_d r22_e r22_g r22_h nV l22
    obtain ⟨V2, hV2⟩ : ∃ V, w2.alloc (.cells #[.int .i64 Y.st, .slice A2 n2 c2, .bool Y.lo, .int .i64 Y.ou] 24) = V := ⟨_, rfl⟩
    have bV2 : Below w2.heap.size w2 V2 := by rw [← hV2]; exact belA _ _
    have nV2 := PB.new w2 24 Y.st A2 n2 c2 Y.lo Y.ou
    rw [hV2] at nV2
    have HV2 := Lib.hid hV2
    clear hV2
    have r24_r := r23_r.on bV2
    have r24_z := r23_z.on bV2
    have r24_g := r23_g.on bV2
    have r24_h := r23_h.on bV2
    have r24_x := r23_x.on bV2
    have r24_y := d2.on bV2
    have r24_k := d4.on bV2
    have l24 := bel2 l23 bV2
    clear bV2 r23_r r23_z r23_g r23_h r23_x d2 d4 l23
    cases hef : (E == F) with
    | true =>
      have Hc := Lib.hid (show (V2.cell? ⟨w1.heap.size, 0, none⟩ = some (.int .i64 X.st) ∧ V2.cell? ⟨w1.heap.size, 1, none⟩ = some (.slice A1 n1 c1) ∧ V2.cell? ⟨w1.heap.size, 2, none⟩ = some (.bool X.lo) ∧ V2.cell? ⟨w1.heap.size, 3, none⟩ = some (.int .i64 X.ou)) ∧ (V2.cell? ⟨w2.heap.size, 0, none⟩ = some (.int .i64 Y.st) ∧ V2.cell? ⟨w2.heap.size, 1, none⟩ = some (.slice A2 n2 c2) ∧ V2.cell? ⟨w2.heap.size, 2, none⟩ = some (.bool Y.lo) ∧ V2.cell? ⟨w2.heap.size, 3, none⟩ = some (.int .i64 Y.ou)) from ⟨(r24_x).cells, (nV2).cells⟩)
      have hc := deltas0_c A3 A4 n3 c3 n4 c4 DD V2.drew r24_h.drew r24_k.drew
      go_upto_region 15 with fail
      rw [HV2.out]
      go_region_held3 (fun W' => (W'.cell? ⟨w1.heap.size, 0, none⟩ = some (.int .i64 X.st) ∧ W'.cell? ⟨w1.heap.size, 1, none⟩ = some (.slice A1 n1 c1) ∧ W'.cell? ⟨w1.heap.size, 2, none⟩ = some (.bool X.lo) ∧ W'.cell? ⟨w1.heap.size, 3, none⟩ = some (.int .i64 X.ou)) ∧ (W'.cell? ⟨w2.heap.size, 0, none⟩ = some (.int .i64 Y.st) ∧ W'.cell? ⟨w2.heap.size, 1, none⟩ = some (.slice A2 n2 c2) ∧ W'.cell? ⟨w2.heap.size, 2, none⟩ = some (.bool Y.lo) ∧ W'.cell? ⟨w2.heap.size, 3, none⟩ = some (.int .i64 Y.ou))) (first | exact Hc.out | exact t1.out | exact t2.out | exact t3.out) (first
        | (go_at_call 14; refine hc.mono ?_; rintro e w5 ⟨ok, rfl, b5⟩; have x5 := (r24_x).drew.on b5; have y5 := (nV2).drew.on b5; have r5 := (r24_r).drew.on b5; have z5 := (r24_z).drew.on b5; have t1 := Lib.hid (And.intro x5.cells y5.cells); obtain ⟨cr0, cr1, cr2, cr3⟩ := r5.cells; obtain ⟨fr0, fr1, fr2, fr3⟩ := r5.froz; obtain ⟨cz0, cz1, cz2, cz3⟩ := z5.cells; obtain ⟨fz0, fz1, fz2, fz3⟩ := z5.froz; obtain ⟨Ua, hUa, pUa, kUa⟩ := store_end r5 Try.neP X.st A1 n1 c1 X.lo X.ou; obtain ⟨ya0, ya1, ya2, ya3⟩ := (show PB Ua _ _ _ _ _ _ _ _ from kUa.cb _ _ _ (by have := HN.out; have := HVt.out; have := HVs.out; omega) y5).cells; obtain ⟨za0, za1, za2, za3⟩ := (show PB Ua _ _ _ _ _ _ _ _ from kUa.cb _ _ _ (by omega) z5).cells; obtain ⟨zf0, zf1, zf2, zf3⟩ := (show PB Ua _ _ _ _ _ _ _ _ from kUa.cb _ _ _ (by omega) z5).froz; obtain ⟨Uc, hUc, pUc, kUc⟩ := store_end (show PB Ua _ _ _ _ _ _ _ _ from kUa.cb _ _ _ (by omega) z5) Try.neR Y.st A2 n2 c2 Y.lo Y.ou; have xa := (show PB Ua _ _ _ _ _ _ _ _ from kUa.cb _ _ _ (by have := HN.out; omega) x5); have ya := (show PB Ua _ _ _ _ _ _ _ _ from kUa.cb _ _ _ (by have := HN.out; have := HVt.out; have := HVs.out; omega) y5); have t2 := Lib.hid (And.intro xa.cells ya.cells); have t3 := Lib.hid (And.intro (show PB Uc _ _ _ _ _ _ _ _ from kUc.cb _ _ _ (by have := HN.out; omega) xa).cells (show PB Uc _ _ _ _ _ _ _ _ from kUc.cb _ _ _ (by have := HN.out; have := HVt.out; have := HVs.out; omega) ya).cells)))
      obtain ⟨u0, u1, u2, u3⟩ := (show PB Uc _ _ _ _ _ _ _ _ from kUc.cb _ _ _ (by omega) pUa).cells
      obtain ⟨v0, v1, v2, v3⟩ := pUc.cells
      have H := Lib.hid (show EPost w X DD (fun _ _ => True) (.returned (.tuple #[.agg #[.int .i64 X.st, .slice A1 n1 c1, .bool X.lo, .int .i64 X.ou], .agg #[.int .i64 Y.st, .slice A2 n2 c2, .bool Y.lo, .int .i64 Y.ou], .slice A3 n3 c3, .bool ok])) Uc from ⟨A1, n1, c1, Y, A2, n2, c2, A3, n3, c3, _, rfl, kUc.dr _ _ _ _ (kUa.dr _ _ _ _ (r24_g.drew.on b5)), kUc.dr _ _ _ _ (kUa.dr _ _ _ _ (r24_y.drew.on b5)), kUc.dr _ _ _ _ (kUa.dr _ _ _ _ (r24_h.drew.on b5)), kUc.low _ _ (kUa.low _ _ (bel2 l24 (below_drew (W := V2) b5)) (by omega)) (by omega), Fr1.out, trivial⟩)
      clear kUa kUc pUa pUc t1 t2 t3 x5 y5 r5 z5 xa ya b5
      go_wp2_with fail
      exact bodyPost_ret (v := .tuple #[.agg #[.int .i64 X.st, .slice A1 n1 c1, .bool X.lo, .int .i64 X.ou], .agg #[.int .i64 Y.st, .slice A2 n2 c2, .bool Y.lo, .int .i64 Y.ou], .slice A3 n3 c3, .bool ok]) (by simp [results, Try.results10, go_sem, u0, u1, u2, u3, v0, v1, v2, v3]) rfl H.out
    | false =>
      have Hc := Lib.hid (show (V2.cell? ⟨w1.heap.size, 0, none⟩ = some (.int .i64 X.st) ∧ V2.cell? ⟨w1.heap.size, 1, none⟩ = some (.slice A1 n1 c1) ∧ V2.cell? ⟨w1.heap.size, 2, none⟩ = some (.bool X.lo) ∧ V2.cell? ⟨w1.heap.size, 3, none⟩ = some (.int .i64 X.ou)) ∧ (V2.cell? ⟨w2.heap.size, 0, none⟩ = some (.int .i64 Y.st) ∧ V2.cell? ⟨w2.heap.size, 1, none⟩ = some (.slice A2 n2 c2) ∧ V2.cell? ⟨w2.heap.size, 2, none⟩ = some (.bool Y.lo) ∧ V2.cell? ⟨w2.heap.size, 3, none⟩ = some (.int .i64 Y.ou)) from ⟨(r24_x).cells, (nV2).cells⟩)
      obtain ⟨Ua, hUa, pUa, kUa⟩ := store_end r24_r Try.neP X.st A1 n1 c1 X.lo X.ou
      obtain ⟨ya0, ya1, ya2, ya3⟩ := (show PB Ua _ _ _ _ _ _ _ _ from kUa.cb _ _ _ (by have := HN.out; have := HVt.out; have := HVs.out; omega) nV2).cells
      obtain ⟨za0, za1, za2, za3⟩ := (show PB Ua _ _ _ _ _ _ _ _ from kUa.cb _ _ _ (by omega) r24_z).cells
      obtain ⟨zf0, zf1, zf2, zf3⟩ := (show PB Ua _ _ _ _ _ _ _ _ from kUa.cb _ _ _ (by omega) r24_z).froz
      obtain ⟨Uc, hUc, pUc, kUc⟩ := store_end (show PB Ua _ _ _ _ _ _ _ _ from kUa.cb _ _ _ (by omega) r24_z) Try.neR Y.st A2 n2 c2 Y.lo Y.ou
      have xa := (show PB Ua _ _ _ _ _ _ _ _ from kUa.cb _ _ _ (by have := HN.out; omega) r24_x)
      have ya := (show PB Ua _ _ _ _ _ _ _ _ from kUa.cb _ _ _ (by have := HN.out; have := HVt.out; have := HVs.out; omega) nV2)
      have t2 := Lib.hid (And.intro xa.cells ya.cells)
      have t3 := Lib.hid (And.intro (show PB Uc _ _ _ _ _ _ _ _ from kUc.cb _ _ _ (by have := HN.out; omega) xa).cells (show PB Uc _ _ _ _ _ _ _ _ from kUc.cb _ _ _ (by have := HN.out; have := HVt.out; have := HVs.out; omega) ya).cells)
      obtain ⟨u0, u1, u2, u3⟩ := (show PB Uc _ _ _ _ _ _ _ _ from kUc.cb _ _ _ (by omega) pUa).cells
      obtain ⟨v0, v1, v2, v3⟩ := pUc.cells
      have H := Lib.hid (show EPost w X DD (fun _ _ => True) (.returned (.tuple #[.agg #[.int .i64 X.st, .slice A1 n1 c1, .bool X.lo, .int .i64 X.ou], .agg #[.int .i64 Y.st, .slice A2 n2 c2, .bool Y.lo, .int .i64 Y.ou], .slice A3 n3 c3, .bool false])) Uc.drew from ⟨A1, n1, c1, Y, A2, n2, c2, A3, n3, c3, _, rfl, (kUc.dr _ _ _ _ (kUa.dr _ _ _ _ r24_g)).drew, (kUc.dr _ _ _ _ (kUa.dr _ _ _ _ r24_y)).drew, (kUc.dr _ _ _ _ (kUa.dr _ _ _ _ r24_h)).drew, belowD (kUc.low _ _ (kUa.low _ _ l24 (by omega)) (by omega)), Fr1.out, trivial⟩)
      clear kUa kUc pUa pUc xa ya
      obtain ⟨cp0, cp1, cp2, cp3⟩ := r24_x.cells
      obtain ⟨cq0, cq1, cq2, cq3⟩ := nV2.cells
      obtain ⟨cr0, cr1, cr2, cr3⟩ := r24_r.cells
      obtain ⟨fr0, fr1, fr2, fr3⟩ := r24_r.froz
      obtain ⟨cz0, cz1, cz2, cz3⟩ := r24_z.cells
      obtain ⟨fz0, fz1, fz2, fz3⟩ := r24_z.froz
      go_upto_region 15 with fail
      rw [HV2.out]
      go_region
      go_wp2_with fail
      exact bodyPost_ret (v := .tuple #[.agg #[.int .i64 X.st, .slice A1 n1 c1, .bool X.lo, .int .i64 X.ou], .agg #[.int .i64 Y.st, .slice A2 n2 c2, .bool Y.lo, .int .i64 Y.ou], .slice A3 n3 c3, .bool false]) (by simp [results, Try.results10, go_sem, u0, u1, u2, u3, v0, v1, v2, v3]) rfl H.out
  have h4 : ¬ kd.tmod 6 = 4 := hk
  clear hk
  have k4b : (kd.tmod 6 == 4) = false := by simp [h4]
  obtain ⟨S1, S2⟩ := st_add (a := ⟨kd, dk, db, y, u⟩) (p := ⟨s, L, l, o⟩) h2 h5 h3 h4
  clear h2 h5 h3 h4
  rw [S1, S2]
  clear S1 S2
  obtain ⟨X, hX⟩ : ∃ X, sAdd ⟨s, L, l, o⟩ ⟨dk, db⟩ = X := ⟨_, rfl⟩
  obtain ⟨E, hE⟩ : ∃ E, eAdd ⟨s, L, l, o⟩ ⟨dk, db⟩ = E := ⟨_, rfl⟩
  obtain ⟨Y, hY⟩ : ∃ Y, sAdd ⟨0, [], false, 0⟩ ⟨dk, db⟩ = Y := ⟨_, rfl⟩
  obtain ⟨F, hF⟩ : ∃ F, eAdd ⟨0, [], false, 0⟩ ⟨dk, db⟩ = F := ⟨_, rfl⟩
  rw [hX]
  have a0 := ha.cell 0
  have a1 := ha.cell 1
  have a2 := ha.cell 2
  have a3 := ha.cell 3
  have a4 := ha.cell 4
  simp only [List.getElem?_toArray, List.getElem?_cons_zero, List.getElem?_cons_succ] at a0 a1 a2 a3 a4
  obtain ⟨cp0, cp1, cp2, cp3⟩ := hp.cells
  go_enter Try.func10, Try.ntmps10
  go_upto_region 1 with fail
  rw [HW.out]
  have hc := add_c s A n c l o dk db L W hd hn
  rw [hX, hE] at hc
  go_wp2_with fail
  refine hc.mono ?_
  rintro e w1 ⟨A1, n1, c1, rfl, d1, b1, fr1⟩
  clear cp0 cp1 cp2 cp3
  clear hc a0 a1 a2 a3 a4
  have HbW := Lib.hid b1
  have r25_p := hp.on b1
  have r25_m := hm.on b1
  have r25_a := ha.on b1
  have r25_r := hr.on b1
  have r25_z := hz.on b1
  have r25_d := hd.on b1
  have r25_e := hd'.on b1
  have l25 := bel2 hb b1
  clear b1 hp hm ha hr hz hd hd' hb
  have HN := Lib.hid (show w.heap.size + 5 ≤ w1.heap.size by have := hS.out; have := HbW.out.size; omega)
  have Fr1 := Lib.hid (fr1.mono Hb.out.size)
  clear fr1
  obtain ⟨V, hV⟩ : ∃ V, w1.alloc (.cells #[.int .i64 X.st, .slice A1 n1 c1, .bool X.lo, .int .i64 X.ou] 30) = V := ⟨_, rfl⟩
  have bV : Below w1.heap.size w1 V := by rw [← hV]; exact belA _ _
  have nV := PB.new w1 30 X.st A1 n1 c1 X.lo X.ou
  rw [hV] at nV
  have HV := Lib.hid hV
  clear hV
  have r26_p := r25_p.on bV
  have r26_m := r25_m.on bV
  have r26_a := r25_a.on bV
  have r26_r := r25_r.on bV
  have r26_z := r25_z.on bV
  have r26_d := r25_d.on bV
  have r26_e := r25_e.on bV
  have r26_g := d1.on bV
  have l26 := bel2 l25 bV
  clear bV r25_p r25_m r25_a r25_r r25_z r25_d r25_e d1 l25
  have a0 := r26_a.cell 0
  have a1 := r26_a.cell 1
  have a2 := r26_a.cell 2
  have a3 := r26_a.cell 3
  have a4 := r26_a.cell 4
  simp only [List.getElem?_toArray, List.getElem?_cons_zero, List.getElem?_cons_succ] at a0 a1 a2 a3 a4
  obtain ⟨cp0, cp1, cp2, cp3⟩ := r26_m.cells
  have hc := addR_c 0 none 0 0 false 0 dk db [] V r26_e (by omega)
  rw [hY, hF] at hc
  go_upto_region 17 with fail
  rw [HV.out]
  go_wp2_with fail
  refine hc.mono ?_
  rintro e w2 ⟨A2, n2, c2, rfl, d2, b2, _⟩
  clear cp0 cp1 cp2 cp3
  clear hc a0 a1 a2 a3 a4
  have HVs := Lib.hid b2.size
  have HVt := Lib.hid nV.lt
  have r27_r := r26_r.on b2
  have r27_z := r26_z.on b2
  have r27_g := r26_g.on b2
  have r27_x := nV.on b2
  have l27 := bel2 l26 b2
  clear b2 r26_p r26_m r26_a r26_r r26_z r26_d r26_e r26_g nV l26
  obtain ⟨V2, hV2⟩ : ∃ V, w2.alloc (.cells #[.int .i64 Y.st, .slice A2 n2 c2, .bool Y.lo, .int .i64 Y.ou] 24) = V := ⟨_, rfl⟩
  have bV2 : Below w2.heap.size w2 V2 := by rw [← hV2]; exact belA _ _
  have nV2 := PB.new w2 24 Y.st A2 n2 c2 Y.lo Y.ou
  rw [hV2] at nV2
  have HV2 := Lib.hid hV2
  clear hV2
  have r28_r := r27_r.on bV2
  have r28_z := r27_z.on bV2
  have r28_g := r27_g.on bV2
  have r28_x := r27_x.on bV2
  have r28_y := d2.on bV2
  have l28 := bel2 l27 bV2
  clear bV2 r27_r r27_z r27_g r27_x d2 l27
  obtain ⟨cp0, cp1, cp2, cp3⟩ := r28_x.cells
  obtain ⟨cq0, cq1, cq2, cq3⟩ := nV2.cells
  obtain ⟨cr0, cr1, cr2, cr3⟩ := r28_r.cells
  obtain ⟨fr0, fr1, fr2, fr3⟩ := r28_r.froz
  obtain ⟨cz0, cz1, cz2, cz3⟩ := r28_z.cells
  obtain ⟨fz0, fz1, fz2, fz3⟩ := r28_z.froz
  obtain ⟨Ua, hUa, pUa, kUa⟩ := store_end r28_r Try.neP X.st A1 n1 c1 X.lo X.ou
  obtain ⟨ya0, ya1, ya2, ya3⟩ := (show PB Ua _ _ _ _ _ _ _ _ from kUa.cb _ _ _ (by have := HN.out; have := HVt.out; have := HVs.out; omega) nV2).cells
  obtain ⟨za0, za1, za2, za3⟩ := (show PB Ua _ _ _ _ _ _ _ _ from kUa.cb _ _ _ (by omega) r28_z).cells
  obtain ⟨zf0, zf1, zf2, zf3⟩ := (show PB Ua _ _ _ _ _ _ _ _ from kUa.cb _ _ _ (by omega) r28_z).froz
  obtain ⟨Uc, hUc, pUc, kUc⟩ := store_end (show PB Ua _ _ _ _ _ _ _ _ from kUa.cb _ _ _ (by omega) r28_z) Try.neR Y.st A2 n2 c2 Y.lo Y.ou
  obtain ⟨u0, u1, u2, u3⟩ := (show PB Uc _ _ _ _ _ _ _ _ from kUc.cb _ _ _ (by omega) pUa).cells
  obtain ⟨v0, v1, v2, v3⟩ := pUc.cells
  have H := Lib.hid (show EPost w X [] (fun _ _ => True) (.returned (.tuple #[.agg #[.int .i64 X.st, .slice A1 n1 c1, .bool X.lo, .int .i64 X.ou], .agg #[.int .i64 Y.st, .slice A2 n2 c2, .bool Y.lo, .int .i64 Y.ou], .slice none 0 0, .bool (E == F)])) Uc.drew from ⟨A1, n1, c1, Y, A2, n2, c2, none, 0, 0, _, rfl, (kUc.dr _ _ _ _ (kUa.dr _ _ _ _ r28_g)).drew, (kUc.dr _ _ _ _ (kUa.dr _ _ _ _ r28_y)).drew, RR.nil _ _ _, belowD (kUc.low _ _ (kUa.low _ _ l28 (by omega)) (by omega)), Fr1.out, trivial⟩)
  clear kUa kUc pUa pUc
  go_upto_region 18 with fail
  rw [HV2.out]
  go_region
  go_wp2_with fail
  exact bodyPost_ret (v := .tuple #[.agg #[.int .i64 X.st, .slice A1 n1 c1, .bool X.lo, .int .i64 X.ou], .agg #[.int .i64 Y.st, .slice A2 n2 c2, .bool Y.lo, .int .i64 Y.ou], .slice none 0 0, .bool (E == F)]) (by simp [results, Try.results10, go_sem, u0, u1, u2, u3, v0, v1, v2, v3]) rfl H.out
end Go.Proofs.Ytmbmbodcmobllaa
