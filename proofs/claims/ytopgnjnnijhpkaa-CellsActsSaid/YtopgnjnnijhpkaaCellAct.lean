/-
  The walk of the law CellsActs: it returns true and leaves all memory that was there. Conditions: the slice reads as a row of acts.
-/
import Derived.Test.YtopgnjnnijhpkaaCellZ
import Derived.Test.YtopgnjnnijhpkaaCellK
namespace Go.Proofs.Ytopgnjnnijhpkaa
open Go.RowKit Go.Maps UI

set_option maxRecDepth 100000 in
set_option maxHeartbeats 4000000 in
theorem acts_walk (room : Int) (a : Option Addr) (cap : Nat) (acts : List ActV) (w : World) (h0 : CameA w a acts) (hm0 : acts.length ≤ maxLen) :
    Calls Try.prog 3 #[.int .i64 room, .slice a acts.length cap] w fun e w' => e = .returned (.bool true) ∧ Below w.heap.size w w' := by
  unfold maxLen at hm0
  by_cases hroom : 1 ≤ room ∧ room ≤ 10000
  · obtain ⟨hr1, hr2⟩ := hroom
    go_enter Try.func3, Try.ntmps3
    go_wp2_with fail
    refine (alive_c _).mono ?_
    rintro e w1 ⟨rfl, b1⟩
    go_wp2_with fail
    refine (new_ok room _ hr1 hr2).mono ?_
    rintro e w2 ⟨c, rfl, h2, b2⟩
    have b12 := b1.trans (b2.mono b1.size)
    have hlow := b1.size
    have hz2 := b2.size
    obtain ⟨B1, hB1⟩ : ∃ B1, B1 = w1.heap.size := ⟨_, rfl⟩
    rw [← hB1] at h2 hlow hz2
    have hst : AC w B1 c w2.heap.size room [] [] [] [] (w2.alloc (.cells #[.slice none 0 0, .slice none 0 0, .int .i64 room] 28)) :=
      ⟨h2.alloc _, ⟨none, 0, none, 0, CB.new _ _ _, ⟨rfl, none, Seg.nil _ _ _⟩, ⟨rfl, none, Seg.nil _ _ _⟩⟩, b12.alloc b12.size _, hlow, by omega⟩
    have Hst := Lib.hid hst
    clear b1 b2 hB1 h2 b12 hst
    go_wp2_with fail
    generalize w2.heap.size = mb at *
    go_loopw [7] (fun i wr => ∃ (j : Nat) (L S : List (Int × Int)), j ≤ acts.length ∧ j ≤ 100 ∧ i = .int .i64 j ∧ AC w B1 c mb room L S L S wr) (fun i _ => acts.length - (intOf i).toNat)
    case atStart => exact ⟨0, [], [], by omega, by omega, rfl, Hst.out⟩
    case round =>
      clear Hst
      obtain ⟨j, L, S, hj, hj100, rfl, hA0⟩ := hrel
      by_cases hlt : j < acts.length
      · by_cases hj1 : j < 100
        · obtain ⟨av, hav⟩ : ∃ av, acts[j]? = some av := ⟨_, List.getElem?_eq_getElem hlt⟩
          obtain ⟨hok, b, off, rfl, d0, d1, d2⟩ := h0.at_ hA0.low hav
          obtain ⟨kd, ky, vl⟩ := av
          obtain ⟨hkd, hky, hvl⟩ := hok
          simp only at d0 d1 d2 hky hvl hkd
          obtain ⟨kn, rfl, hkn⟩ := u8_nat hky
          obtain ⟨kx, rfl, hkx⟩ := u8_nat hkd
          have Hvl := Lib.hid hvl
          clear hav hvl hky hkd
          obtain ⟨wA, hwA⟩ : ∃ wA, wA = wr.alloc (.cells #[.int .u8 kx, .int .u8 kn, .int .i64 vl] 30) := ⟨_, rfl⟩
          have hA : AC w B1 c mb room L S L S wA := by rw [hwA]; exact hA0.alloc _
          have hcA : CB wA wr.heap.size 30 #[.int .u8 kx, .int .u8 kn, .int .i64 vl] := by rw [hwA]; exact CB.new _ _ _
          have HwA := Lib.hid hwA
          clear hwA hA0 h0
          by_cases c3 : kx % 7 = 3
          · have t3 : ((kx : Int) % 7 == 3) = true := by rw [beq_iff_eq]; omega
            clear c3
            obtain ⟨a1, c1, a2, c2, b1, r1, r2⟩ := hA.box
            go_wp2_with fail
            rw [← HwA.out]
            refine (get_any B1 c room L S wA hA.cells kn (nat_u8 hkn)).mono ?_
            rintro e wq ⟨rfl, rfl⟩
            have f1 := hcA.cell 1
            have f2 := hcA.cell 2
            simp only [List.getElem?_toArray, List.getElem?_cons_succ, List.getElem?_cons_zero] at f1 f2
            have m0 := b1.cell 0
            have m1 := b1.cell 1
            have m2 := b1.cell 2
            simp only [List.getElem?_toArray, List.getElem?_cons_succ, List.getElem?_cons_zero] at m0 m1 m2
            go_wp2_with fail
            refine (refGet_c a1 a2 c1 S.length c2 room L kn wA r1 hA.cells.len hA.cells.srt).mono ?_
            rintro e wB ⟨rfl, bB⟩
            have hB := hA.below bB
            clear f1 f2 m0 m1 m2 b1 r1 r2 bB hA hcA HwA
            generalize (getL L kn).getD 0 = gv
            generalize gE L kn = ge
            obtain ⟨a5, c5, a6, c6, b5, r5, r6⟩ := hB.box
            have m0 := b5.cell 0
            simp only [List.getElem?_toArray, List.getElem?_cons_zero] at m0
            have hsame := same_ok B1 c room _ _ a5 c5 _ hB.cells r5
            clear b5 r5 r6
            go_wp2_with fail
            refine hsame.mono ?_
            rintro e wZ ⟨rfl, bZ⟩
            have hZ := hB.below bZ
            clear hB bZ m0 hsame
            go_wp2_with fail
            go_roundw
            case rel => exact ⟨j + 1, _, _, hlt, hj1, by go_num, hZ⟩
            case measure => simp [intOf]; omega
          · have t3 : ((kx : Int) % 7 == 3) = false := by rw [beq_eq_false_iff_ne]; omega
            clear c3
            by_cases c4 : kx % 7 = 4
            · have t4 : ((kx : Int) % 7 == 4) = true := by rw [beq_iff_eq]; omega
              clear c4
              cases hg : getL L kn with
              | none =>
                obtain ⟨a1, c1, a2, c2, b1, r1, r2⟩ := hA.box
                have m0 := b1.cell 0
                have m1 := b1.cell 1
                have m2 := b1.cell 2
                simp only [List.getElem?_toArray, List.getElem?_cons_succ, List.getElem?_cons_zero] at m0 m1 m2
                have f1 := hcA.cell 1
                have f2 := hcA.cell 2
                simp only [List.getElem?_toArray, List.getElem?_cons_succ, List.getElem?_cons_zero] at f1 f2
                have hsr := hA.cells.srt
                have hln := hA.cells.len
                rw [HwA.out] at f1 f2 m0 m1 m2
                go_wp2_with fail
                rw [← HwA.out]
                refine (refDrop_no a1 a2 c1 S.length c2 room L kn wA r1 hln hg).mono ?_
                rintro e wB ⟨a3, c3, rfl, r3, bB⟩
                have hB := hA.below bB
                have qB := hcA.same (bB.block _ hcA.lt)
                have bB1 := b1.same (bB.block _ b1.lt)
                have r2B := r2.keep bB
                clear f1 f2 m0 m1 m2 b1 r1 r2 bB hA hcA HwA
                obtain ⟨wN, hwN⟩ : ∃ wN, wN = wB.alloc (.cells #[.slice a3 (L).length c3, .slice a2 S.length c2, .int .i64 room] 28) := ⟨_, rfl⟩
                have hN : AC w B1 c mb room L S L S wN := by rw [hwN]; exact hB.alloc _
                have qN : CB wN wr.heap.size 30 #[.int .u8 kx, .int .u8 kn, .int .i64 vl] := by rw [hwN]; exact qB.alloc _
                have bN : CB wN mb 28 #[.slice a1 L.length c1, .slice a2 S.length c2, .int .i64 room] := by rw [hwN]; exact bB1.alloc _
                have hbl : Below wB.heap.size wB wN := by rw [hwN]; exact (Below.refl wB.heap.size wB).alloc (Nat.le_refl _) _
                have r3N := r3.keep hbl
                have r2N := r2B.keep hbl
                have hM := hN.onM bN r3N r2N
                have nq := qN.ne_ bN (by decide)
                have qM := (((qN.far (p := ⟨mb, 0, none⟩) nq (.slice a3 (L).length c3)).far (p := ⟨mb, 1, none⟩) nq (.slice a2 S.length c2)).far (p := ⟨mb, 2, none⟩) nq (.int .i64 room))
                have m0 := bN.cell 0
                have m1 := bN.cell 1
                have m2 := bN.cell 2
                have x0 := bN.frozen 0
                have x1 := bN.frozen 1
                have x2 := bN.frozen 2
                have f1 := qM.cell 1
                have f2 := qM.cell 2
                simp only [List.getElem?_toArray, List.getElem?_cons_succ, List.getElem?_cons_zero] at m0 m1 m2 f1 f2
                obtain ⟨wM, hwM⟩ : ∃ wM, wM = ((wN.setCell ⟨mb, 0, none⟩ (.slice a3 (L).length c3)).setCell ⟨mb, 1, none⟩ (.slice a2 S.length c2)).setCell ⟨mb, 2, none⟩ (.int .i64 room) := ⟨_, rfl⟩
                rw [← hwM] at hM qM
                have HwM := Lib.hid hwM
                have HwN := Lib.hid hwN
                rw [hwN] at m0 m1 m2 x0 x1 x2 f1 f2
                clear hwM hwN hB qB bB1 r2B r3 hN qN bN r3N r2N hbl nq
                go_wp2_with fail
                rw [← HwN.out, ← HwM.out]
                clear m0 m1 m2 x0 x1 x2 f1 f2 HwM HwN
                refine (drop_no B1 c room L S wM hM.cells kn (nat_u8 hkn) hg).mono ?_
                rintro e wq ⟨rfl, rfl⟩
                clear qM
                obtain ⟨a5, c5, a6, c6, b5, r5, r6⟩ := hM.box
                have m0 := b5.cell 0
                simp only [List.getElem?_toArray, List.getElem?_cons_zero] at m0
                have hsame := same_ok B1 c room _ _ a5 c5 _ hM.cells r5
                clear b5 r5 r6
                go_wp2_with fail
                refine hsame.mono ?_
                rintro e wZ ⟨rfl, bZ⟩
                have hZ := hM.below bZ
                clear hM bZ m0 hsame
                go_wp2_with fail
                go_roundw
                case rel => exact ⟨j + 1, _, _, hlt, hj1, by go_num, hZ⟩
                case measure => simp [intOf]; omega
              | some u =>
                obtain ⟨a1, c1, a2, c2, b1, r1, r2⟩ := hA.box
                have m0 := b1.cell 0
                have m1 := b1.cell 1
                have m2 := b1.cell 2
                simp only [List.getElem?_toArray, List.getElem?_cons_succ, List.getElem?_cons_zero] at m0 m1 m2
                have f1 := hcA.cell 1
                have f2 := hcA.cell 2
                simp only [List.getElem?_toArray, List.getElem?_cons_succ, List.getElem?_cons_zero] at f1 f2
                have hsr := hA.cells.srt
                have hln := hA.cells.len
                rw [HwA.out] at f1 f2 m0 m1 m2
                go_wp2_with fail
                rw [← HwA.out]
                refine (refDrop_yes a1 a2 c1 S.length c2 room L kn wA r1 hln hsr u hg).mono ?_
                rintro e wB ⟨a3, c3, rfl, r3, bB⟩
                have hB := hA.below bB
                have qB := hcA.same (bB.block _ hcA.lt)
                have bB1 := b1.same (bB.block _ b1.lt)
                have r2B := r2.keep bB
                clear f1 f2 m0 m1 m2 b1 r1 r2 bB hA hcA HwA
                obtain ⟨wN, hwN⟩ : ∃ wN, wN = wB.alloc (.cells #[.slice a3 (delL L kn).length c3, .slice a2 S.length c2, .int .i64 room] 28) := ⟨_, rfl⟩
                have hN : AC w B1 c mb room L S L S wN := by rw [hwN]; exact hB.alloc _
                have qN : CB wN wr.heap.size 30 #[.int .u8 kx, .int .u8 kn, .int .i64 vl] := by rw [hwN]; exact qB.alloc _
                have bN : CB wN mb 28 #[.slice a1 L.length c1, .slice a2 S.length c2, .int .i64 room] := by rw [hwN]; exact bB1.alloc _
                have hbl : Below wB.heap.size wB wN := by rw [hwN]; exact (Below.refl wB.heap.size wB).alloc (Nat.le_refl _) _
                have r3N := r3.keep hbl
                have r2N := r2B.keep hbl
                have hM := hN.onM bN r3N r2N
                have nq := qN.ne_ bN (by decide)
                have qM := (((qN.far (p := ⟨mb, 0, none⟩) nq (.slice a3 (delL L kn).length c3)).far (p := ⟨mb, 1, none⟩) nq (.slice a2 S.length c2)).far (p := ⟨mb, 2, none⟩) nq (.int .i64 room))
                have m0 := bN.cell 0
                have m1 := bN.cell 1
                have m2 := bN.cell 2
                have x0 := bN.frozen 0
                have x1 := bN.frozen 1
                have x2 := bN.frozen 2
                have f1 := qM.cell 1
                have f2 := qM.cell 2
                simp only [List.getElem?_toArray, List.getElem?_cons_succ, List.getElem?_cons_zero] at m0 m1 m2 f1 f2
                obtain ⟨wM, hwM⟩ : ∃ wM, wM = ((wN.setCell ⟨mb, 0, none⟩ (.slice a3 (delL L kn).length c3)).setCell ⟨mb, 1, none⟩ (.slice a2 S.length c2)).setCell ⟨mb, 2, none⟩ (.int .i64 room) := ⟨_, rfl⟩
                rw [← hwM] at hM qM
                have HwM := Lib.hid hwM
                have HwN := Lib.hid hwN
                rw [hwN] at m0 m1 m2 x0 x1 x2 f1 f2
                clear hwM hwN hB qB bB1 r2B r3 hN qN bN r3N r2N hbl nq
                go_wp2_with fail
                rw [← HwN.out, ← HwM.out]
                clear m0 m1 m2 x0 x1 x2 f1 f2 HwM HwN
                refine (drop_yes B1 c room L S wM hM.cells kn u (nat_u8 hkn) hg).mono ?_
                rintro e wD ⟨rfl, hD, fD⟩
                have hE := hM.onC hD fD
                clear hM hD fD qM
                obtain ⟨a5, c5, a6, c6, b5, r5, r6⟩ := hE.box
                have m0 := b5.cell 0
                simp only [List.getElem?_toArray, List.getElem?_cons_zero] at m0
                have hsame := same_ok B1 c room _ _ a5 c5 _ hE.cells r5
                clear b5 r5 r6
                go_wp2_with fail
                refine hsame.mono ?_
                rintro e wZ ⟨rfl, bZ⟩
                have hZ := hE.below bZ
                clear hE bZ m0 hsame
                go_wp2_with fail
                go_roundw
                case rel => exact ⟨j + 1, _, _, hlt, hj1, by go_num, hZ⟩
                case measure => simp [intOf]; omega
            · have t4 : ((kx : Int) % 7 == 4) = false := by rw [beq_eq_false_iff_ne]; omega
              clear c4
              by_cases c5 : kx % 7 = 5
              · have t5 : ((kx : Int) % 7 == 5) = true := by rw [beq_iff_eq]; omega
                clear c5
                obtain ⟨a1, c1, a2, c2, b1, r1, r2⟩ := hA.box
                have m0 := b1.cell 0
                have m1 := b1.cell 1
                have m2 := b1.cell 2
                simp only [List.getElem?_toArray, List.getElem?_cons_succ, List.getElem?_cons_zero] at m0 m1 m2
                have x1 := b1.frozen 1
                have hS := hA.safe b1 r1
                obtain ⟨wS, hwS2⟩ : ∃ wS, wS = wA.setCell ⟨mb, 1, none⟩ (.slice a1 L.length c1) := ⟨_, rfl⟩
                rw [← hwS2] at hS
                have HwS := Lib.hid hwS2
                rw [HwA.out] at m0 m1 m2 x1
                clear hwS2 b1 r1 r2 hA hcA
                go_wp2_with fail
                rw [← HwA.out, ← HwS.out]
                clear m0 m1 m2 x1 HwA HwS
                refine (sync_c B1 c room L S wS hS.cells).mono ?_
                rintro e wD ⟨rfl, hD, fD⟩
                have hE := hS.onC hD fD
                clear hS hD fD
                obtain ⟨a5, c5, a6, c6, b5, r5, r6⟩ := hE.box
                have m0 := b5.cell 0
                simp only [List.getElem?_toArray, List.getElem?_cons_zero] at m0
                have hsame := same_ok B1 c room _ _ a5 c5 _ hE.cells r5
                clear b5 r5 r6
                go_wp2_with fail
                refine hsame.mono ?_
                rintro e wZ ⟨rfl, bZ⟩
                have hZ := hE.below bZ
                clear hE bZ m0 hsame
                go_wp2_with fail
                go_roundw
                case rel => exact ⟨j + 1, _, _, hlt, hj1, by go_num, hZ⟩
                case measure => simp [intOf]; omega
              · have t5 : ((kx : Int) % 7 == 5) = false := by rw [beq_eq_false_iff_ne]; omega
                clear c5
                by_cases c6 : kx % 7 = 6
                · have t6 : ((kx : Int) % 7 == 6) = true := by rw [beq_iff_eq]; omega
                  clear c6
                  obtain ⟨a1, c1, a2, c2, b1, r1, r2⟩ := hA.box
                  have m0 := b1.cell 0
                  have m1 := b1.cell 1
                  have m2 := b1.cell 2
                  simp only [List.getElem?_toArray, List.getElem?_cons_succ, List.getElem?_cons_zero] at m0 m1 m2
                  have x1 := b1.frozen 0
                  have hS := hA.back b1 r2
                  obtain ⟨wS, hwS2⟩ : ∃ wS, wS = wA.setCell ⟨mb, 0, none⟩ (.slice a2 S.length c2) := ⟨_, rfl⟩
                  rw [← hwS2] at hS
                  have HwS := Lib.hid hwS2
                  rw [HwA.out] at m0 m1 m2 x1
                  clear hwS2 b1 r1 r2 hA hcA
                  go_wp2_with fail
                  rw [← HwA.out, ← HwS.out]
                  clear m0 m1 m2 x1 HwA HwS
                  refine (crash_c B1 c room L S wS hS.cells).mono ?_
                  rintro e wD ⟨rfl, hD, fD⟩
                  have hE := hS.onC hD fD
                  clear hS hD fD
                  obtain ⟨a5, c5, a6, c6, b5, r5, r6⟩ := hE.box
                  have m0 := b5.cell 0
                  simp only [List.getElem?_toArray, List.getElem?_cons_zero] at m0
                  have hsame := same_ok B1 c room _ _ a5 c5 _ hE.cells r5
                  clear b5 r5 r6
                  go_wp2_with fail
                  refine hsame.mono ?_
                  rintro e wZ ⟨rfl, bZ⟩
                  have hZ := hE.below bZ
                  clear hE bZ m0 hsame
                  go_wp2_with fail
                  go_roundw
                  case rel => exact ⟨j + 1, _, _, hlt, hj1, by go_num, hZ⟩
                  case measure => simp [intOf]; omega
                · have t6 : ((kx : Int) % 7 == 6) = false := by rw [beq_eq_false_iff_ne]; omega
                  clear c6
                  by_cases hr : hasL L kn = true ∨ (L.length : Int) < room
                  · have Hr := Lib.hid hr
                    clear hr
                    obtain ⟨a1, c1, a2, c2, b1, r1, r2⟩ := hA.box
                    have m0 := b1.cell 0
                    have m1 := b1.cell 1
                    have m2 := b1.cell 2
                    simp only [List.getElem?_toArray, List.getElem?_cons_succ, List.getElem?_cons_zero] at m0 m1 m2
                    have f1 := hcA.cell 1
                    have f2 := hcA.cell 2
                    simp only [List.getElem?_toArray, List.getElem?_cons_succ, List.getElem?_cons_zero] at f1 f2
                    have hsr := hA.cells.srt
                    have hln := hA.cells.len
                    rw [HwA.out] at f1 f2 m0 m1 m2
                    go_wp2_with fail
                    rw [← HwA.out]
                    refine (refSet_ok a1 a2 c1 S.length c2 room L kn vl wA r1 hln hsr Hr.out).mono ?_
                    rintro e wB ⟨a3, c3, rfl, r3, bB⟩
                    have hB := hA.below bB
                    have qB := hcA.same (bB.block _ hcA.lt)
                    have bB1 := b1.same (bB.block _ b1.lt)
                    have r2B := r2.keep bB
                    clear f1 f2 m0 m1 m2 b1 r1 r2 bB hA hcA HwA
                    obtain ⟨wN, hwN⟩ : ∃ wN, wN = wB.alloc (.cells #[.slice a3 (putL L kn vl).length c3, .slice a2 S.length c2, .int .i64 room] 28) := ⟨_, rfl⟩
                    have hN : AC w B1 c mb room L S L S wN := by rw [hwN]; exact hB.alloc _
                    have qN : CB wN wr.heap.size 30 #[.int .u8 kx, .int .u8 kn, .int .i64 vl] := by rw [hwN]; exact qB.alloc _
                    have bN : CB wN mb 28 #[.slice a1 L.length c1, .slice a2 S.length c2, .int .i64 room] := by rw [hwN]; exact bB1.alloc _
                    have hbl : Below wB.heap.size wB wN := by rw [hwN]; exact (Below.refl wB.heap.size wB).alloc (Nat.le_refl _) _
                    have r3N := r3.keep hbl
                    have r2N := r2B.keep hbl
                    have hM := hN.onM bN r3N r2N
                    have nq := qN.ne_ bN (by decide)
                    have qM := (((qN.far (p := ⟨mb, 0, none⟩) nq (.slice a3 (putL L kn vl).length c3)).far (p := ⟨mb, 1, none⟩) nq (.slice a2 S.length c2)).far (p := ⟨mb, 2, none⟩) nq (.int .i64 room))
                    have m0 := bN.cell 0
                    have m1 := bN.cell 1
                    have m2 := bN.cell 2
                    have x0 := bN.frozen 0
                    have x1 := bN.frozen 1
                    have x2 := bN.frozen 2
                    have f1 := qM.cell 1
                    have f2 := qM.cell 2
                    simp only [List.getElem?_toArray, List.getElem?_cons_succ, List.getElem?_cons_zero] at m0 m1 m2 f1 f2
                    obtain ⟨wM, hwM⟩ : ∃ wM, wM = ((wN.setCell ⟨mb, 0, none⟩ (.slice a3 (putL L kn vl).length c3)).setCell ⟨mb, 1, none⟩ (.slice a2 S.length c2)).setCell ⟨mb, 2, none⟩ (.int .i64 room) := ⟨_, rfl⟩
                    rw [← hwM] at hM qM
                    have HwM := Lib.hid hwM
                    have HwN := Lib.hid hwN
                    rw [hwN] at m0 m1 m2 x0 x1 x2 f1 f2
                    clear hwM hwN hB qB bB1 r2B r3 hN qN bN r3N r2N hbl nq
                    go_wp2_with fail
                    rw [← HwN.out, ← HwM.out]
                    clear m0 m1 m2 x0 x1 x2 f1 f2 HwM HwN
                    refine (set_ok B1 c room L S wM hM.cells kn vl (nat_u8 hkn) Hvl.out Hr.out).mono ?_
                    rintro e wD ⟨rfl, hD, fD⟩
                    have hE := hM.onC hD fD
                    clear hM hD fD qM
                    obtain ⟨a5, c5, a6, c6, b5, r5, r6⟩ := hE.box
                    have m0 := b5.cell 0
                    simp only [List.getElem?_toArray, List.getElem?_cons_zero] at m0
                    have hsame := same_ok B1 c room _ _ a5 c5 _ hE.cells r5
                    clear b5 r5 r6
                    go_wp2_with fail
                    refine hsame.mono ?_
                    rintro e wZ ⟨rfl, bZ⟩
                    have hZ := hE.below bZ
                    clear hE bZ m0 hsame
                    go_wp2_with fail
                    go_roundw
                    case rel => exact ⟨j + 1, _, _, hlt, hj1, by go_num, hZ⟩
                    case measure => simp [intOf]; omega
                  · have hg : getL L kn = none := by
                      cases hh : getL L kn with
                      | none => rfl
                      | some u => exact absurd (.inl (by rw [has_get, hh]; rfl)) hr
                    have hfl : (L.length : Int) = room := by
                      have := hA.cells.fit
                      have : ¬ (L.length : Int) < room := fun h => hr (.inr h)
                      omega
                    have hle : room ≤ (L.length : Int) := by omega
                    have Hfl := Lib.hid hfl
                    have Hle := Lib.hid hle
                    clear hr hfl hle
                    obtain ⟨a1, c1, a2, c2, b1, r1, r2⟩ := hA.box
                    have m0 := b1.cell 0
                    have m1 := b1.cell 1
                    have m2 := b1.cell 2
                    simp only [List.getElem?_toArray, List.getElem?_cons_succ, List.getElem?_cons_zero] at m0 m1 m2
                    have f1 := hcA.cell 1
                    have f2 := hcA.cell 2
                    simp only [List.getElem?_toArray, List.getElem?_cons_succ, List.getElem?_cons_zero] at f1 f2
                    have hsr := hA.cells.srt
                    have hln := hA.cells.len
                    rw [HwA.out] at f1 f2 m0 m1 m2
                    go_wp2_with fail
                    rw [← HwA.out]
                    refine (refSet_full a1 a2 c1 S.length c2 room L kn vl wA r1 hln hg Hle.out).mono ?_
                    rintro e wB ⟨a3, c3, rfl, r3, bB⟩
                    have hB := hA.below bB
                    have qB := hcA.same (bB.block _ hcA.lt)
                    have bB1 := b1.same (bB.block _ b1.lt)
                    have r2B := r2.keep bB
                    clear f1 f2 m0 m1 m2 b1 r1 r2 bB hA hcA HwA
                    obtain ⟨wN, hwN⟩ : ∃ wN, wN = wB.alloc (.cells #[.slice a3 (L).length c3, .slice a2 S.length c2, .int .i64 room] 28) := ⟨_, rfl⟩
                    have hN : AC w B1 c mb room L S L S wN := by rw [hwN]; exact hB.alloc _
                    have qN : CB wN wr.heap.size 30 #[.int .u8 kx, .int .u8 kn, .int .i64 vl] := by rw [hwN]; exact qB.alloc _
                    have bN : CB wN mb 28 #[.slice a1 L.length c1, .slice a2 S.length c2, .int .i64 room] := by rw [hwN]; exact bB1.alloc _
                    have hbl : Below wB.heap.size wB wN := by rw [hwN]; exact (Below.refl wB.heap.size wB).alloc (Nat.le_refl _) _
                    have r3N := r3.keep hbl
                    have r2N := r2B.keep hbl
                    have hM := hN.onM bN r3N r2N
                    have nq := qN.ne_ bN (by decide)
                    have qM := (((qN.far (p := ⟨mb, 0, none⟩) nq (.slice a3 (L).length c3)).far (p := ⟨mb, 1, none⟩) nq (.slice a2 S.length c2)).far (p := ⟨mb, 2, none⟩) nq (.int .i64 room))
                    have m0 := bN.cell 0
                    have m1 := bN.cell 1
                    have m2 := bN.cell 2
                    have x0 := bN.frozen 0
                    have x1 := bN.frozen 1
                    have x2 := bN.frozen 2
                    have f1 := qM.cell 1
                    have f2 := qM.cell 2
                    simp only [List.getElem?_toArray, List.getElem?_cons_succ, List.getElem?_cons_zero] at m0 m1 m2 f1 f2
                    obtain ⟨wM, hwM⟩ : ∃ wM, wM = ((wN.setCell ⟨mb, 0, none⟩ (.slice a3 (L).length c3)).setCell ⟨mb, 1, none⟩ (.slice a2 S.length c2)).setCell ⟨mb, 2, none⟩ (.int .i64 room) := ⟨_, rfl⟩
                    rw [← hwM] at hM qM
                    have HwM := Lib.hid hwM
                    have HwN := Lib.hid hwN
                    rw [hwN] at m0 m1 m2 x0 x1 x2 f1 f2
                    clear hwM hwN hB qB bB1 r2B r3 hN qN bN r3N r2N hbl nq
                    go_wp2_with fail
                    rw [← HwN.out, ← HwM.out]
                    clear m0 m1 m2 x0 x1 x2 f1 f2 HwM HwN
                    refine (set_full B1 c room L S wM hM.cells kn vl (nat_u8 hkn) hg Hfl.out).mono ?_
                    rintro e wD ⟨rfl, nD, hwD⟩
                    have hE : AC w B1 c mb room L S L S wD := by rw [hwD]; exact hM.drewN _
                    clear hM hwD qM
                    obtain ⟨a5, c5, a6, c6, b5, r5, r6⟩ := hE.box
                    have m0 := b5.cell 0
                    simp only [List.getElem?_toArray, List.getElem?_cons_zero] at m0
                    have hsame := same_ok B1 c room _ _ a5 c5 _ hE.cells r5
                    clear b5 r5 r6
                    go_wp2_with fail
                    refine hsame.mono ?_
                    rintro e wZ ⟨rfl, bZ⟩
                    have hZ := hE.below bZ
                    clear hE bZ m0 hsame
                    go_wp2_with fail
                    go_roundw
                    case rel => exact ⟨j + 1, _, _, hlt, hj1, by go_num, hZ⟩
                    case measure => simp [intOf]; omega
        · obtain rfl : j = 100 := by omega
          go_wp2_with fail
          go_ret
          exact ⟨rfl, hA0.low⟩
      · go_wp2_with fail
        go_ret
        exact ⟨rfl, hA0.low⟩
  · have hno : room < 1 ∨ 10000 < room := by omega
    have hd : (decide (1 ≤ room) && decide (room ≤ 10000)) = false := by simp; omega
    rcases hno with hno | hno
    · go_enter Try.func3, Try.ntmps3
      go_wp2_with fail
      refine (alive_c _).mono ?_
      rintro e w1 ⟨rfl, b1⟩
      go_wp2_with fail
      refine (new_no room _ (.inl hno)).mono ?_
      rintro e w2 ⟨rfl, rfl⟩
      have hn1 : ¬ 1 ≤ room := by omega
      have b2 := b1.alloc b1.size (.cells #[.slice none 0 0, .slice none 0 0, .int .i64 room] 28)
      have Hb2 := Lib.hid b2
      clear b1 b2
      go_wp2_with fail
      go_loop [7] (fun i => i = .int .i64 0) (fun _ => 0)
      case atStart => rfl
      case round =>
        subst hrel
        go_wp2_with fail
        go_ret
        exact ⟨rfl, Hb2.out⟩
    · go_enter Try.func3, Try.ntmps3
      go_wp2_with fail
      refine (alive_c _).mono ?_
      rintro e w1 ⟨rfl, b1⟩
      go_wp2_with fail
      refine (new_no room _ (.inr hno)).mono ?_
      rintro e w2 ⟨rfl, rfl⟩
      have hn1 : 1 ≤ room := by omega
      have hn2 : ¬ room ≤ 10000 := by omega
      have b2 := b1.alloc b1.size (.cells #[.slice none 0 0, .slice none 0 0, .int .i64 room] 28)
      have Hb2 := Lib.hid b2
      clear b1 b2
      go_wp2_with fail
      go_loop [7] (fun i => i = .int .i64 0) (fun _ => 0)
      case atStart => rfl
      case round =>
        subst hrel
        go_wp2_with fail
        go_ret
        exact ⟨rfl, Hb2.out⟩
end Go.Proofs.Ytopgnjnnijhpkaa
