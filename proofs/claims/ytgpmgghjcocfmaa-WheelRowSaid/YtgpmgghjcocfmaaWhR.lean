/-
  The law WheelRow: its walk. Condition: the acts can be read.
-/
import Derived.Test.YtgpmgghjcocfmaaWhN
import Derived.Test.YtgpmgghjcocfmaaWhI
import Derived.Test.YtgpmgghjcocfmaaWhO
set_option linter.unusedVariables false
set_option linter.unusedSimpArgs false
namespace Go.Proofs.Ytgpmgghjcocfmaa
open Go.RowKit

theorem u8_nat {x : Int} (h : (Lit.int .u8 x).wf = true) : ∃ k : Nat, (k : Int) = x ∧ k < 256 := by
  have := bounds_u8 h
  exact ⟨x.toNat, by omega, by omega⟩
theorem CameA.at_ {w wr : World} {a : Option Addr} {acts : List ActV} (h : CameA w a acts) (hb : Below w.heap.size w wr) {j : Nat} {v : ActV} (hj : acts[j]? = some v) :
    v.ok ∧ ∃ g off, a = some ⟨g, off, none⟩ ∧ wr.cell? ⟨g, off + j * 3, none⟩ = some (.int .u8 v.kind) ∧ wr.cell? ⟨g, off + j * 3 + 1, none⟩ = some (.int .i64 v.id) ∧ wr.cell? ⟨g, off + j * 3 + 2, none⟩ = some (.int .i64 v.at_) := by
  obtain ⟨h1, g, off, h2, h3, h4, h5, h6⟩ := h j v hj
  have key : ∀ {o : Nat} {u : Value}, w.cell? ⟨g, o, none⟩ = some u → wr.cell? ⟨g, o, none⟩ = some u := fun {o} {u} hc => by
    rw [← hc]
    exact World.cell?_of_block (a := ⟨g, o, none⟩) (hb.block g h3)
  exact ⟨h1, g, off, h2, key h4, key h5, key h6⟩

/-- Behind some acts: the program's wheel and the document's, in their variables. -/
structure RI (w : World) (b3 b4 : Nat) (now : Int) (L : List (Int × Int)) (W : World) : Prop where
  a : ∃ A n c, Box W b3 28 now A n c ∧ TS W 66 A n c L
  m : ∃ A n c, Box W b4 24 now A n c ∧ TR W A n c L
  low : Below w.heap.size w W
  ri : RightP now L

set_option maxRecDepth 100000 in
set_option maxHeartbeats 8000000 in
theorem row_walk (a : Option Addr) (cap : Nat) (acts : List ActV) (w : World) (h0 : CameA w a acts) (hm0 : acts.length ≤ maxLen) :
    Calls Try.prog 4 #[.slice a acts.length cap] w fun e w' => e = .returned (.bool true) ∧ Below w.heap.size w w' := by
  simp only [maxLen] at hm0
  obtain ⟨na, hna⟩ : ∃ na, acts.length = na := ⟨_, rfl⟩
  have Hna := Lib.hid hna
  rw [hna] at hm0 ⊢
  clear hna
  go_enter Try.func4, Try.ntmps4
  go_wp2_with fail
  refine (alive_c w).mono ?_
  rintro e w1 ⟨rfl, b1⟩
  obtain ⟨W0, hW0, c3, k3⟩ := boxed w1 28 0 none 0 0
  obtain ⟨V, hV, c4, k4⟩ := boxed W0 24 0 none 0 0
  have hs0 : W0.heap.size = w1.heap.size + 1 := by rw [← hW0]; simp
  rw [hs0] at c4
  have HV := Lib.hid (show (w1.alloc (.cells #[.int .i64 0, .slice none 0 0] 28)).alloc (.cells #[.int .i64 0, .slice none 0 0] 24) = V by rw [hW0, hV])
  have hst : RI w w1.heap.size (w1.heap.size + 1) 0 [] V := ⟨⟨none, 0, 0, c3.on k4 c3.lt, TS.nil _ _⟩, ⟨none, 0, 0, c4, TR.nil _⟩, bel2 (bel2 b1 k3) k4, by decide⟩
  have Hst := Lib.hid hst
  have hlo := b1.size
  clear hW0 hV c3 c4 k3 k4 hs0 hst b1
  go_wp2_with fail
  rw [HV.out]
  clear HV
  generalize w1.heap.size = b3 at *
  go_loopw [5] (fun i wr => ∃ (j : Nat) (now : Int) (L : List (Int × Int)), j ≤ na ∧ j ≤ 100 ∧ i = .int .i64 j ∧ RI w b3 (b3 + 1) now L wr) (fun i _ => na - (intOf i).toNat)
  case atStart => exact ⟨0, 0, [], by omega, by omega, rfl, Hst.out⟩
  case round =>
    clear Hst
    obtain ⟨j, now, L, hj, hj100, rfl, hri⟩ := hrel
    have hlow := hri.low
    by_cases hlt : j < na
    · by_cases hj1 : j < 100
      · obtain ⟨av, hav⟩ : ∃ av, acts[j]? = some av := ⟨_, List.getElem?_eq_getElem (by rw [Hna.out]; exact hlt)⟩
        obtain ⟨hok, b, off, rfl, d0, d1, d2⟩ := h0.at_ hlow hav
        obtain ⟨kd, ky, vl⟩ := av
        obtain ⟨hkd, hky, hvl⟩ := hok
        simp only at d0 d1 d2 hky hvl hkd
        obtain ⟨kx, rfl, hkx⟩ := u8_nat hkd
        have Hvl := Lib.hid hvl
        have Hky := Lib.hid hky
        have HRi := Lib.hid hri.ri
        obtain ⟨Aa, n3, ca, ba, ta⟩ := hri.a
        obtain ⟨Am, n4, cm, bm, tm⟩ := hri.m
        have hn3 : n3 ≤ 100000 := by have h1 := ta.len; have h2 := HRi.out.1; omega
        have hn4 : n4 ≤ 100000 := by have h1 := tm.len; have h2 := HRi.out.1; omega
        clear hav hvl hky hkd hri
        obtain ⟨wA, hwA⟩ : ∃ wA, wr.alloc (.cells #[.int .u8 kx, .int .i64 ky, .int .i64 vl] 54) = wA := ⟨_, rfl⟩
        have HwA := Lib.hid hwA
        have kA : Below wr.heap.size wr wA := by rw [← hwA]; exact (Below.refl _ _).alloc (Nat.le_refl _) _
        have cA : CB wA wr.heap.size 54 #[.int .u8 kx, .int .i64 ky, .int .i64 vl] := by rw [← hwA]; exact CB.new _ _ _
        have hrl : b3 + 1 < wr.heap.size := bm.lt
        have hra : b3 < wr.heap.size := ba.lt
        obtain ⟨e0, e1⟩ := ba.cells
        have baA := ba.on kA ba.lt
        have bmA := bm.on kA bm.lt
        have taA := ta.on kA
        have tmA := tm.on kA
        have blA := bel2 hlow kA
        clear hwA kA ba bm ta tm hlow
        by_cases c2 : kx % 5 = 2
        · have t2 : ((kx : Int) % 5 == 2) = true := by rw [beq_iff_eq]; omega
          clear c2
          obtain ⟨NL, hNL⟩ : ∃ x, sStop now L ky = x := ⟨_, rfl⟩
          obtain ⟨NW, hNW⟩ : ∃ x, now = x := ⟨_, rfl⟩
          obtain ⟨ER, hER⟩ : ∃ x, eStop now L ky = x := ⟨_, rfl⟩
          have HRN := Lib.hid (show RightP NW NL by rw [← hNL, ← hNW]; exact right_stop HRi.out)
          have HNL := Lib.hid hNL
          have HNW := Lib.hid hNW
          have HER := Lib.hid hER
          clear hNL hNW hER
          have hEE : ((ER : Int) == ER) = true := by simp
          go_wp2_with fail
          rw [HwA.out]
          refine (stop_w now Aa n3 ca ky L wA taA.tr hn3).mono ?_
          rw [HNL.out, HER.out]
          rintro e w1 ⟨A1, n1, c1, rfl, x1, k1⟩
          have hn1 : n1 ≤ 100000 := by have h1 := x1.len; have h2 := HRN.out.1; omega
          have baB := baA.on k1 baA.lt
          have bmB := bmA.on k1 bmA.lt
          have tmC := tmA.on k1
          have cB := cA.same (k1.block _ cA.lt)
          have blB := bel2 blA k1
          have lA := cB.lt
          have lM := bmB.lt
          clear baA bmA taA tmA cA blA k1 e0 e1
          obtain ⟨X1, hX1, bn1, q1⟩ := boxed w1 28 now A1 n1 c1
          have HX1 := Lib.hid hX1
          obtain ⟨e0, e1⟩ := bmB.cells
          have g0 := cB.cell 0
          have g1 := cB.cell 1
          have g2 := cB.cell 2
          simp only [List.getElem?_toArray, List.getElem?_cons_succ, List.getElem?_cons_zero] at g0 g1 g2
          have baC := baB.on q1 baB.lt
          have bmC := bmB.on q1 bmB.lt
          have tmB := tmC.on q1
          have xB := x1.on q1
          have blC := bel2 blB q1
          clear hX1 baB bmB tmC cB blB q1 x1
          go_wp2_with fail
          rw [HX1.out]
          clear e0 e1 g0 g1 g2 HX1
          refine (stop_r now Am n4 cm ky L X1 tmB hn4).mono ?_
          rw [HNL.out, HER.out]
          rintro e w2 ⟨A2, n2, c2, rfl, x2, k2⟩
          have hn2 : n2 ≤ 100000 := by have h1 := x2.len; have h2 := HRN.out.1; omega
          have bnD := bn1.on k2 bn1.lt
          have baD := baC.on k2 baC.lt
          have bmD := bmC.on k2 bmC.lt
          have xD := xB.on k2
          have blD := bel2 blC k2
          clear bn1 baC bmC tmB xB blC k2
          obtain ⟨X2, hX2, bn2, q2⟩ := boxed w2 24 now A2 n2 c2
          have HX2 := Lib.hid hX2
          have bnE := bnD.on q2 bnD.lt
          have baE := baD.on q2 baD.lt
          have bmE := bmD.on q2 bmD.lt
          have xE := xD.on q2
          have xF := x2.on q2
          have blE := bel2 blD q2
          have l1 : w1.heap.size < w2.heap.size := bnD.lt
          have l3 : b3 + 1 < w2.heap.size := bmD.lt
          clear hX2 bnD baD bmD xD x2 blD q2
          obtain ⟨x0, x1⟩ := bnE.cells
          obtain ⟨z0, z1⟩ := baE.cells
          obtain ⟨f0, f1⟩ := baE.froz
          obtain ⟨w3, hw3, a3, hs3, kbx, kb, ktr, kts, kis, _⟩ := store_end baE now A1 n1 c1
          have bnG := kbx _ _ _ _ _ _ (show w2.heap.size ≠ b3 by omega) bn2
          have bmG := kbx _ _ _ _ _ _ (show b3 + 1 ≠ b3 by omega) bmE
          have xG := kts _ _ _ _ _ (by decide) xE
          have xH := ktr _ _ _ _ xF
          have blG := kb _ _ blE hlo
          clear kbx kb ktr kts kis bn2 bmE xE xF blE baE bnE
          obtain ⟨y0, y1⟩ := bnG.cells
          obtain ⟨u0, u1⟩ := bmG.cells
          obtain ⟨v0, v1⟩ := bmG.froz
          obtain ⟨w4, hw4, m4, hs4, kbx, kb, ktr, kts, kis, _⟩ := store_end bmG now A2 n2 c2
          have a4 := kbx _ _ _ _ _ _ (show b3 ≠ b3 + 1 by omega) a3
          have xI := kts _ _ _ _ _ (by decide) xG
          have xJ := ktr _ _ _ _ xH
          have blI := kb _ _ blG (by omega)
          have Hw3 := Lib.hid hw3
          have Hw4 := Lib.hid hw4
          clear kbx kb ktr kts kis bnG bmG xG xH blG a3 hw3 hw4 hs3 hs4
          rw [← Hw3.out, ← HX2.out] at y0 y1 u0 u1 v0 v1
          rw [← HX2.out] at x0 x1 z0 z1 f0 f1
          have lAw : wr.heap.size < w2.heap.size := by omega
          go_wp2_with fail
          rw [HX2.out, Hw3.out, Hw4.out]
          clear x0 x1 z0 z1 f0 f1 y0 y1 u0 u1 v0 v1 HX2 Hw3 Hw4
          obtain ⟨w5, hw5⟩ : ∃ w5, w4 = w5 := ⟨_, rfl⟩
          rw [hw5] at a4 m4 xI xJ blI ⊢
          clear hw5
          have a5 := a4
          have m5 := m4
          have xK := xI
          have xL := xJ
          have bl5 := blI
          clear a4 m4 xI xJ blI
          have hrb : rightB now NL = true := rightB_iff.2 (by have := HRN.out; rwa [← HNW.out] at this)
          go_region_held3 (fun W' => (W'.cell? ⟨b3, 0, none⟩ = some (.int .i64 now) ∧ W'.cell? ⟨b3, 1, none⟩ = some (.slice A1 n1 c1)) ∧ (W'.cell? ⟨b3 + 1, 0, none⟩ = some (.int .i64 now) ∧ W'.cell? ⟨b3 + 1, 1, none⟩ = some (.slice A2 n2 c2))) (first | exact ⟨a5.cells, m5.cells⟩ | exact ⟨a6.cells, m6.cells⟩ | exact ⟨a7.cells, m7.cells⟩ | exact ⟨a8.cells, m8.cells⟩) (first
            | (go_at_call 22; refine (ours_c now A1 n1 c1 NL w5.drew xK.drew.tr hn1).mono ?_; rintro e w6 ⟨U, un, uc, rfl, ux, j6⟩; have hun : un ≤ 100000 := (by have h1 := ux.len; have h2 := HRN.out.1; omega); have a6 := a5.drew.on j6 a5.lt; have m6 := m5.drew.on j6 m5.lt; have x6 := xK.on (below_drew j6); have y6 := xL.on (below_drew j6); have bl6 := bel2 bl5 (below_drew j6))
            | (go_at_call 21; (with_reducible refine (same_r now U A2 un uc n2 c2 NL w6 ux.tr y6 hun).mono ?_); rintro e w7 ⟨rfl, j7⟩; have a7 := a6.on j7 a6.lt; have m7 := m6.on j7 m6.lt; have x7 := x6.on j7; have y7 := y6.on j7; have bl7 := bel2 bl6 j7)
            | (go_at_call 20; (with_reducible refine (right_w now A1 n1 c1 NL w7 x7.tr hn1).mono ?_); rw [hrb]; rintro e w8 ⟨rfl, j8⟩; have a8 := a7.on j8 a7.lt; have m8 := m7.on j8 m7.lt; have x8 := x7.on j8; have y8 := y7.on j8; have bl8 := bel2 bl7 j8))
          have Hnext := Lib.hid (show RI w b3 (b3 + 1) now NL w8 from ⟨⟨A1, n1, c1, a8, x8⟩, ⟨A2, n2, c2, m8, y8⟩, bl8, rightB_iff.1 hrb⟩)
          clear a5 a6 a7 a8 m5 m6 m7 m8 xK x6 x7 x8 xL y6 y7 y8 bl5 bl6 bl7 bl8 ux
          go_wp2_with fail
          go_roundw
          case rel => exact ⟨j + 1, now, NL, by omega, by omega, by go_num, Hnext.out⟩
          case measure => simp [intOf]; omega
        · have t2 : ((kx : Int) % 5 == 2) = false := by rw [beq_eq_false_iff_ne]; omega
          clear c2
          by_cases c3 : kx % 5 = 3
          · have t3 : ((kx : Int) % 5 == 3) = true := by rw [beq_iff_eq]; omega
            clear c3
            obtain ⟨NL, hNL⟩ : ∃ x, sTick now L vl = x := ⟨_, rfl⟩
            obtain ⟨NW, hNW⟩ : ∃ x, nTick now L vl = x := ⟨_, rfl⟩
            obtain ⟨ER, hER⟩ : ∃ x, eTick now L vl = x := ⟨_, rfl⟩
            have HRN := Lib.hid (show RightP NW NL by rw [← hNL, ← hNW]; exact right_tick HRi.out)
            have HNL := Lib.hid hNL
            have HNW := Lib.hid hNW
            have HER := Lib.hid hER
            clear hNL hNW hER
            have hEE : ((ER : Int) == ER) = true := by simp
            go_wp2_with fail
            rw [HwA.out]
            refine (tick_w now Aa n3 ca vl L wA taA.tr hn3).mono ?_
            rw [HNL.out, HER.out, HNW.out]
            rintro e w1 ⟨A1, n1, c1, I1, m1, s1, rfl, x1, y1, k1⟩
            have hn1 : n1 ≤ 100000 := by have h1 := x1.len; have h2 := HRN.out.1; omega
            have baB := baA.on k1 baA.lt
            have bmB := bmA.on k1 bmA.lt
            have tmC := tmA.on k1
            have cB := cA.same (k1.block _ cA.lt)
            have blB := bel2 blA k1
            have lA := cB.lt
            have lM := bmB.lt
            clear baA bmA taA tmA cA blA k1 e0 e1
            obtain ⟨X1, hX1, bn1, q1⟩ := boxed w1 28 NW A1 n1 c1
            have HX1 := Lib.hid hX1
            obtain ⟨e0, e1⟩ := bmB.cells
            have g0 := cB.cell 0
            have g1 := cB.cell 1
            have g2 := cB.cell 2
            simp only [List.getElem?_toArray, List.getElem?_cons_succ, List.getElem?_cons_zero] at g0 g1 g2
            have baC := baB.on q1 baB.lt
            have bmC := bmB.on q1 bmB.lt
            have tmB := tmC.on q1
            have xB := x1.on q1
            have yB := y1.on q1
            have blC := bel2 blB q1
            clear hX1 baB bmB tmC cB blB q1 x1 y1
            go_wp2_with fail
            rw [HX1.out]
            clear e0 e1 g0 g1 g2 HX1
            refine (tick_r now Am n4 cm vl L X1 tmB hn4).mono ?_
            rw [HNL.out, HER.out, HNW.out]
            rintro e w2 ⟨A2, n2, c2, I2, m2, s2, rfl, x2, y2, k2⟩
            have hn2 : n2 ≤ 100000 := by have h1 := x2.len; have h2 := HRN.out.1; omega
            have bnD := bn1.on k2 bn1.lt
            have baD := baC.on k2 baC.lt
            have bmD := bmC.on k2 bmC.lt
            have xD := xB.on k2
            have yD := yB.on k2
            have blD := bel2 blC k2
            clear bn1 baC bmC tmB xB blC k2 yB
            obtain ⟨X2, hX2, bn2, q2⟩ := boxed w2 24 NW A2 n2 c2
            have HX2 := Lib.hid hX2
            have bnE := bnD.on q2 bnD.lt
            have baE := baD.on q2 baD.lt
            have bmE := bmD.on q2 bmD.lt
            have xE := xD.on q2
            have xF := x2.on q2
            have yE := yD.on q2
            have yF := y2.on q2
            have blE := bel2 blD q2
            have l1 : w1.heap.size < w2.heap.size := bnD.lt
            have l3 : b3 + 1 < w2.heap.size := bmD.lt
            clear hX2 bnD baD bmD xD x2 blD q2 yD y2
            obtain ⟨x0, x1⟩ := bnE.cells
            obtain ⟨z0, z1⟩ := baE.cells
            obtain ⟨f0, f1⟩ := baE.froz
            obtain ⟨w3, hw3, a3, hs3, kbx, kb, ktr, kts, kis, _⟩ := store_end baE NW A1 n1 c1
            have bnG := kbx _ _ _ _ _ _ (show w2.heap.size ≠ b3 by omega) bn2
            have bmG := kbx _ _ _ _ _ _ (show b3 + 1 ≠ b3 by omega) bmE
            have xG := kts _ _ _ _ _ (by decide) xE
            have xH := ktr _ _ _ _ xF
            have yG := kis _ _ _ _ (by decide) yE
            have yH := kis _ _ _ _ (by decide) yF
            have blG := kb _ _ blE hlo
            clear kbx kb ktr kts kis bn2 bmE xE xF blE baE bnE yE yF
            obtain ⟨y0, y1⟩ := bnG.cells
            obtain ⟨u0, u1⟩ := bmG.cells
            obtain ⟨v0, v1⟩ := bmG.froz
            obtain ⟨w4, hw4, m4, hs4, kbx, kb, ktr, kts, kis, _⟩ := store_end bmG NW A2 n2 c2
            have a4 := kbx _ _ _ _ _ _ (show b3 ≠ b3 + 1 by omega) a3
            have xI := kts _ _ _ _ _ (by decide) xG
            have xJ := ktr _ _ _ _ xH
            have yI := kis _ _ _ _ (by decide) yG
            have yJ := kis _ _ _ _ (by decide) yH
            have blI := kb _ _ blG (by omega)
            have Hw3 := Lib.hid hw3
            have Hw4 := Lib.hid hw4
            clear kbx kb ktr kts kis bnG bmG xG xH blG a3 hw3 hw4 hs3 hs4 yG yH
            rw [← Hw3.out, ← HX2.out] at y0 y1 u0 u1 v0 v1
            rw [← HX2.out] at x0 x1 z0 z1 f0 f1
            have lAw : wr.heap.size < w2.heap.size := by omega
            go_wp2_with fail
            rw [HX2.out, Hw3.out, Hw4.out]
            clear x0 x1 z0 z1 f0 f1 y0 y1 u0 u1 v0 v1 HX2 Hw3 Hw4
            refine (same_i _ _ _ _ _ _ _ w4 yI yJ).mono ?_
            rintro e w5 ⟨rfl, k5⟩
            have a5 := a4.on k5 a4.lt
            have m5 := m4.on k5 m4.lt
            have xK := xI.on k5
            have xL := xJ.on k5
            have bl5 := bel2 blI k5
            clear a4 m4 xI xJ yI yJ blI k5
            go_wp2_with fail
            have hrb : rightB NW NL = true := rightB_iff.2 HRN.out
            go_region_held3 (fun W' => (W'.cell? ⟨b3, 0, none⟩ = some (.int .i64 NW) ∧ W'.cell? ⟨b3, 1, none⟩ = some (.slice A1 n1 c1)) ∧ (W'.cell? ⟨b3 + 1, 0, none⟩ = some (.int .i64 NW) ∧ W'.cell? ⟨b3 + 1, 1, none⟩ = some (.slice A2 n2 c2))) (first | exact ⟨a5.cells, m5.cells⟩ | exact ⟨a6.cells, m6.cells⟩ | exact ⟨a7.cells, m7.cells⟩ | exact ⟨a8.cells, m8.cells⟩) (first
              | (go_at_call 22; refine (ours_c NW A1 n1 c1 NL w5.drew xK.drew.tr hn1).mono ?_; rintro e w6 ⟨U, un, uc, rfl, ux, j6⟩; have hun : un ≤ 100000 := (by have h1 := ux.len; have h2 := HRN.out.1; omega); have a6 := a5.drew.on j6 a5.lt; have m6 := m5.drew.on j6 m5.lt; have x6 := xK.on (below_drew j6); have y6 := xL.on (below_drew j6); have bl6 := bel2 bl5 (below_drew j6))
              | (go_at_call 21; (with_reducible refine (same_r NW U A2 un uc n2 c2 NL w6 ux.tr y6 hun).mono ?_); rintro e w7 ⟨rfl, j7⟩; have a7 := a6.on j7 a6.lt; have m7 := m6.on j7 m6.lt; have x7 := x6.on j7; have y7 := y6.on j7; have bl7 := bel2 bl6 j7)
              | (go_at_call 20; (with_reducible refine (right_w NW A1 n1 c1 NL w7 x7.tr hn1).mono ?_); rw [hrb]; rintro e w8 ⟨rfl, j8⟩; have a8 := a7.on j8 a7.lt; have m8 := m7.on j8 m7.lt; have x8 := x7.on j8; have y8 := y7.on j8; have bl8 := bel2 bl7 j8))
            have Hnext := Lib.hid (show RI w b3 (b3 + 1) NW NL w8 from ⟨⟨A1, n1, c1, a8, x8⟩, ⟨A2, n2, c2, m8, y8⟩, bl8, HRN.out⟩)
            clear a5 a6 a7 a8 m5 m6 m7 m8 xK x6 x7 x8 xL y6 y7 y8 bl5 bl6 bl7 bl8 ux
            go_wp2_with fail
            go_roundw
            case rel => exact ⟨j + 1, NW, NL, by omega, by omega, by go_num, Hnext.out⟩
            case measure => simp [intOf]; omega
          · have t3 : ((kx : Int) % 5 == 3) = false := by rw [beq_eq_false_iff_ne]; omega
            clear c3
            by_cases c4 : kx % 5 = 4
            · have t4 : ((kx : Int) % 5 == 4) = true := by rw [beq_iff_eq]; omega
              clear c4
              obtain ⟨NL, hNL⟩ : ∃ x, sTick now L vl = x := ⟨_, rfl⟩
              obtain ⟨NW, hNW⟩ : ∃ x, nTick now L vl = x := ⟨_, rfl⟩
              obtain ⟨ER, hER⟩ : ∃ x, eTick now L vl = x := ⟨_, rfl⟩
              have HRN := Lib.hid (show RightP NW NL by rw [← hNL, ← hNW]; exact right_tick HRi.out)
              have HNL := Lib.hid hNL
              have HNW := Lib.hid hNW
              have HER := Lib.hid hER
              clear hNL hNW hER
              have hEE : ((ER : Int) == ER) = true := by simp
              go_wp2_with fail
              rw [HwA.out]
              refine (tick_w now Aa n3 ca vl L wA taA.tr hn3).mono ?_
              rw [HNL.out, HER.out, HNW.out]
              rintro e w1 ⟨A1, n1, c1, I1, m1, s1, rfl, x1, y1, k1⟩
              have hn1 : n1 ≤ 100000 := by have h1 := x1.len; have h2 := HRN.out.1; omega
              have baB := baA.on k1 baA.lt
              have bmB := bmA.on k1 bmA.lt
              have tmC := tmA.on k1
              have cB := cA.same (k1.block _ cA.lt)
              have blB := bel2 blA k1
              have lA := cB.lt
              have lM := bmB.lt
              clear baA bmA taA tmA cA blA k1 e0 e1
              obtain ⟨X1, hX1, bn1, q1⟩ := boxed w1 28 NW A1 n1 c1
              have HX1 := Lib.hid hX1
              obtain ⟨e0, e1⟩ := bmB.cells
              have g0 := cB.cell 0
              have g1 := cB.cell 1
              have g2 := cB.cell 2
              simp only [List.getElem?_toArray, List.getElem?_cons_succ, List.getElem?_cons_zero] at g0 g1 g2
              have baC := baB.on q1 baB.lt
              have bmC := bmB.on q1 bmB.lt
              have tmB := tmC.on q1
              have xB := x1.on q1
              have yB := y1.on q1
              have blC := bel2 blB q1
              clear hX1 baB bmB tmC cB blB q1 x1 y1
              go_wp2_with fail
              rw [HX1.out]
              clear e0 e1 g0 g1 g2 HX1
              refine (tick_r now Am n4 cm vl L X1 tmB hn4).mono ?_
              rw [HNL.out, HER.out, HNW.out]
              rintro e w2 ⟨A2, n2, c2, I2, m2, s2, rfl, x2, y2, k2⟩
              have hn2 : n2 ≤ 100000 := by have h1 := x2.len; have h2 := HRN.out.1; omega
              have bnD := bn1.on k2 bn1.lt
              have baD := baC.on k2 baC.lt
              have bmD := bmC.on k2 bmC.lt
              have xD := xB.on k2
              have yD := yB.on k2
              have blD := bel2 blC k2
              clear bn1 baC bmC tmB xB blC k2 yB
              obtain ⟨X2, hX2, bn2, q2⟩ := boxed w2 24 NW A2 n2 c2
              have HX2 := Lib.hid hX2
              have bnE := bnD.on q2 bnD.lt
              have baE := baD.on q2 baD.lt
              have bmE := bmD.on q2 bmD.lt
              have xE := xD.on q2
              have xF := x2.on q2
              have yE := yD.on q2
              have yF := y2.on q2
              have blE := bel2 blD q2
              have l1 : w1.heap.size < w2.heap.size := bnD.lt
              have l3 : b3 + 1 < w2.heap.size := bmD.lt
              clear hX2 bnD baD bmD xD x2 blD q2 yD y2
              obtain ⟨x0, x1⟩ := bnE.cells
              obtain ⟨z0, z1⟩ := baE.cells
              obtain ⟨f0, f1⟩ := baE.froz
              obtain ⟨w3, hw3, a3, hs3, kbx, kb, ktr, kts, kis, _⟩ := store_end baE NW A1 n1 c1
              have bnG := kbx _ _ _ _ _ _ (show w2.heap.size ≠ b3 by omega) bn2
              have bmG := kbx _ _ _ _ _ _ (show b3 + 1 ≠ b3 by omega) bmE
              have xG := kts _ _ _ _ _ (by decide) xE
              have xH := ktr _ _ _ _ xF
              have yG := kis _ _ _ _ (by decide) yE
              have yH := kis _ _ _ _ (by decide) yF
              have blG := kb _ _ blE hlo
              clear kbx kb ktr kts kis bn2 bmE xE xF blE baE bnE yE yF
              obtain ⟨y0, y1⟩ := bnG.cells
              obtain ⟨u0, u1⟩ := bmG.cells
              obtain ⟨v0, v1⟩ := bmG.froz
              obtain ⟨w4, hw4, m4, hs4, kbx, kb, ktr, kts, kis, _⟩ := store_end bmG NW A2 n2 c2
              have a4 := kbx _ _ _ _ _ _ (show b3 ≠ b3 + 1 by omega) a3
              have xI := kts _ _ _ _ _ (by decide) xG
              have xJ := ktr _ _ _ _ xH
              have yI := kis _ _ _ _ (by decide) yG
              have yJ := kis _ _ _ _ (by decide) yH
              have blI := kb _ _ blG (by omega)
              have Hw3 := Lib.hid hw3
              have Hw4 := Lib.hid hw4
              clear kbx kb ktr kts kis bnG bmG xG xH blG a3 hw3 hw4 hs3 hs4 yG yH
              rw [← Hw3.out, ← HX2.out] at y0 y1 u0 u1 v0 v1
              rw [← HX2.out] at x0 x1 z0 z1 f0 f1
              have lAw : wr.heap.size < w2.heap.size := by omega
              go_wp2_with fail
              rw [HX2.out, Hw3.out, Hw4.out]
              clear x0 x1 z0 z1 f0 f1 y0 y1 u0 u1 v0 v1 HX2 Hw3 Hw4
              refine (same_i _ _ _ _ _ _ _ w4 yI yJ).mono ?_
              rintro e w5 ⟨rfl, k5⟩
              have a5 := a4.on k5 a4.lt
              have m5 := m4.on k5 m4.lt
              have xK := xI.on k5
              have xL := xJ.on k5
              have bl5 := bel2 blI k5
              clear a4 m4 xI xJ yI yJ blI k5
              go_wp2_with fail
              have hrb : rightB NW NL = true := rightB_iff.2 HRN.out
              go_region_held3 (fun W' => (W'.cell? ⟨b3, 0, none⟩ = some (.int .i64 NW) ∧ W'.cell? ⟨b3, 1, none⟩ = some (.slice A1 n1 c1)) ∧ (W'.cell? ⟨b3 + 1, 0, none⟩ = some (.int .i64 NW) ∧ W'.cell? ⟨b3 + 1, 1, none⟩ = some (.slice A2 n2 c2))) (first | exact ⟨a5.cells, m5.cells⟩ | exact ⟨a6.cells, m6.cells⟩ | exact ⟨a7.cells, m7.cells⟩ | exact ⟨a8.cells, m8.cells⟩) (first
                | (go_at_call 22; refine (ours_c NW A1 n1 c1 NL w5.drew xK.drew.tr hn1).mono ?_; rintro e w6 ⟨U, un, uc, rfl, ux, j6⟩; have hun : un ≤ 100000 := (by have h1 := ux.len; have h2 := HRN.out.1; omega); have a6 := a5.drew.on j6 a5.lt; have m6 := m5.drew.on j6 m5.lt; have x6 := xK.on (below_drew j6); have y6 := xL.on (below_drew j6); have bl6 := bel2 bl5 (below_drew j6))
                | (go_at_call 21; (with_reducible refine (same_r NW U A2 un uc n2 c2 NL w6 ux.tr y6 hun).mono ?_); rintro e w7 ⟨rfl, j7⟩; have a7 := a6.on j7 a6.lt; have m7 := m6.on j7 m6.lt; have x7 := x6.on j7; have y7 := y6.on j7; have bl7 := bel2 bl6 j7)
                | (go_at_call 20; (with_reducible refine (right_w NW A1 n1 c1 NL w7 x7.tr hn1).mono ?_); rw [hrb]; rintro e w8 ⟨rfl, j8⟩; have a8 := a7.on j8 a7.lt; have m8 := m7.on j8 m7.lt; have x8 := x7.on j8; have y8 := y7.on j8; have bl8 := bel2 bl7 j8))
              have Hnext := Lib.hid (show RI w b3 (b3 + 1) NW NL w8 from ⟨⟨A1, n1, c1, a8, x8⟩, ⟨A2, n2, c2, m8, y8⟩, bl8, HRN.out⟩)
              clear a5 a6 a7 a8 m5 m6 m7 m8 xK x6 x7 x8 xL y6 y7 y8 bl5 bl6 bl7 bl8 ux
              go_wp2_with fail
              go_roundw
              case rel => exact ⟨j + 1, NW, NL, by omega, by omega, by go_num, Hnext.out⟩
              case measure => simp [intOf]; omega
            · have t4 : ((kx : Int) % 5 == 4) = false := by rw [beq_eq_false_iff_ne]; omega
              clear c4
              obtain ⟨NL, hNL⟩ : ∃ x, sSet now L ky vl = x := ⟨_, rfl⟩
              obtain ⟨NW, hNW⟩ : ∃ x, now = x := ⟨_, rfl⟩
              obtain ⟨ER, hER⟩ : ∃ x, eSet now L ky vl = x := ⟨_, rfl⟩
              have HRN := Lib.hid (show RightP NW NL by rw [← hNL, ← hNW]; exact right_set HRi.out)
              have HNL := Lib.hid hNL
              have HNW := Lib.hid hNW
              have HER := Lib.hid hER
              clear hNL hNW hER
              have hEE : ((ER : Int) == ER) = true := by simp
              go_wp2_with fail
              rw [HwA.out]
              refine (set_w now Aa n3 ca ky vl L wA taA.tr hn3 Hky.out Hvl.out).mono ?_
              rw [HNL.out, HER.out]
              rintro e w1 ⟨A1, n1, c1, rfl, x1, k1⟩
              have hn1 : n1 ≤ 100000 := by have h1 := x1.len; have h2 := HRN.out.1; omega
              have baB := baA.on k1 baA.lt
              have bmB := bmA.on k1 bmA.lt
              have tmC := tmA.on k1
              have cB := cA.same (k1.block _ cA.lt)
              have blB := bel2 blA k1
              have lA := cB.lt
              have lM := bmB.lt
              clear baA bmA taA tmA cA blA k1 e0 e1
              obtain ⟨X1, hX1, bn1, q1⟩ := boxed w1 28 now A1 n1 c1
              have HX1 := Lib.hid hX1
              obtain ⟨e0, e1⟩ := bmB.cells
              have g0 := cB.cell 0
              have g1 := cB.cell 1
              have g2 := cB.cell 2
              simp only [List.getElem?_toArray, List.getElem?_cons_succ, List.getElem?_cons_zero] at g0 g1 g2
              have baC := baB.on q1 baB.lt
              have bmC := bmB.on q1 bmB.lt
              have tmB := tmC.on q1
              have xB := x1.on q1
              have blC := bel2 blB q1
              clear hX1 baB bmB tmC cB blB q1 x1
              go_wp2_with fail
              rw [HX1.out]
              clear e0 e1 g0 g1 g2 HX1
              refine (set_r now Am n4 cm ky vl L X1 tmB hn4 Hky.out Hvl.out).mono ?_
              rw [HNL.out, HER.out]
              rintro e w2 ⟨A2, n2, c2, rfl, x2, k2⟩
              have hn2 : n2 ≤ 100000 := by have h1 := x2.len; have h2 := HRN.out.1; omega
              have bnD := bn1.on k2 bn1.lt
              have baD := baC.on k2 baC.lt
              have bmD := bmC.on k2 bmC.lt
              have xD := xB.on k2
              have blD := bel2 blC k2
              clear bn1 baC bmC tmB xB blC k2
              obtain ⟨X2, hX2, bn2, q2⟩ := boxed w2 24 now A2 n2 c2
              have HX2 := Lib.hid hX2
              have bnE := bnD.on q2 bnD.lt
              have baE := baD.on q2 baD.lt
              have bmE := bmD.on q2 bmD.lt
              have xE := xD.on q2
              have xF := x2.on q2
              have blE := bel2 blD q2
              have l1 : w1.heap.size < w2.heap.size := bnD.lt
              have l3 : b3 + 1 < w2.heap.size := bmD.lt
              clear hX2 bnD baD bmD xD x2 blD q2
              obtain ⟨x0, x1⟩ := bnE.cells
              obtain ⟨z0, z1⟩ := baE.cells
              obtain ⟨f0, f1⟩ := baE.froz
              obtain ⟨w3, hw3, a3, hs3, kbx, kb, ktr, kts, kis, _⟩ := store_end baE now A1 n1 c1
              have bnG := kbx _ _ _ _ _ _ (show w2.heap.size ≠ b3 by omega) bn2
              have bmG := kbx _ _ _ _ _ _ (show b3 + 1 ≠ b3 by omega) bmE
              have xG := kts _ _ _ _ _ (by decide) xE
              have xH := ktr _ _ _ _ xF
              have blG := kb _ _ blE hlo
              clear kbx kb ktr kts kis bn2 bmE xE xF blE baE bnE
              obtain ⟨y0, y1⟩ := bnG.cells
              obtain ⟨u0, u1⟩ := bmG.cells
              obtain ⟨v0, v1⟩ := bmG.froz
              obtain ⟨w4, hw4, m4, hs4, kbx, kb, ktr, kts, kis, _⟩ := store_end bmG now A2 n2 c2
              have a4 := kbx _ _ _ _ _ _ (show b3 ≠ b3 + 1 by omega) a3
              have xI := kts _ _ _ _ _ (by decide) xG
              have xJ := ktr _ _ _ _ xH
              have blI := kb _ _ blG (by omega)
              have Hw3 := Lib.hid hw3
              have Hw4 := Lib.hid hw4
              clear kbx kb ktr kts kis bnG bmG xG xH blG a3 hw3 hw4 hs3 hs4
              rw [← Hw3.out, ← HX2.out] at y0 y1 u0 u1 v0 v1
              rw [← HX2.out] at x0 x1 z0 z1 f0 f1
              have lAw : wr.heap.size < w2.heap.size := by omega
              go_wp2_with fail
              rw [HX2.out, Hw3.out, Hw4.out]
              clear x0 x1 z0 z1 f0 f1 y0 y1 u0 u1 v0 v1 HX2 Hw3 Hw4
              obtain ⟨w5, hw5⟩ : ∃ w5, w4 = w5 := ⟨_, rfl⟩
              rw [hw5] at a4 m4 xI xJ blI ⊢
              clear hw5
              have a5 := a4
              have m5 := m4
              have xK := xI
              have xL := xJ
              have bl5 := blI
              clear a4 m4 xI xJ blI
              have hrb : rightB now NL = true := rightB_iff.2 (by have := HRN.out; rwa [← HNW.out] at this)
              go_region_held3 (fun W' => (W'.cell? ⟨b3, 0, none⟩ = some (.int .i64 now) ∧ W'.cell? ⟨b3, 1, none⟩ = some (.slice A1 n1 c1)) ∧ (W'.cell? ⟨b3 + 1, 0, none⟩ = some (.int .i64 now) ∧ W'.cell? ⟨b3 + 1, 1, none⟩ = some (.slice A2 n2 c2))) (first | exact ⟨a5.cells, m5.cells⟩ | exact ⟨a6.cells, m6.cells⟩ | exact ⟨a7.cells, m7.cells⟩ | exact ⟨a8.cells, m8.cells⟩) (first
                | (go_at_call 22; refine (ours_c now A1 n1 c1 NL w5.drew xK.drew.tr hn1).mono ?_; rintro e w6 ⟨U, un, uc, rfl, ux, j6⟩; have hun : un ≤ 100000 := (by have h1 := ux.len; have h2 := HRN.out.1; omega); have a6 := a5.drew.on j6 a5.lt; have m6 := m5.drew.on j6 m5.lt; have x6 := xK.on (below_drew j6); have y6 := xL.on (below_drew j6); have bl6 := bel2 bl5 (below_drew j6))
                | (go_at_call 21; (with_reducible refine (same_r now U A2 un uc n2 c2 NL w6 ux.tr y6 hun).mono ?_); rintro e w7 ⟨rfl, j7⟩; have a7 := a6.on j7 a6.lt; have m7 := m6.on j7 m6.lt; have x7 := x6.on j7; have y7 := y6.on j7; have bl7 := bel2 bl6 j7)
                | (go_at_call 20; (with_reducible refine (right_w now A1 n1 c1 NL w7 x7.tr hn1).mono ?_); rw [hrb]; rintro e w8 ⟨rfl, j8⟩; have a8 := a7.on j8 a7.lt; have m8 := m7.on j8 m7.lt; have x8 := x7.on j8; have y8 := y7.on j8; have bl8 := bel2 bl7 j8))
              have Hnext := Lib.hid (show RI w b3 (b3 + 1) now NL w8 from ⟨⟨A1, n1, c1, a8, x8⟩, ⟨A2, n2, c2, m8, y8⟩, bl8, rightB_iff.1 hrb⟩)
              clear a5 a6 a7 a8 m5 m6 m7 m8 xK x6 x7 x8 xL y6 y7 y8 bl5 bl6 bl7 bl8 ux
              go_wp2_with fail
              go_roundw
              case rel => exact ⟨j + 1, now, NL, by omega, by omega, by go_num, Hnext.out⟩
              case measure => simp [intOf]; omega
      · go_wp2_with fail
        go_ret
        exact ⟨rfl, hlow⟩
    · go_wp2_with fail
      go_ret
      exact ⟨rfl, hlow⟩
end Go.Proofs.Ytgpmgghjcocfmaa
