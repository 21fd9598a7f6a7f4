/-
  The law WheelOnce: its walk. Condition: the acts can be read.
-/
import Derived.Test.YtgpmgghjcocfmaaWhQ
import Derived.Test.YtgpmgghjcocfmaaWhO
set_option linter.unusedVariables false
set_option linter.unusedSimpArgs false
namespace Go.Proofs.Ytgpmgghjcocfmaa
open Go.RowKit

theorem u8_nat {x : Int} (h : (Lit.int .u8 x).wf = true) : ∃ k : Nat, (k : Int) = x ∧ k < 256 := by
  have := bounds_u8 h
  exact ⟨x.toNat, by omega, by omega⟩
theorem CameA.at_ {w wr : World} {a : Option Addr} {acts : List ActV} (h : CameA w a acts) (hb : Below w.heap.size w wr) {j : Nat} {v : ActV} (hj : acts[j]? = some v) :
    v.ok ∧ ∃ g off, a = some ⟨g, off, none⟩ ∧ wr.cell? ⟨g, off + j * 3, none⟩ = some (.int .u8 v.kind) ∧ wr.cell? ⟨g, off + j * 3 + 1, none⟩ = some (.int .i64 v.id) ∧ wr.cell? ⟨g, off + j * 3 + 2, none⟩ = some (.int .i64 v.at_) := by
  obtain ⟨h1, g, off, h2, h3, h4, h5, h6⟩ := h j v hj
  have key : ∀ {o : Nat} {u : Value}, w.cell? ⟨g, o, none⟩ = some u → wr.cell? ⟨g, o, none⟩ = some u := fun {o} {u} hc => by
    rw [← hc]
    exact World.cell?_of_block (a := ⟨g, o, none⟩) (hb.block g h3)
  exact ⟨h1, g, off, h2, key h4, key h5, key h6⟩

/-- Behind some acts: the wheel in its variable, and the map beside it. -/
structure OC (w : World) (b3 : Nat) (now : Int) (L M : List (Int × Int)) (W : World) : Prop where
  a : ∃ A n c, Box W b3 28 now A n c ∧ TS W 66 A n c L
  m : MO W (b3 + 1) M
  pm : M.Perm L
  low : Below w.heap.size w W
  ri : RightP now L

theorem turn_box {W W' : World} {bm b : Nat} (ht : W.mapTurned W' bm) {T : TypeId} {now : Int} {A : Option Addr} {n c : Nat} (h : Box W b T now A n c) (hne : b ≠ bm) : Box W' b T now A n c := CB.same h (ht.grown.block _ h.lt (fun e => hne (by cases e; rfl)))
theorem turn_ts {W W' : World} {bm : Nat} {M : List (Int × Int)} (ht : W.mapTurned W' bm) (hm : MO W bm M) {T : TypeId} {A : Option Addr} {n c : Nat} {L : List (Int × Int)} (h : TS W T A n c L) : TS W' T A n c L := by
  obtain ⟨h1, G, h2⟩ := h
  refine ⟨h1, G, h2.keep fun g hg => ht.grown.block g (h2.lt g hg) (fun e => ?_)⟩
  rcases h2.2.2.2 with ⟨_, _, h0⟩ | ⟨g', off, cur, _, q2, q3, _⟩
  · rw [h0] at hg; cases hg
  · rw [q2] at hg
    cases hg
    cases e
    exact hm.ne q3 rfl
theorem turn_is {W W' : World} {bm : Nat} {M : List (Int × Int)} (ht : W.mapTurned W' bm) (hm : MO W bm M) {A : Option Addr} {n c : Nat} {l : List Int} (h : IS W A n c l) : IS W' A n c l := by
  obtain ⟨G, h2⟩ := h
  refine ⟨G, h2.keep fun g hg => ht.grown.block g (h2.lt g hg) (fun e => ?_)⟩
  rcases h2.2.2.2 with ⟨_, _, h0⟩ | ⟨g', off, cur, _, q2, q3, _⟩
  · rw [h0] at hg; cases hg
  · rw [q2] at hg
    cases hg
    cases e
    exact hm.ne q3 rfl
theorem tick_old {now : Int} {L : List (Int × Int)} {b : Int} (h : RightP now L) : ∀ p ∈ sTick now L b, nTick now L b < p.2 := fun p hp => ((right_tick (by_ := b) h).2.2.2.1 p hp).1

set_option maxRecDepth 100000 in
set_option maxHeartbeats 8000000 in
theorem once_walk (a : Option Addr) (cap : Nat) (acts : List ActV) (w : World) (h0 : CameA w a acts) (hm0 : acts.length ≤ maxLen) :
    Calls Try.prog 6 #[.slice a acts.length cap] w fun e w' => e = .returned (.bool true) ∧ Below w.heap.size w w' := by
  simp only [maxLen] at hm0
  obtain ⟨na, hna⟩ : ∃ na, acts.length = na := ⟨_, rfl⟩
  have Hna := Lib.hid hna
  rw [hna] at hm0 ⊢
  clear hna
  go_enter Try.func6, Try.ntmps6
  go_wp2_with fail
  refine (alive_c w).mono ?_
  rintro e w1 ⟨rfl, b1⟩
  obtain ⟨W0, hW0, c3, k3⟩ := boxed w1 28 0 none 0 0
  have hs0 : W0.heap.size = w1.heap.size + 1 := by rw [← hW0]; simp
  obtain ⟨V, hV⟩ : ∃ V, W0.alloc (.map #[] 0) = V := ⟨_, rfl⟩
  have k4 : Below W0.heap.size W0 V := by rw [← hV]; exact (Below.refl _ _).alloc (Nat.le_refl _) _
  have mV : MO V (w1.heap.size + 1) [] := by rw [← hs0, ← hV]; exact MO.made W0
  have HV := Lib.hid (show (w1.alloc (.cells #[.int .i64 0, .slice none 0 0] 28)).alloc (.map #[] 0) = V by rw [hW0, hV])
  have hst : OC w w1.heap.size 0 [] [] V := ⟨⟨none, 0, 0, c3.on k4 c3.lt, TS.nil _ _⟩, mV, List.Perm.refl _, bel2 (bel2 b1 k3) k4, by decide⟩
  have Hst := Lib.hid hst
  have hlo := b1.size
  clear hW0 hV c3 k3 k4 hs0 hst b1 mV
  have hmk := run_makeNone (P := Try.prog) (t := 59) Try.underlying59
  go_wp2_with fail
  clear hmk
  rw [HV.out]
  clear HV
  generalize w1.heap.size = b3 at *
  go_loopw [5] (fun i wr => ∃ (j : Nat) (now : Int) (L M : List (Int × Int)), j ≤ na ∧ j ≤ 100 ∧ i = .int .i64 j ∧ OC w b3 now L M wr) (fun i _ => na - (intOf i).toNat)
  case atStart => exact ⟨0, 0, [], [], by omega, by omega, rfl, Hst.out⟩
  case round =>
    clear Hst
    obtain ⟨j, now, L, M, hj, hj100, rfl, hri⟩ := hrel
    have hlow := hri.low
    by_cases hlt : j < na
    · by_cases hj1 : j < 100
      · obtain ⟨av, hav⟩ : ∃ av, acts[j]? = some av := ⟨_, List.getElem?_eq_getElem (by rw [Hna.out]; exact hlt)⟩
        obtain ⟨hok, b, off, rfl, d0, d1, d2⟩ := h0.at_ hlow hav
        obtain ⟨kd, ky, vl⟩ := av
        obtain ⟨hkd, hky, hvl⟩ := hok
        simp only at d0 d1 d2 hky hvl hkd
        obtain ⟨kx, rfl, hkx⟩ := u8_nat hkd
        have Hvl := Lib.hid hvl
        have Hky := Lib.hid hky
        have HRi := Lib.hid hri.ri
        have HPm := Lib.hid hri.pm
        obtain ⟨Aa, n3, ca, ba, ta⟩ := hri.a
        have mm := hri.m
        have hn3 : n3 ≤ 100000 := by have h1 := ta.len; have h2 := HRi.out.1; omega
        clear hav hvl hky hkd hri
        obtain ⟨wA, hwA⟩ : ∃ wA, wr.alloc (.cells #[.int .u8 kx, .int .i64 ky, .int .i64 vl] 54) = wA := ⟨_, rfl⟩
        have HwA := Lib.hid hwA
        have kA : Below wr.heap.size wr wA := by rw [← hwA]; exact (Below.refl _ _).alloc (Nat.le_refl _) _
        have cA : CB wA wr.heap.size 54 #[.int .u8 kx, .int .i64 ky, .int .i64 vl] := by rw [← hwA]; exact CB.new _ _ _
        have hra : b3 < wr.heap.size := ba.lt
        have hrm : b3 + 1 < wr.heap.size := mm.lt
        obtain ⟨e0, e1⟩ := ba.cells
        have baA := ba.on kA ba.lt
        have taA := ta.on kA
        have mA := mm.on kA mm.lt
        have blA := bel2 hlow kA
        clear hwA kA ba ta mm hlow
        by_cases c2 : kx % 5 = 2
        · have t2 : ((kx : Int) % 5 == 2) = true := by rw [beq_iff_eq]; omega
          clear c2
          obtain ⟨NL, hNL⟩ : ∃ x, sStop now L ky = x := ⟨_, rfl⟩
          obtain ⟨ER, hER⟩ : ∃ x, eStop now L ky = x := ⟨_, rfl⟩
          have HNL := Lib.hid hNL
          have HER := Lib.hid hER
          have HRN := Lib.hid (show RightP now NL by rw [← hNL]; exact right_stop HRi.out)
          have HRX := HRN
          have HPN := Lib.hid (show (delL M ky).Perm NL by rw [← hNL, (stop_list HRi.out).1]; exact del_perm HPm.out ky)
          have HQ := Lib.hid (show (hasL M ky != (ER == 0)) = false by
            rw [has_perm HPm.out]
            cases hh : hasL L ky with
            | true =>
              have : ER = 0 := by rw [← hER]; exact eStop_ok.2 ⟨HRi.out, hh⟩
              rw [this]; rfl
            | false =>
              have : ER ≠ 0 := fun e => by
                have := (eStop_ok.1 (hER.trans e)).2
                rw [hh] at this
                cases this
              simp [this])
          clear hNL hER
          have hEE : ((ER : Int) == ER) = true := by simp
          go_wp2_with fail
          rw [HwA.out]
          refine (stop_w now Aa n3 ca ky L wA taA.tr hn3).mono ?_
          rw [HNL.out, HER.out]
          rintro e w1 ⟨A1, n1, c1, rfl, x1, k1⟩
          have hn1 : n1 ≤ 100000 := by have h1 := x1.len; have h2 := HRN.out.1; omega
          have baB := baA.on k1 baA.lt
          have mB := mA.on k1 mA.lt
          have cB := cA.same (k1.block _ cA.lt)
          have blB := bel2 blA k1
          have lA := cB.lt
          clear baA taA mA cA blA k1 e0 e1
          obtain ⟨X1, hX1, bn1, q1⟩ := boxed w1 28 now A1 n1 c1
          have HX1 := Lib.hid hX1
          have l3 : b3 < w1.heap.size := baB.lt
          have l4 : b3 + 1 < w1.heap.size := mB.lt
          have g0 := cB.cell 0
          have g1 := cB.cell 1
          have g2 := cB.cell 2
          simp only [List.getElem?_toArray, List.getElem?_cons_succ, List.getElem?_cons_zero] at g0 g1 g2
          have baC := baB.on q1 baB.lt
          have mC := mB.on q1 mB.lt
          have xB := x1.on q1
          have blC := bel2 blB q1
          clear hX1 baB mB cB blB q1 x1
          have hlk := mC.look Hky.out
          generalize (getL M ky).getD 0 = gv at *
          have hq : (!(hasL M ky == (ER == 0))) = false := HQ.out
          generalize hasL M ky = hb at *
          clear HQ
          have hown := mC.1
          rw [← HX1.out] at hlk
          have hd0 := g1
          go_wp2_with (at_delete; refine Stay.mk ?_)
          refine Stay.open_ ?_
          rw [HX1.out]
          refine wpList_delete_own _ rfl (.tmp 79) (.tmp 81) 59 3 rfl 2 lawI Try.underlying59 _ (b3 + 1) M.length _ rfl hown (.int .i64 ky) (.int .i64 ky) rfl (Maps.keyOf_int_mk Try.underlying3 Hky.out) ?_
          intro w2 hown2 hturn2
          have mD := mC.dropped hown2
          have bnD := turn_box hturn2 bn1 (by omega)
          have baD := turn_box hturn2 baC (by omega)
          have xD := turn_ts hturn2 mC xB
          have blD := turned_below blC hturn2 (by omega) blC.size
          clear hown2 hturn2 hown hlk hq g0 g1 g2 hd0 bn1 baC mC xB blC HX1
          obtain ⟨x0, x1⟩ := bnD.cells
          obtain ⟨z0, z1⟩ := baD.cells
          obtain ⟨f0, f1⟩ := baD.froz
          obtain ⟨w4, hw4, a4, hs4, kbx, kb, ktr, kts, kis, kh⟩ := store_end baD now A1 n1 c1
          have m4 := mD.same (kh _ (show b3 + 1 ≠ b3 by omega))
          have x4 := kts _ _ _ _ _ (by decide) xD
          have bl4 := kb _ _ blD hlo
          have Hw4 := Lib.hid hw4
          have hll := m4.len
          have hML : (delL M ky).length = n1 := by rw [HPN.out.length_eq]; exact x4.len
          rw [hML] at hll
          obtain ⟨y0, y1⟩ := a4.cells
          have Hnext := Lib.hid (show OC w b3 now NL (delL M ky) w4 from ⟨⟨A1, n1, c1, a4, x4⟩, m4, HPN.out, bl4, HRX.out⟩)
          rw [← Hw4.out] at hll y0 y1
          have hnn : ((n1 : Int) != (n1 : Int)) = false := by simp
          clear kbx kb ktr kts kis kh hs4 a4 m4 x4 bl4 xD mD baD bnD blD hw4
          go_wp2_with fail
          rw [Hw4.out]
          go_roundw
          case rel => exact ⟨j + 1, now, NL, delL M ky, by omega, by omega, by go_num, Hnext.out⟩
          case measure => simp [intOf]; omega
        · have t2 : ((kx : Int) % 5 == 2) = false := by rw [beq_eq_false_iff_ne]; omega
          clear c2
          by_cases c3 : kx % 5 = 3
          · have t3 : ((kx : Int) % 5 == 3) = true := by rw [beq_iff_eq]; omega
            clear c3
            obtain ⟨NL, hNL⟩ : ∃ x, sTick now L vl = x := ⟨_, rfl⟩
            obtain ⟨ER, hER⟩ : ∃ x, eTick now L vl = x := ⟨_, rfl⟩
            have HNL := Lib.hid hNL
            have HER := Lib.hid hER
            obtain ⟨NW, hNW⟩ : ∃ x, nTick now L vl = x := ⟨_, rfl⟩
            obtain ⟨RL, hRL⟩ : ∃ x, rTick now L vl = x := ⟨_, rfl⟩
            have HNW := Lib.hid hNW
            have HRL := Lib.hid hRL
            have HRN := Lib.hid (show RightP NW NL by rw [← hNL, ← hNW]; exact right_tick HRi.out)
            have HRX := HRN
            obtain ⟨kk, hk1, hk2, hk3, hk4, hk5⟩ := tick_parts (b := vl) HRi.out
            rw [hRL] at hk2
            rw [hNL] at hk3
            rw [hNW] at hk4
            rw [hER] at hk5
            have Hold := Lib.hid (show ∀ p ∈ NL, NW < p.2 by rw [← hNL, ← hNW]; exact tick_old HRi.out)
            have HDis := Lib.hid HRi.out.2.2.2.2.2
            have Hk2 := Lib.hid hk2
            have Hk3 := Lib.hid hk3
            have Hk4 := Lib.hid hk4
            have Hk5 := Lib.hid hk5
            have Hwf := Lib.hid taA.tr.wf
            have hkl : kk ≤ 1000 := by have := HRi.out.1; omega
            clear hNL hER hNW hRL hk2 hk3 hk4 hk5
            have hEE : ((ER : Int) == ER) = true := by simp
            go_wp2_with fail
            rw [HwA.out]
            refine (tick_w now Aa n3 ca vl L wA taA.tr hn3).mono ?_
            rw [HNL.out, HER.out, HNW.out, HRL.out]
            rintro e w1 ⟨A1, n1, c1, I1, r1, s1, rfl, x1, y1, k1⟩
            have hn1 : n1 ≤ 100000 := by have h1 := x1.len; have h2 := HRN.out.1; omega
            have baB := baA.on k1 baA.lt
            have mB := mA.on k1 mA.lt
            have cB := cA.same (k1.block _ cA.lt)
            have blB := bel2 blA k1
            have lA := cB.lt
            clear baA taA mA cA blA k1 e0 e1
            obtain ⟨X1, hX1, bn1, q1⟩ := boxed w1 28 NW A1 n1 c1
            have HX1 := Lib.hid hX1
            have l3 : b3 < w1.heap.size := baB.lt
            have l4 : b3 + 1 < w1.heap.size := mB.lt
            have g0 := cB.cell 0
            have g1 := cB.cell 1
            have g2 := cB.cell 2
            simp only [List.getElem?_toArray, List.getElem?_cons_succ, List.getElem?_cons_zero] at g0 g1 g2
            have baC := baB.on q1 baB.lt
            have mC := mB.on q1 mB.lt
            have xB := x1.on q1
            have yB := y1.on q1
            have blC := bel2 blB q1
            clear hX1 baB mB cB blB q1 x1 y1
            have hrl : r1 = kk := by
              have h1 := yB.len
              rw [Hk2.out, List.length_map, List.length_take] at h1
              omega
            rw [hrl] at yB ⊢
            clear hrl
            go_wp2_with fail
            rw [HX1.out]
            clear HX1 g0 g1 g2
            generalize w1.heap.size = b11 at *
            go_loopw [96] (fun i wq => ∃ (q : Nat) (Q : List (Int × Int)), q ≤ kk ∧ i = .int .i64 q ∧ Box wq b11 28 NW A1 n1 c1 ∧ Box wq b3 28 now Aa n3 ca ∧ MO wq (b3 + 1) Q ∧ Q.Perm (L.drop q) ∧ TS wq 66 A1 n1 c1 NL ∧ IS wq I1 kk s1 RL ∧ Below w.heap.size w wq) (fun i _ => kk - (intOf i).toNat)
            case atStart => exact ⟨0, M, by omega, rfl, bn1, baC, mC, HPm.out, xB, yB, blC⟩
            case round =>
              clear bn1 baC mC xB yB blC
              obtain ⟨q, Q, hq, rfl, bnQ, baQ, mQ, hPQ, xQ, yQ, blQ⟩ := hrel
              have HPQ := Lib.hid hPQ
              clear hPQ
              by_cases hqk : q < kk
              · obtain ⟨gq, oq, rfl, i1⟩ := yQ.at_ hqk
                have hqL : q < L.length := by omega
                have hid : RL[q]?.getD 0 = (tk L q).1 := by
                  rw [Hk2.out, List.getElem?_map, List.getElem?_take, if_pos hqk, List.getElem?_eq_getElem hqL]
                  unfold tk
                  rw [List.getElem?_eq_getElem hqL]
                  rfl
                rw [hid] at i1
                have hmem : tk L q ∈ L.take kk := by
                  have h1 : tk L q ∈ L.take (q + 1) := by rw [tk_take hqL]; simp
                  exact (List.take_sublist_take_left (by omega)).subset h1
                have hle := Hk4.out _ hmem
                have hwx := (Hwf.out _ (tk_mem hqL)).1
                have hinQ : tk L q ∈ Q := HPQ.out.mem_iff.2 (by rw [tk_drop hqL]; simp)
                have hgt : getL Q (tk L q).1 = some (tk L q).2 := mQ.2.get_iff.2 hinQ
                have hhas : hasL Q (tk L q).1 = true := has_iff.2 ⟨_, hinQ, rfl⟩
                have hE0 : ER = 0 := Hk5.out (by omega)
                have HPN := Lib.hid (show (delL Q (tk L q).1).Perm (L.drop (q + 1)) by rw [← del_drop HDis.out hqL]; exact del_perm HPQ.out _)
                have hlk := mQ.look hwx
                rw [hgt, hhas] at hlk
                simp only [Option.getD_some] at hlk
                clear hid hmem hinQ hgt hhas
                generalize tk L q = x at *
                obtain ⟨xk, xv⟩ := x
                simp only at i1 hle hwx hlk
                subst hE0
                have hown := mQ.1
                obtain ⟨x0, x1⟩ := bnQ.cells
                have hgt2 : ¬ NW < xv := by omega
                go_wp2_with (at_delete; refine Stay.mk ?_)
                refine Stay.open_ ?_
                refine wpList_delete_own _ rfl (.tmp 118) (.tmp 119) 59 3 rfl 2 lawI Try.underlying59 _ (b3 + 1) Q.length _ rfl hown (.int .i64 xk) (.int .i64 xk) rfl (Maps.keyOf_int_mk Try.underlying3 hwx) ?_
                intro w2 hown2 hturn2
                have mR := Lib.hid (mQ.dropped hown2)
                have bnR := Lib.hid (turn_box hturn2 bnQ (by omega))
                have baR := Lib.hid (turn_box hturn2 baQ (by omega))
                have xR := Lib.hid (turn_ts hturn2 mQ xQ)
                have yR := Lib.hid (turn_is hturn2 mQ yQ)
                have blR := Lib.hid (turned_below blQ hturn2 (by omega) blQ.size)
                clear hown2 hturn2 hown hlk bnQ baQ mQ xQ yQ blQ i1 x0 x1
                go_wp2_with fail
                go_roundw
                case rel => exact ⟨q + 1, _, by omega, by go_num, bnR.out, baR.out, mR.out, HPN.out, xR.out, yR.out, blR.out⟩
                case measure => simp [intOf]; omega
              · obtain rfl : q = kk := by omega
                have hPN := HPQ.out
                rw [← Hk3.out] at hPN
                have HPN := Lib.hid hPN
                have hown := mQ.1
                have Hall := Lib.hid (show ∀ x c, (x, c) ∈ Q → NW < c from fun x c h => Hold.out _ (hPN.mem_iff.1 h))
                clear hPN
                go_wp2_with (at_range; refine wpList_range_own _ rfl _ 59 rfl 3 2 lawI Try.underlying59 _ (b3 + 1) Q.length _ rfl hown ?_; intro w0 hrg0 hg0 hs0; refine Stay.mk ?_)
                refine Stay.open_ ?_
                have k0 : Below wr.heap.size wr w0 := grown_below hg0 (Nat.le_refl _) (fun g e => by cases e)
                have mW := mQ.2
                obtain ⟨VV, hVV⟩ : ∃ VV, wr = VV := ⟨_, rfl⟩
                rw [hVV] at bnQ baQ mQ xQ yQ blQ hrg0 k0 ⊢
                clear hVV hg0 hs0 hown
                go_wp2_with fail
                go_loopw [19] (fun _ wi => ∃ (left : Lit → Bool) (cnt : Nat), wi.ranges Try.prog 3 (plainElem Try.prog 2) (b3 + 1) VV.heap.size Q.length (dat .i64 dO Q) left cnt ∧ Below VV.heap.size VV wi) (fun _ wi => wi.rangeLeft (b3 + 1) VV.heap.size)
                case atStart => exact ⟨_, _, hrg0, k0⟩
                case round =>
                  clear hrg0 k0
                  obtain ⟨left, cnt, hrg, kr⟩ := hrel
                  obtain ⟨x0, x1⟩ := (bnQ.on kr bnQ.lt).cells
                  go_wp2_with (at_next; refine wpList_next_ranges_ii _ rfl _ rfl 3 2 .i64 .i64 lawI Try.underlying3 Try.underlying2 (b3 + 1) VV.heap.size Q.length _ _ _ rfl hrg ?_ ?_)
                  · intro hc0 hl0
                    have bnD := bnQ.on kr bnQ.lt
                    have baD := baQ.on kr baQ.lt
                    have mD := mQ.on kr mQ.lt
                    have xD := xQ.on kr
                    have blD := bel2 blQ kr
                    clear x0 x1 hrg bnQ baQ mQ xQ yQ blQ kr
                    obtain ⟨x0, x1⟩ := bnD.cells
                    obtain ⟨z0, z1⟩ := baD.cells
                    obtain ⟨f0, f1⟩ := baD.froz
                    obtain ⟨w4, hw4, a4, hs4, kbx, kb, ktr, kts, kis, kh⟩ := store_end baD NW A1 n1 c1
                    have m4 := mD.same (kh _ (show b3 + 1 ≠ b3 by omega))
                    have x4 := kts _ _ _ _ _ (by decide) xD
                    have bl4 := kb _ _ blD hlo
                    have Hw4 := Lib.hid hw4
                    have hll := m4.len
                    have hML : (Q).length = n1 := by rw [HPN.out.length_eq]; exact x4.len
                    rw [hML] at hll
                    obtain ⟨y0, y1⟩ := a4.cells
                    have Hnext := Lib.hid (show OC w b3 NW NL (Q) w4 from ⟨⟨A1, n1, c1, a4, x4⟩, m4, HPN.out, bl4, HRX.out⟩)
                    rw [← Hw4.out] at hll y0 y1
                    have hnn : ((n1 : Int) != (n1 : Int)) = false := by simp
                    clear kbx kb ktr kts kis kh hs4 a4 m4 x4 bl4 xD mD baD bnD blD hw4
                    go_wp2_with fail
                    rw [Hw4.out]
                    go_roundw
                    case rel => exact ⟨j + 1, NW, NL, Q, by omega, by omega, by go_num, Hnext.out⟩
                    case measure => simp [intOf]; omega
                  · intro x c w2 cnt2 hwx hwc hlk hat hrg2 hlt2 hg2 hs2 hen
                    have hmem : (x, c) ∈ Q := at_mem mW hat
                    have hgt := Hall.out x c hmem
                    have hng : ¬ c ≤ NW := by omega
                    have k2 : Below VV.heap.size VV w2 := kr.grown hg2 kr.size (fun g e => by cases e; exact Nat.le_refl _)
                    have hle := Lib.hid hrg.left_eq
                    have K2 := Lib.hid k2
                    have HR2 := Lib.hid hrg2
                    obtain ⟨y0, y1⟩ := (bnQ.on k2 bnQ.lt).cells
                    clear hwx hwc hlk hat hg2 hs2 hmem hgt kr hrg x0 x1 k2 hrg2
                    go_wp2_with fail
                    go_roundw
                    case rel => exact ⟨_, cnt2, HR2.out, K2.out⟩
                    case measure => rw [HR2.out.left_eq, hle.out]; exact hlt2
          · have t3 : ((kx : Int) % 5 == 3) = false := by rw [beq_eq_false_iff_ne]; omega
            clear c3
            by_cases c4 : kx % 5 = 4
            · have t4 : ((kx : Int) % 5 == 4) = true := by rw [beq_iff_eq]; omega
              clear c4
              obtain ⟨NL, hNL⟩ : ∃ x, sTick now L vl = x := ⟨_, rfl⟩
              obtain ⟨ER, hER⟩ : ∃ x, eTick now L vl = x := ⟨_, rfl⟩
              have HNL := Lib.hid hNL
              have HER := Lib.hid hER
              obtain ⟨NW, hNW⟩ : ∃ x, nTick now L vl = x := ⟨_, rfl⟩
              obtain ⟨RL, hRL⟩ : ∃ x, rTick now L vl = x := ⟨_, rfl⟩
              have HNW := Lib.hid hNW
              have HRL := Lib.hid hRL
              have HRN := Lib.hid (show RightP NW NL by rw [← hNL, ← hNW]; exact right_tick HRi.out)
              have HRX := HRN
              obtain ⟨kk, hk1, hk2, hk3, hk4, hk5⟩ := tick_parts (b := vl) HRi.out
              rw [hRL] at hk2
              rw [hNL] at hk3
              rw [hNW] at hk4
              rw [hER] at hk5
              have Hold := Lib.hid (show ∀ p ∈ NL, NW < p.2 by rw [← hNL, ← hNW]; exact tick_old HRi.out)
              have HDis := Lib.hid HRi.out.2.2.2.2.2
              have Hk2 := Lib.hid hk2
              have Hk3 := Lib.hid hk3
              have Hk4 := Lib.hid hk4
              have Hk5 := Lib.hid hk5
              have Hwf := Lib.hid taA.tr.wf
              have hkl : kk ≤ 1000 := by have := HRi.out.1; omega
              clear hNL hER hNW hRL hk2 hk3 hk4 hk5
              have hEE : ((ER : Int) == ER) = true := by simp
              go_wp2_with fail
              rw [HwA.out]
              refine (tick_w now Aa n3 ca vl L wA taA.tr hn3).mono ?_
              rw [HNL.out, HER.out, HNW.out, HRL.out]
              rintro e w1 ⟨A1, n1, c1, I1, r1, s1, rfl, x1, y1, k1⟩
              have hn1 : n1 ≤ 100000 := by have h1 := x1.len; have h2 := HRN.out.1; omega
              have baB := baA.on k1 baA.lt
              have mB := mA.on k1 mA.lt
              have cB := cA.same (k1.block _ cA.lt)
              have blB := bel2 blA k1
              have lA := cB.lt
              clear baA taA mA cA blA k1 e0 e1
              obtain ⟨X1, hX1, bn1, q1⟩ := boxed w1 28 NW A1 n1 c1
              have HX1 := Lib.hid hX1
              have l3 : b3 < w1.heap.size := baB.lt
              have l4 : b3 + 1 < w1.heap.size := mB.lt
              have g0 := cB.cell 0
              have g1 := cB.cell 1
              have g2 := cB.cell 2
              simp only [List.getElem?_toArray, List.getElem?_cons_succ, List.getElem?_cons_zero] at g0 g1 g2
              have baC := baB.on q1 baB.lt
              have mC := mB.on q1 mB.lt
              have xB := x1.on q1
              have yB := y1.on q1
              have blC := bel2 blB q1
              clear hX1 baB mB cB blB q1 x1 y1
              have hrl : r1 = kk := by
                have h1 := yB.len
                rw [Hk2.out, List.length_map, List.length_take] at h1
                omega
              rw [hrl] at yB ⊢
              clear hrl
              go_wp2_with fail
              rw [HX1.out]
              clear HX1 g0 g1 g2
              generalize w1.heap.size = b11 at *
              go_loopw [96] (fun i wq => ∃ (q : Nat) (Q : List (Int × Int)), q ≤ kk ∧ i = .int .i64 q ∧ Box wq b11 28 NW A1 n1 c1 ∧ Box wq b3 28 now Aa n3 ca ∧ MO wq (b3 + 1) Q ∧ Q.Perm (L.drop q) ∧ TS wq 66 A1 n1 c1 NL ∧ IS wq I1 kk s1 RL ∧ Below w.heap.size w wq) (fun i _ => kk - (intOf i).toNat)
              case atStart => exact ⟨0, M, by omega, rfl, bn1, baC, mC, HPm.out, xB, yB, blC⟩
              case round =>
                clear bn1 baC mC xB yB blC
                obtain ⟨q, Q, hq, rfl, bnQ, baQ, mQ, hPQ, xQ, yQ, blQ⟩ := hrel
                have HPQ := Lib.hid hPQ
                clear hPQ
                by_cases hqk : q < kk
                · obtain ⟨gq, oq, rfl, i1⟩ := yQ.at_ hqk
                  have hqL : q < L.length := by omega
                  have hid : RL[q]?.getD 0 = (tk L q).1 := by
                    rw [Hk2.out, List.getElem?_map, List.getElem?_take, if_pos hqk, List.getElem?_eq_getElem hqL]
                    unfold tk
                    rw [List.getElem?_eq_getElem hqL]
                    rfl
                  rw [hid] at i1
                  have hmem : tk L q ∈ L.take kk := by
                    have h1 : tk L q ∈ L.take (q + 1) := by rw [tk_take hqL]; simp
                    exact (List.take_sublist_take_left (by omega)).subset h1
                  have hle := Hk4.out _ hmem
                  have hwx := (Hwf.out _ (tk_mem hqL)).1
                  have hinQ : tk L q ∈ Q := HPQ.out.mem_iff.2 (by rw [tk_drop hqL]; simp)
                  have hgt : getL Q (tk L q).1 = some (tk L q).2 := mQ.2.get_iff.2 hinQ
                  have hhas : hasL Q (tk L q).1 = true := has_iff.2 ⟨_, hinQ, rfl⟩
                  have hE0 : ER = 0 := Hk5.out (by omega)
                  have HPN := Lib.hid (show (delL Q (tk L q).1).Perm (L.drop (q + 1)) by rw [← del_drop HDis.out hqL]; exact del_perm HPQ.out _)
                  have hlk := mQ.look hwx
                  rw [hgt, hhas] at hlk
                  simp only [Option.getD_some] at hlk
                  clear hid hmem hinQ hgt hhas
                  generalize tk L q = x at *
                  obtain ⟨xk, xv⟩ := x
                  simp only at i1 hle hwx hlk
                  subst hE0
                  have hown := mQ.1
                  obtain ⟨x0, x1⟩ := bnQ.cells
                  have hgt2 : ¬ NW < xv := by omega
                  go_wp2_with (at_delete; refine Stay.mk ?_)
                  refine Stay.open_ ?_
                  refine wpList_delete_own _ rfl (.tmp 118) (.tmp 119) 59 3 rfl 2 lawI Try.underlying59 _ (b3 + 1) Q.length _ rfl hown (.int .i64 xk) (.int .i64 xk) rfl (Maps.keyOf_int_mk Try.underlying3 hwx) ?_
                  intro w2 hown2 hturn2
                  have mR := Lib.hid (mQ.dropped hown2)
                  have bnR := Lib.hid (turn_box hturn2 bnQ (by omega))
                  have baR := Lib.hid (turn_box hturn2 baQ (by omega))
                  have xR := Lib.hid (turn_ts hturn2 mQ xQ)
                  have yR := Lib.hid (turn_is hturn2 mQ yQ)
                  have blR := Lib.hid (turned_below blQ hturn2 (by omega) blQ.size)
                  clear hown2 hturn2 hown hlk bnQ baQ mQ xQ yQ blQ i1 x0 x1
                  go_wp2_with fail
                  go_roundw
                  case rel => exact ⟨q + 1, _, by omega, by go_num, bnR.out, baR.out, mR.out, HPN.out, xR.out, yR.out, blR.out⟩
                  case measure => simp [intOf]; omega
                · obtain rfl : q = kk := by omega
                  have hPN := HPQ.out
                  rw [← Hk3.out] at hPN
                  have HPN := Lib.hid hPN
                  have hown := mQ.1
                  have Hall := Lib.hid (show ∀ x c, (x, c) ∈ Q → NW < c from fun x c h => Hold.out _ (hPN.mem_iff.1 h))
                  clear hPN
                  go_wp2_with (at_range; refine wpList_range_own _ rfl _ 59 rfl 3 2 lawI Try.underlying59 _ (b3 + 1) Q.length _ rfl hown ?_; intro w0 hrg0 hg0 hs0; refine Stay.mk ?_)
                  refine Stay.open_ ?_
                  have k0 : Below wr.heap.size wr w0 := grown_below hg0 (Nat.le_refl _) (fun g e => by cases e)
                  have mW := mQ.2
                  obtain ⟨VV, hVV⟩ : ∃ VV, wr = VV := ⟨_, rfl⟩
                  rw [hVV] at bnQ baQ mQ xQ yQ blQ hrg0 k0 ⊢
                  clear hVV hg0 hs0 hown
                  go_wp2_with fail
                  go_loopw [19] (fun _ wi => ∃ (left : Lit → Bool) (cnt : Nat), wi.ranges Try.prog 3 (plainElem Try.prog 2) (b3 + 1) VV.heap.size Q.length (dat .i64 dO Q) left cnt ∧ Below VV.heap.size VV wi) (fun _ wi => wi.rangeLeft (b3 + 1) VV.heap.size)
                  case atStart => exact ⟨_, _, hrg0, k0⟩
                  case round =>
                    clear hrg0 k0
                    obtain ⟨left, cnt, hrg, kr⟩ := hrel
                    obtain ⟨x0, x1⟩ := (bnQ.on kr bnQ.lt).cells
                    go_wp2_with (at_next; refine wpList_next_ranges_ii _ rfl _ rfl 3 2 .i64 .i64 lawI Try.underlying3 Try.underlying2 (b3 + 1) VV.heap.size Q.length _ _ _ rfl hrg ?_ ?_)
                    · intro hc0 hl0
                      have bnD := bnQ.on kr bnQ.lt
                      have baD := baQ.on kr baQ.lt
                      have mD := mQ.on kr mQ.lt
                      have xD := xQ.on kr
                      have blD := bel2 blQ kr
                      clear x0 x1 hrg bnQ baQ mQ xQ yQ blQ kr
                      obtain ⟨x0, x1⟩ := bnD.cells
                      obtain ⟨z0, z1⟩ := baD.cells
                      obtain ⟨f0, f1⟩ := baD.froz
                      obtain ⟨w4, hw4, a4, hs4, kbx, kb, ktr, kts, kis, kh⟩ := store_end baD NW A1 n1 c1
                      have m4 := mD.same (kh _ (show b3 + 1 ≠ b3 by omega))
                      have x4 := kts _ _ _ _ _ (by decide) xD
                      have bl4 := kb _ _ blD hlo
                      have Hw4 := Lib.hid hw4
                      have hll := m4.len
                      have hML : (Q).length = n1 := by rw [HPN.out.length_eq]; exact x4.len
                      rw [hML] at hll
                      obtain ⟨y0, y1⟩ := a4.cells
                      have Hnext := Lib.hid (show OC w b3 NW NL (Q) w4 from ⟨⟨A1, n1, c1, a4, x4⟩, m4, HPN.out, bl4, HRX.out⟩)
                      rw [← Hw4.out] at hll y0 y1
                      have hnn : ((n1 : Int) != (n1 : Int)) = false := by simp
                      clear kbx kb ktr kts kis kh hs4 a4 m4 x4 bl4 xD mD baD bnD blD hw4
                      go_wp2_with fail
                      rw [Hw4.out]
                      go_roundw
                      case rel => exact ⟨j + 1, NW, NL, Q, by omega, by omega, by go_num, Hnext.out⟩
                      case measure => simp [intOf]; omega
                    · intro x c w2 cnt2 hwx hwc hlk hat hrg2 hlt2 hg2 hs2 hen
                      have hmem : (x, c) ∈ Q := at_mem mW hat
                      have hgt := Hall.out x c hmem
                      have hng : ¬ c ≤ NW := by omega
                      have k2 : Below VV.heap.size VV w2 := kr.grown hg2 kr.size (fun g e => by cases e; exact Nat.le_refl _)
                      have hle := Lib.hid hrg.left_eq
                      have K2 := Lib.hid k2
                      have HR2 := Lib.hid hrg2
                      obtain ⟨y0, y1⟩ := (bnQ.on k2 bnQ.lt).cells
                      clear hwx hwc hlk hat hg2 hs2 hmem hgt kr hrg x0 x1 k2 hrg2
                      go_wp2_with fail
                      go_roundw
                      case rel => exact ⟨_, cnt2, HR2.out, K2.out⟩
                      case measure => rw [HR2.out.left_eq, hle.out]; exact hlt2
            · have t4 : ((kx : Int) % 5 == 4) = false := by rw [beq_eq_false_iff_ne]; omega
              clear c4
              obtain ⟨NL, hNL⟩ : ∃ x, sSet now L ky vl = x := ⟨_, rfl⟩
              obtain ⟨ER, hER⟩ : ∃ x, eSet now L ky vl = x := ⟨_, rfl⟩
              have HNL := Lib.hid hNL
              have HER := Lib.hid hER
              have HRN := Lib.hid (show RightP now NL by rw [← hNL]; exact right_set HRi.out)
              have HRX := HRN
              by_cases hE0 : eSet now L ky vl = 0
              · have HPN := Lib.hid (show (putL M ky vl).Perm NL by rw [← hNL]; unfold sSet; rw [if_pos hE0]; exact put_perm HPm.out ky vl)
                obtain rfl : (0 : Int) = ER := hE0.symm.trans hER
                clear hNL hER hE0
                go_wp2_with fail
                rw [HwA.out]
                refine (set_w now Aa n3 ca ky vl L wA taA.tr hn3 Hky.out Hvl.out).mono ?_
                rw [HNL.out, HER.out]
                rintro e w1 ⟨A1, n1, c1, rfl, x1, k1⟩
                have hn1 : n1 ≤ 100000 := by have h1 := x1.len; have h2 := HRN.out.1; omega
                have baB := baA.on k1 baA.lt
                have mB := mA.on k1 mA.lt
                have cB := cA.same (k1.block _ cA.lt)
                have blB := bel2 blA k1
                have lA := cB.lt
                clear baA taA mA cA blA k1 e0 e1
                obtain ⟨X1, hX1, bn1, q1⟩ := boxed w1 28 now A1 n1 c1
                have HX1 := Lib.hid hX1
                have l3 : b3 < w1.heap.size := baB.lt
                have l4 : b3 + 1 < w1.heap.size := mB.lt
                have g0 := cB.cell 0
                have g1 := cB.cell 1
                have g2 := cB.cell 2
                simp only [List.getElem?_toArray, List.getElem?_cons_succ, List.getElem?_cons_zero] at g0 g1 g2
                have baC := baB.on q1 baB.lt
                have mC := mB.on q1 mB.lt
                have xB := x1.on q1
                have blC := bel2 blB q1
                clear hX1 baB mB cB blB q1 x1
                have hown := mC.1
                have hlm : M.length < maxLen := by have h1 := HPm.out.length_eq; have h2 := HRi.out.1; simp only [maxLen]; omega
                go_wp2_with (at_mapUpdate; refine Stay.mk ?_)
                refine Stay.open_ ?_
                rw [HX1.out]
                refine wpList_mapUpdate_in _ rfl (.tmp 53) (.tmp 55) (.tmp 57) 59 rfl 3 2 lawI Try.underlying59 _ (b3 + 1) M.length _ rfl hown hlm (.int .i64 ky) (.int .i64 vl) (.int .i64 ky) rfl rfl (Maps.keyOf_int_mk Try.underlying3 Hky.out) _ _ (val_mk Hvl.out) ?_
                intro w2 hown2 hturn2
                have mD := MO.stored (D := dat .i64 dO M) mC hown2
                have bnD := turn_box hturn2 bn1 (by omega)
                have baD := turn_box hturn2 baC (by omega)
                have xD := turn_ts hturn2 mC xB
                have blD := turned_below blC hturn2 (by omega) blC.size
                clear hown2 hturn2 hown g0 g1 g2 bn1 baC mC xB blC HX1 hlm
                obtain ⟨x0, x1⟩ := bnD.cells
                obtain ⟨z0, z1⟩ := baD.cells
                obtain ⟨f0, f1⟩ := baD.froz
                obtain ⟨w4, hw4, a4, hs4, kbx, kb, ktr, kts, kis, kh⟩ := store_end baD now A1 n1 c1
                have m4 := mD.same (kh _ (show b3 + 1 ≠ b3 by omega))
                have x4 := kts _ _ _ _ _ (by decide) xD
                have bl4 := kb _ _ blD hlo
                have Hw4 := Lib.hid hw4
                have hll := m4.len
                have hML : (putL M ky vl).length = n1 := by rw [HPN.out.length_eq]; exact x4.len
                rw [hML] at hll
                obtain ⟨y0, y1⟩ := a4.cells
                have Hnext := Lib.hid (show OC w b3 now NL (putL M ky vl) w4 from ⟨⟨A1, n1, c1, a4, x4⟩, m4, HPN.out, bl4, HRX.out⟩)
                rw [← Hw4.out] at hll y0 y1
                have hnn : ((n1 : Int) != (n1 : Int)) = false := by simp
                clear kbx kb ktr kts kis kh hs4 a4 m4 x4 bl4 xD mD baD bnD blD hw4
                go_wp2_with fail
                rw [Hw4.out]
                go_roundw
                case rel => exact ⟨j + 1, now, NL, putL M ky vl, by omega, by omega, by go_num, Hnext.out⟩
                case measure => simp [intOf]; omega
              · have HPN := Lib.hid (show M.Perm NL by rw [← hNL]; unfold sSet; rw [if_neg hE0]; exact HPm.out)
                have hE1 : ((ER : Int) == 0) = false := by rw [beq_eq_false_iff_ne, ← hER]; exact hE0
                clear hNL hER hE0
                have hEE : ((ER : Int) == ER) = true := by simp
                go_wp2_with fail
                rw [HwA.out]
                refine (set_w now Aa n3 ca ky vl L wA taA.tr hn3 Hky.out Hvl.out).mono ?_
                rw [HNL.out, HER.out]
                rintro e w1 ⟨A1, n1, c1, rfl, x1, k1⟩
                have hn1 : n1 ≤ 100000 := by have h1 := x1.len; have h2 := HRN.out.1; omega
                have baB := baA.on k1 baA.lt
                have mB := mA.on k1 mA.lt
                have cB := cA.same (k1.block _ cA.lt)
                have blB := bel2 blA k1
                have lA := cB.lt
                clear baA taA mA cA blA k1 e0 e1
                obtain ⟨X1, hX1, bn1, q1⟩ := boxed w1 28 now A1 n1 c1
                have HX1 := Lib.hid hX1
                have l3 : b3 < w1.heap.size := baB.lt
                have l4 : b3 + 1 < w1.heap.size := mB.lt
                have g0 := cB.cell 0
                have g1 := cB.cell 1
                have g2 := cB.cell 2
                simp only [List.getElem?_toArray, List.getElem?_cons_succ, List.getElem?_cons_zero] at g0 g1 g2
                have baC := baB.on q1 baB.lt
                have mC := mB.on q1 mB.lt
                have xB := x1.on q1
                have blC := bel2 blB q1
                clear hX1 baB mB cB blB q1 x1
                obtain ⟨w2, hw2⟩ : ∃ w2, X1 = w2 := ⟨_, rfl⟩
                rw [hw2] at bn1 baC mC xB blC HX1
                have bnD := bn1
                have baD := baC
                have mD := mC
                have xD := xB
                have blD := blC
                clear bn1 baC mC xB blC hw2 l3 l4
                obtain ⟨x0, x1⟩ := bnD.cells
                obtain ⟨z0, z1⟩ := baD.cells
                obtain ⟨f0, f1⟩ := baD.froz
                obtain ⟨w4, hw4, a4, hs4, kbx, kb, ktr, kts, kis, kh⟩ := store_end baD now A1 n1 c1
                have m4 := mD.same (kh _ (show b3 + 1 ≠ b3 by omega))
                have x4 := kts _ _ _ _ _ (by decide) xD
                have bl4 := kb _ _ blD hlo
                have Hw4 := Lib.hid hw4
                have hll := m4.len
                have hML : (M).length = n1 := by rw [HPN.out.length_eq]; exact x4.len
                rw [hML] at hll
                obtain ⟨y0, y1⟩ := a4.cells
                have Hnext := Lib.hid (show OC w b3 now NL (M) w4 from ⟨⟨A1, n1, c1, a4, x4⟩, m4, HPN.out, bl4, HRX.out⟩)
                rw [← Hw4.out, ← HX1.out] at hll y0 y1
                rw [← HX1.out] at x0 x1 z0 z1 f0 f1
                have hnn : ((n1 : Int) != (n1 : Int)) = false := by simp
                clear kbx kb ktr kts kis kh hs4 a4 m4 x4 bl4 xD mD baD bnD blD hw4
                go_wp2_with fail
                rw [HX1.out, Hw4.out]
                go_roundw
                case rel => exact ⟨j + 1, now, NL, M, by omega, by omega, by go_num, Hnext.out⟩
                case measure => simp [intOf]; omega
      · go_wp2_with fail
        go_ret
        exact ⟨rfl, hlow⟩
    · go_wp2_with fail
      go_ret
      exact ⟨rfl, hlow⟩
end Go.Proofs.Ytgpmgghjcocfmaa
