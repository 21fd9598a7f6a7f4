/-
  Set and Stop of the document's answer for wheels. Condition: the timers can be read, a hundred thousand at most.
-/
import Derived.Test.YtgpmgghjcocfmaaWhG
import Derived.Deep.CutRange
set_option linter.unusedVariables false
set_option linter.unusedSimpArgs false
namespace Go.Proofs.Ytgpmgghjcocfmaa
open Go.RowKit

/-- A call of the document's gave a wheel back, and an error's number. -/
def RPost (w : World) (now : Int) (L : List (Int × Int)) (er : Int) (e : Ending) (w' : World) : Prop :=
  ∃ A n c, e = .returned (.tuple #[.agg #[.int .i64 now, .slice A n c], .int .i64 er]) ∧ TR w' A n c L ∧ Below w.heap.size w w'
def RTPost (w : World) (now : Int) (L : List (Int × Int)) (l : List Int) (er : Int) (e : Ending) (w' : World) : Prop :=
  ∃ A n c Ai ni ci, e = .returned (.tuple #[.agg #[.int .i64 now, .slice A n c], .slice Ai ni ci, .int .i64 er]) ∧ TR w' A n c L ∧ IS w' Ai ni ci l ∧ Below w.heap.size w w'

set_option maxRecDepth 100000 in
set_option maxHeartbeats 2000000 in
theorem stop_r (now : Int) (A : Option Addr) (n c : Nat) (id : Int) (L : List (Int × Int)) (w : World) (h : TR w A n c L) (hn : n ≤ 100000) :
    Calls Try.prog 15 #[.agg #[.int .i64 now, .slice A n c], .int .i64 id] w (RPost w now (sStop now L id) (eStop now L id)) := by
  obtain ⟨W, hW, ha, hbox, hbl, hS⟩ := two_boxes w 24 24 now A n c
  have HW := Lib.hid hW
  clear hW
  have hr := right_r now A n c L W (h.on hbl) hn
  cases hR : rightB now L with
  | false =>
    have he : eStop now L id = 2 := by unfold eStop; rw [hR]; rfl
    have hs : sStop now L id = L := by unfold sStop; rw [he]; rfl
    rw [he, hs]
    rw [hR] at hr
    clear he hs hR
    go_enter Try.func15, Try.ntmps15
    go_wp2_with fail
    rw [← HW.out]
    refine hr.mono ?_
    rintro e w1 ⟨rfl, hb1⟩
    have ha1 := ha.on hb1 ha.lt
    have rb1 := hbox.on hb1 hbox.lt
    have hbl1 := bel2 hbl hb1
    have h1 := h.on hbl1
    obtain ⟨d0, d1⟩ := ha1.cells
    clear hr ha hbox hbl hb1 h
    obtain ⟨z0, z1⟩ := rb1.cells
    obtain ⟨f0, f1⟩ := rb1.froz
    obtain ⟨w9, hw9, b9, _, _, kb, kt, _, _, _⟩ := store_end rb1 now A n c
    have hx9 := kt _ _ _ _ h1
    have hb9 := kb _ _ hbl1 (show w.heap.size ≤ w.heap.size + 1 by omega)
    obtain ⟨v0, v1⟩ := b9.cells
    have Hw9 := Lib.hid hw9
    clear hw9 kb kt b9
    go_wp2_with fail
    rw [Hw9.out]
    exact bodyPost_ret (v := .tuple #[.agg #[.int .i64 now, .slice A n c], .int .i64 2]) (by simp [results, Try.results15, go_sem, v0, v1]) rfl ⟨A, n, c, rfl, hx9, hb9⟩
  | true =>
    rw [hR] at hr
    cases hh : hasL L id with
    | false =>
      have he : eStop now L id = 7 := by unfold eStop; rw [hR, hh]; rfl
      have hs : sStop now L id = L := by unfold sStop; rw [he]; rfl
      rw [he, hs]
      clear he hs hR
      go_enter Try.func15, Try.ntmps15
      go_wp2_with fail
      rw [← HW.out]
      refine hr.mono ?_
      rintro e w1 ⟨rfl, hb1⟩
      have ha1 := ha.on hb1 ha.lt
      have rb1 := hbox.on hb1 hbox.lt
      have hbl1 := bel2 hbl hb1
      have h1 := h.on hbl1
      obtain ⟨d0, d1⟩ := ha1.cells
      clear hr ha hbox hbl hb1 h
      have hw := without_r A n c id L w1 h1 hn
      rw [hh] at hw
      clear hh
      go_wp2_with fail
      refine hw.mono ?_
      rintro e w2 ⟨A5, n5, c5, rfl, hx5, hb5⟩
      have ha2 := ha1.on hb5 ha1.lt
      have rb2 := rb1.on hb5 rb1.lt
      have hbl2 := bel2 hbl1 hb5
      have h2 := h1.on hb5
      clear d0 d1 ha1 rb1 hbl1 h1 hb5 hx5 hw
      obtain ⟨d0, d1⟩ := ha2.cells
      obtain ⟨z0, z1⟩ := rb2.cells
      obtain ⟨f0, f1⟩ := rb2.froz
      obtain ⟨w9, hw9, b9, _, _, kb, kt, _, _, _⟩ := store_end rb2 now A n c
      have hx9 := kt _ _ _ _ h2
      have hb9 := kb _ _ hbl2 (show w.heap.size ≤ w.heap.size + 1 by omega)
      obtain ⟨v0, v1⟩ := b9.cells
      have Hw9 := Lib.hid hw9
      clear hw9 kb kt b9
      go_wp2_with fail
      rw [Hw9.out]
      exact bodyPost_ret (v := .tuple #[.agg #[.int .i64 now, .slice A n c], .int .i64 7]) (by simp [results, Try.results15, go_sem, v0, v1]) rfl ⟨A, n, c, rfl, hx9, hb9⟩
    | true =>
      have he : eStop now L id = 0 := by unfold eStop; rw [hR, hh]; rfl
      have hs : sStop now L id = delL L id := by unfold sStop; rw [if_pos he]
      rw [he, hs]
      clear he hs hR
      go_enter Try.func15, Try.ntmps15
      go_wp2_with fail
      rw [← HW.out]
      refine hr.mono ?_
      rintro e w1 ⟨rfl, hb1⟩
      have ha1 := ha.on hb1 ha.lt
      have rb1 := hbox.on hb1 hbox.lt
      have hbl1 := bel2 hbl hb1
      have h1 := h.on hbl1
      obtain ⟨d0, d1⟩ := ha1.cells
      clear hr ha hbox hbl hb1 h
      have hw := without_r A n c id L w1 h1 hn
      rw [hh] at hw
      clear hh
      go_wp2_with fail
      refine hw.mono ?_
      rintro e w2 ⟨A5, n5, c5, rfl, hx5, hb5⟩
      have ha2 := ha1.on hb5 ha1.lt
      have rb2 := rb1.on hb5 rb1.lt
      have hbl2 := bel2 hbl1 hb5
      clear d0 d1 ha1 rb1 hbl1 h1 hb5 hw
      have hx6 := hx5.tr
      clear hx5
      have ha9 := ha2.put1 A5 n5 c5
      have rb9 := rb2.far1 (show w.heap.size + 1 ≠ w.heap.size by omega) 1 (.slice A5 n5 c5)
      have hx8 := hx6.far1 ha2 1 (.slice A5 n5 c5)
      have hb8 := hbl2.setCell (p := ⟨w.heap.size, 1, none⟩) (Nat.le_refl _) (.slice A5 n5 c5)
      obtain ⟨d0, d1⟩ := ha2.cells
      obtain ⟨g0, g1⟩ := ha2.froz
      obtain ⟨u0, u1⟩ := ha9.cells
      obtain ⟨z0, z1⟩ := rb9.cells
      obtain ⟨f0, f1⟩ := rb9.froz
      obtain ⟨w9, hw9, b9, _, _, kb, kt, _, _, _⟩ := store_end rb9 now A5 n5 c5
      have hx9 := kt _ _ _ _ hx8
      have hb9 := kb _ _ hb8 (show w.heap.size ≤ w.heap.size + 1 by omega)
      obtain ⟨v0, v1⟩ := b9.cells
      have Hw9 := Lib.hid hw9
      clear hw9 kb kt b9 ha9 rb9 hx8 hb8
      go_wp2_with fail
      rw [Hw9.out]
      exact bodyPost_ret (v := .tuple #[.agg #[.int .i64 now, .slice A5 n5 c5], .int .i64 0]) (by simp [results, Try.results15, go_sem, v0, v1]) rfl ⟨A5, n5, c5, rfl, hx9, hb9⟩

def DnP (tm : Int × Int) (M : List (Int × Int)) (dn : Bool) : Prop := dn = true ↔ ∃ p ∈ M, bef tm p
/-- While the document's Set makes its list anew. -/
def InsI (tm : Int × Int) (M : List (Int × Int)) (dn : Bool) : List (Int × Int) := if dn then insT tm M else M
theorem insI_len (tm : Int × Int) (M : List (Int × Int)) (dn : Bool) : (InsI tm M dn).length ≤ M.length + 1 := by unfold InsI; split <;> (try rw [length_insT]) <;> omega

set_option maxRecDepth 100000 in
set_option maxHeartbeats 4000000 in
theorem set_r (now : Int) (A : Option Addr) (n c : Nat) (id at_ : Int) (L : List (Int × Int)) (w : World) (h : TR w A n c L) (hn : n ≤ 100000) (hid : (Lit.int .i64 id).wf = true) (hat : (Lit.int .i64 at_).wf = true) :
    Calls Try.prog 13 #[.agg #[.int .i64 now, .slice A n c], .int .i64 id, .int .i64 at_] w (RPost w now (sSet now L id at_) (eSet now L id at_)) := by
  have Hid := Lib.hid hid
  have Hat := Lib.hid hat
  clear hid hat
  obtain ⟨i0, hi0, hz0, hz1, hz2⟩ := info_parts Try.infoR
  obtain ⟨W, hW, ha, hbox, hbl, hS⟩ := two_boxes w 24 24 now A n c
  have HW := Lib.hid hW
  clear hW
  have hTL := h.len
  have hw := without_r A n c id L W (h.on hbl) hn
  obtain ⟨d0, d1⟩ := ha.cells
  obtain ⟨ER, hER⟩ : ∃ E, eSet now L id at_ = E := ⟨_, rfl⟩
  obtain ⟨SR, hSR⟩ : ∃ E, sSet now L id at_ = E := ⟨_, rfl⟩
  rw [hER, hSR]
  have HER := Lib.hid hER
  have HSR := Lib.hid hSR
  clear hER hSR
  obtain ⟨HB, hHB⟩ : ∃ b, hasL L id = b := ⟨_, rfl⟩
  rw [hHB] at hw
  have HHB := Lib.hid hHB
  clear hHB
  go_enter Try.func13, Try.ntmps13
  go_wp2_with fail
  rw [← HW.out]
  refine hw.mono ?_
  rintro e w2 ⟨A5, n5, c5, rfl, hx5, hb5⟩
  have ha2 := ha.on hb5 ha.lt
  have rb2 := hbox.on hb5 hbox.lt
  have hbl2 := bel2 hbl hb5
  have h2 := h.on hbl2
  clear d0 d1 ha hbox hbl hb5 hw h HW
  obtain ⟨d0, d1⟩ := ha2.cells
  have hr := right_r now A n c L w2 h2 hn
  go_wp2_with fail
  refine hr.mono ?_
  rintro e w1 ⟨rfl, hb1⟩
  have ha1 := ha2.on hb1 ha2.lt
  have rb1 := rb2.on hb1 rb2.lt
  have hbl1 := bel2 hbl2 hb1
  have h1 := h2.on hb1
  have hx1 := hx5.on hb1
  clear d0 d1 hr ha2 rb2 hbl2 hb1 h2 hx5
  obtain ⟨d0, d1⟩ := ha1.cells
  cases hR : rightB now L with
  | false =>
    have he : eSet now L id at_ = 2 := by unfold eSet; rw [hR]; rfl
    have hs : sSet now L id at_ = L := by unfold sSet; rw [he]; rfl
    obtain rfl : (2 : Int) = ER := he.symm.trans HER.out
    obtain rfl : L = SR := hs.symm.trans HSR.out
    clear he hs hR HER HSR
    obtain ⟨z0, z1⟩ := rb1.cells
    obtain ⟨f0, f1⟩ := rb1.froz
    obtain ⟨w9, hw9, b9, _, _, kb, kt, _, _, _⟩ := store_end rb1 now A n c
    have hx9 := kt _ _ _ _ h1
    have hb9 := kb _ _ hbl1 (show w.heap.size ≤ w.heap.size + 1 by omega)
    obtain ⟨v0, v1⟩ := b9.cells
    have Hw9 := Lib.hid hw9
    clear hw9 kb kt b9
    go_wp2_with fail
    rw [Hw9.out]
    exact bodyPost_ret (v := .tuple #[.agg #[.int .i64 now, .slice A n c], .int .i64 2]) (by simp [results, Try.results13, go_sem, v0, v1]) rfl ⟨A, n, c, rfl, hx9, hb9⟩
  | true =>
    by_cases hold : at_ ≤ now
    · have he : eSet now L id at_ = 10 := by unfold eSet; rw [hR, if_neg (by simp), if_pos hold]
      have hs : sSet now L id at_ = L := by unfold sSet; rw [he]; rfl
      obtain rfl : (10 : Int) = ER := he.symm.trans HER.out
      obtain rfl : L = SR := hs.symm.trans HSR.out
      clear he hs hR HER HSR
      obtain ⟨z0, z1⟩ := rb1.cells
      obtain ⟨f0, f1⟩ := rb1.froz
      obtain ⟨w9, hw9, b9, _, _, kb, kt, _, _, _⟩ := store_end rb1 now A n c
      have hx9 := kt _ _ _ _ h1
      have hb9 := kb _ _ hbl1 (show w.heap.size ≤ w.heap.size + 1 by omega)
      obtain ⟨v0, v1⟩ := b9.cells
      have Hw9 := Lib.hid hw9
      clear hw9 kb kt b9
      go_wp2_with fail
      rw [Hw9.out]
      exact bodyPost_ret (v := .tuple #[.agg #[.int .i64 now, .slice A n c], .int .i64 10]) (by simp [results, Try.results13, go_sem, v0, v1]) rfl ⟨A, n, c, rfl, hx9, hb9⟩
    · by_cases hbig : (1099511627776 : Int) < at_
      · have he : eSet now L id at_ = 3 := by unfold eSet; rw [hR, if_neg (by simp), if_neg hold, if_pos hbig]
        have hs : sSet now L id at_ = L := by unfold sSet; rw [he]; rfl
        obtain rfl : (3 : Int) = ER := he.symm.trans HER.out
        obtain rfl : L = SR := hs.symm.trans HSR.out
        clear he hs hR HER HSR
        obtain ⟨z0, z1⟩ := rb1.cells
        obtain ⟨f0, f1⟩ := rb1.froz
        obtain ⟨w9, hw9, b9, _, _, kb, kt, _, _, _⟩ := store_end rb1 now A n c
        have hx9 := kt _ _ _ _ h1
        have hb9 := kb _ _ hbl1 (show w.heap.size ≤ w.heap.size + 1 by omega)
        obtain ⟨v0, v1⟩ := b9.cells
        have Hw9 := Lib.hid hw9
        clear hw9 kb kt b9
        go_wp2_with fail
        rw [Hw9.out]
        exact bodyPost_ret (v := .tuple #[.agg #[.int .i64 now, .slice A n c], .int .i64 3]) (by simp [results, Try.results13, go_sem, v0, v1]) rfl ⟨A, n, c, rfl, hx9, hb9⟩
      · have hl5 := hx1.len
        have hL := (rightB_iff.1 hR).1
        by_cases hfull : (delL L id).length = 1000
        · have he : eSet now L id at_ = 6 := by unfold eSet; rw [hR, if_neg (by simp), if_neg hold, if_neg hbig, if_pos hfull]
          have hs : sSet now L id at_ = L := by unfold sSet; rw [he]; rfl
          obtain rfl : (6 : Int) = ER := he.symm.trans HER.out
          obtain rfl : L = SR := hs.symm.trans HSR.out
          obtain rfl : HB = false := by
            cases hb : HB with
            | false => rfl
            | true => have := del_lt (HHB.out.trans hb); omega
          obtain rfl : n5 = 1000 := by omega
          clear he hs hR HER HSR hl5 hL hfull hx1
          obtain ⟨z0, z1⟩ := rb1.cells
          obtain ⟨f0, f1⟩ := rb1.froz
          obtain ⟨w9, hw9, b9, _, _, kb, kt, _, _, _⟩ := store_end rb1 now A n c
          have hx9 := kt _ _ _ _ h1
          have hb9 := kb _ _ hbl1 (show w.heap.size ≤ w.heap.size + 1 by omega)
          obtain ⟨v0, v1⟩ := b9.cells
          have Hw9 := Lib.hid hw9
          clear hw9 kb kt b9
          go_wp2_with fail
          rw [Hw9.out]
          exact bodyPost_ret (v := .tuple #[.agg #[.int .i64 now, .slice A n c], .int .i64 6]) (by simp [results, Try.results13, go_sem, v0, v1]) rfl ⟨A, n, c, rfl, hx9, hb9⟩
        · have he : eSet now L id at_ = 0 := by unfold eSet; rw [hR, if_neg (by simp), if_neg hold, if_neg hbig, if_neg hfull]
          have hs : sSet now L id at_ = insT (id, at_) (delL L id) := by unfold sSet; rw [if_pos he]
          obtain rfl : (0 : Int) = ER := he.symm.trans HER.out
          have HSR' := Lib.hid (HSR.out.symm.trans hs)
          have hm5 : n5 < 1000 := by have := (del_sub L id).length_le; omega
          have hnl : ¬ (1000 : Int) ≤ (n5 : Int) := by omega
          have HwS := Lib.hid (show wfL SR by rw [HSR'.out]; exact wfL.ins hx1.tr.wf Hid.out Hat.out)
          clear he hs hR HER HSR hl5 hL hfull h1 hTL
          obtain ⟨V, hV⟩ : ∃ V, w1.alloc (.cells #[.int .i64 id, .int .i64 at_] 46) = V := ⟨_, rfl⟩
          have kV : Below w1.heap.size w1 V := by rw [← hV]; exact (Below.refl _ _).alloc (Nat.le_refl _) _
          have t0 : V.cell? ⟨w1.heap.size, 0, none⟩ = some (.int .i64 id) := by rw [← hV]; exact (CB.new w1 46 #[.int .i64 id, .int .i64 at_]).cell 0
          have t1 : V.cell? ⟨w1.heap.size, 1, none⟩ = some (.int .i64 at_) := by rw [← hV]; exact (CB.new w1 46 #[.int .i64 id, .int .i64 at_]).cell 1
          have HV := Lib.hid hV
          have hxV := (hx1.on kV).tr
          have haV := ha1.on kV ha1.lt
          have rbV := rb1.on kV rb1.lt
          have hbV := bel2 hbl1 kV
          obtain ⟨M, hM⟩ : ∃ M, delL L id = M := ⟨_, rfl⟩
          rw [hM] at hxV HSR'
          have hlM := Lib.hid hxV.len
          clear hV hx1 ha1 rb1 hbl1 kV hM
          go_upto_region 8 with fail
          go_cut [36] from 37 to 43 (fun s36 wx => s36 = .bool false ∧ wx = w1)
          case first =>
            cases HB
            · go_wp2_with fail
              go_meet
              case rel => exact ⟨by simp; omega, rfl⟩
            · go_wp2_with fail
              go_meet
              case rel => exact ⟨rfl, rfl⟩
          case rest =>
            obtain ⟨rfl, hwc⟩ := hcut
            rw [hwc]
            clear hwc
            go_wp2_with fail
            rw [HV.out]
            clear d0 d1
            go_loopw [11, 12, 13] (fun v b i wr => ∃ (j : Nat) (dn : Bool), j ≤ n5 ∧ i = .int .i64 j ∧ b = .bool dn ∧ DnP (id, at_) (M.take j) dn ∧ OS V 46 2 (tc (InsI (id, at_) (M.take j) dn)) v wr) (fun _ _ i _ => n5 - (intOf i).toNat)
            case atStart => exact ⟨0, false, by omega, rfl, rfl, by simp [DnP], OS.start V _ _ (Below.refl _ _)⟩
            case round =>
              obtain ⟨j, dn, hj, rfl, rfl, hdn, hos⟩ := hrel
              have Hdn := Lib.hid hdn
              clear hdn
              have hlow := hos.low
              have s0 := cell_on hlow t0
              have s1 := cell_on hlow t1
              have hml := insI_len (id, at_) (M.take j) dn
              rw [List.length_take] at hml
              obtain ⟨A0, m, c0, G, rfl, hsg, hG⟩ := hos.out
              rw [tc_len2 hsg] at hml
              have hm : m ≤ j + 1 := by omega
              have p0 : 0 < 1 := by omega
              have p02 : 0 < 2 := by omega
              have p3 : m + 1 ≤ maxLen := by simp only [maxLen]; omega
              have p4 : (m + 1) * 16 ≤ 140737488355328 := by omega
              clear hml
              by_cases hlt : j < n5
              · obtain ⟨g, off, rfl, _, e1, e2⟩ := (hxV.on hlow).at_ hlt
                have hjl : j < M.length := by rw [hlM.out]; exact hlt
                have htk := Lib.hid (tk_take (L := M) hjl)
                generalize tk M j = x at *
                obtain ⟨xk, xv⟩ := x
                simp only at e1 e2
                cases dn with
                | true =>
                  have Hdn2 := Lib.hid (show DnP (id, at_) (M.take (j + 1)) true by
                    obtain ⟨p, hp, hb⟩ := Hdn.out.1 rfl
                    exact ⟨fun _ => ⟨p, by rw [htk.out]; simp [hp], hb⟩, fun _ => rfl⟩)
                  have Hnx := Lib.hid (show InsI (id, at_) (M.take (j + 1)) true = InsI (id, at_) (M.take j) true ++ [(xk, xv)] by
                    unfold InsI
                    rw [if_pos rfl, if_pos rfl, htk.out]
                    exact insT_snoc (Hdn.out.1 rfl))
                  have hos' := hos
                  clear hos Hdn
                  go_wp2_with fail
                  go_quiet (fail)
                  obtain ⟨w6, hw6⟩ : ∃ w6, wr.drewN nq = w6 := ⟨_, rfl⟩
                  rw [hw6]
                  have hsg6 : Seg w6 46 2 A0 m c0 (tc (InsI (id, at_) (M.take j) true)) G := by rw [← hw6]; exact hsg.drewN nq
                  have e16 : w6.cell? ⟨g, off + j * 2, none⟩ = some (.int .i64 xk) := by rw [← hw6]; exact e1
                  have e26 : w6.cell? ⟨g, off + j * 2 + 1, none⟩ = some (.int .i64 xv) := by rw [← hw6]; exact e2
                  have hl6 : Below V.heap.size V w6 := by rw [← hw6]; exact belowN hlow nq
                  have hl7 := Lib.hid (hl6.alloc hl6.size (.cells #[.int .i64 xk, .int .i64 xv] 46))
                  clear hw6 hsg e1 e2 hlow s0 s1 hl6 hos'
                  go_wp2_with (at_builtin; refine wpList_append_seg _ rfl (.tmp 68) (.tmp 73) _ rfl 46 i0 _ 2 16 Try.underlying22 hi0 hz0 hz1 hz2 rfl p02 rfl (hsg6.alloc _) ⟨w6.heap.size, 0, none⟩ 1 1 [.int .i64 xk, .int .i64 xv] rfl rfl (cell_two_new _ _ _ _) (two_one _ _) p0 p3 p4 ?_; intro A1 c1 G1 w7 n1 m1 r1)
                  rw [tc_snoc] at n1
                  have hnext := Lib.hid (OS.app hl7.out hG n1 m1 r1)
                  clear hsg6 n1 m1 r1 e16 e26 hl7
                  go_wp2_with fail
                  go_roundw
                  case rel => exact ⟨j + 1, true, by omega, by go_num, rfl, Hdn2.out, by rw [Hnx.out]; exact hnext.out⟩
                  case measure => simp [intOf]; omega
                | false =>
                  have Hno := Lib.hid (show ∀ p ∈ M.take j, ¬ bef (id, at_) p from fun p hp hb => by have := Hdn.out.2 ⟨p, hp, hb⟩; cases this)
                  cases hb : befB (id, at_) (xk, xv) with
                  | false =>
                    have Hdn2 := Lib.hid (show DnP (id, at_) (M.take (j + 1)) false by
                      refine ⟨fun e => (by cases e), fun ⟨p, hp, hbb⟩ => ?_⟩
                      rw [htk.out] at hp
                      rcases List.mem_append.1 hp with hp | hp
                      · exact absurd hbb (Hno.out p hp)
                      · simp at hp; subst hp; exact absurd hbb (befB_no.1 hb))
                    have Hnx := Lib.hid (show InsI (id, at_) (M.take (j + 1)) false = InsI (id, at_) (M.take j) false ++ [(xk, xv)] by
                      unfold InsI
                      rw [if_neg (by simp), if_neg (by simp), htk.out])
                    clear Hdn
                    go_wp2_with fail
                    go_region_held3 (fun W' => W'.cell? ⟨w1.heap.size, 0, none⟩ = some (.int .i64 id) ∧ W'.cell? ⟨w1.heap.size, 1, none⟩ = some (.int .i64 at_) ∧ W'.cell? ⟨g, off + j * 2, none⟩ = some (.int .i64 xk) ∧ W'.cell? ⟨g, off + j * 2 + 1, none⟩ = some (.int .i64 xv)) (first | exact ⟨s0, s1, e1, e2⟩ | exact ⟨cell_on hb1 s0, cell_on hb1 s1, cell_on hb1 e1, cell_on hb1 e2⟩) (first
                      | (go_at_call 28; refine (aheadR_c id at_ xk xv wr.drew).mono ?_; rintro e w6 ⟨rfl, hb1⟩; rw [hb]))
                    have hb6 := below_drew hb1
                    have hos6 := hos.on hb6
                    have hsg6 : Seg w6 46 2 A0 m c0 (tc (InsI (id, at_) (M.take j) false)) G := hsg.keep fun k hk => hb6.block k (hsg.lt k hk)
                    have e16 := cell_on hb6 e1
                    have e26 := cell_on hb6 e2
                    have hl6 := bel2 hlow hb6
                    have hl7 := Lib.hid (hl6.alloc hl6.size (.cells #[.int .i64 xk, .int .i64 xv] 46))
                    clear hos hos6 hsg e1 e2 hlow s0 s1 hl6 hb1 hb6 hb
                    go_wp2_with (at_builtin; refine wpList_append_seg _ rfl (.tmp 68) (.tmp 73) _ rfl 46 i0 _ 2 16 Try.underlying22 hi0 hz0 hz1 hz2 rfl p02 rfl (hsg6.alloc _) ⟨w6.heap.size, 0, none⟩ 1 1 [.int .i64 xk, .int .i64 xv] rfl rfl (cell_two_new _ _ _ _) (two_one _ _) p0 p3 p4 ?_; intro A1 c1 G1 w7 n1 m1 r1)
                    rw [tc_snoc] at n1
                    have hnext := Lib.hid (OS.app hl7.out hG n1 m1 r1)
                    clear hsg6 n1 m1 r1 e16 e26 hl7
                    go_wp2_with fail
                    go_roundw
                    case rel => exact ⟨j + 1, false, by omega, by go_num, rfl, Hdn2.out, by rw [Hnx.out]; exact hnext.out⟩
                    case measure => simp [intOf]; omega
                  | true =>
                    have Hdn2 := Lib.hid (show DnP (id, at_) (M.take (j + 1)) true from ⟨fun _ => ⟨(xk, xv), by rw [htk.out]; simp, befB_iff.1 hb⟩, fun _ => rfl⟩)
                    have Hnx := Lib.hid (show InsI (id, at_) (M.take (j + 1)) true = InsI (id, at_) (M.take j) false ++ [(id, at_)] ++ [(xk, xv)] by
                      unfold InsI
                      rw [if_pos rfl, if_neg (by simp), htk.out, insT_parts Hno.out (fun p hp => by simp at hp; subst hp; exact befB_iff.1 hb)]
                      simp)
                    have p5 : m + 1 + 1 ≤ maxLen := by simp only [maxLen]; omega
                    have p6 : (m + 1 + 1) * 16 ≤ 140737488355328 := by omega
                    clear Hdn
                    go_wp2_with fail
                    go_region_held3 (fun W' => W'.cell? ⟨w1.heap.size, 0, none⟩ = some (.int .i64 id) ∧ W'.cell? ⟨w1.heap.size, 1, none⟩ = some (.int .i64 at_) ∧ W'.cell? ⟨g, off + j * 2, none⟩ = some (.int .i64 xk) ∧ W'.cell? ⟨g, off + j * 2 + 1, none⟩ = some (.int .i64 xv)) (first | exact ⟨s0, s1, e1, e2⟩ | exact ⟨cell_on hb1 s0, cell_on hb1 s1, cell_on hb1 e1, cell_on hb1 e2⟩) (first
                      | (go_at_call 28; refine (aheadR_c id at_ xk xv wr.drew).mono ?_; rintro e w6 ⟨rfl, hb1⟩; rw [hb]))
                    have hb6 := below_drew hb1
                    have hsg6 : Seg w6 46 2 A0 m c0 (tc (InsI (id, at_) (M.take j) false)) G := hsg.keep fun k hk => hb6.block k (hsg.lt k hk)
                    have s06 := cell_on hb6 s0
                    have s16 := cell_on hb6 s1
                    have hl6 := bel2 hlow hb6
                    have hl7 := Lib.hid (hl6.alloc hl6.size (.cells #[.int .i64 id, .int .i64 at_] 46))
                    clear hos hsg e1 e2 hlow s0 s1 hl6 hb1 hb6 hb
                    go_wp2_with (at_builtin; refine wpList_append_seg _ rfl (.tmp 64) (.tmp 66) _ rfl 46 i0 _ 2 16 Try.underlying22 hi0 hz0 hz1 hz2 rfl p02 rfl (hsg6.alloc _) ⟨w6.heap.size, 0, none⟩ 1 1 [.int .i64 id, .int .i64 at_] rfl rfl (cell_two_new _ _ _ _) (two_one _ _) p0 p3 p4 ?_; intro A1 c1 G1 w7 n1 m1 r1; refine Stay.mk ?_)
                    refine Stay.open_ ?_
                    rw [tc_snoc] at n1
                    obtain ⟨⟨A8, m8, c8, G8, e8, n8, hG8⟩, hl8⟩ := OS.app hl7.out hG n1 m1 r1
                    cases e8
                    obtain ⟨g', off', eA, _, e1, e2⟩ := (hxV.on hl8).at_ hlt
                    cases eA
                    have Hx := Lib.hid (show tk M j = (xk, xv) by
                      have h1 := htk.out
                      rw [tk_take hjl] at h1
                      simpa using h1)
                    rw [Hx.out] at e1 e2
                    simp only at e1 e2
                    have hl9 := Lib.hid (hl8.alloc hl8.size (.cells #[.int .i64 xk, .int .i64 xv] 46))
                    clear hsg6 n1 m1 r1 s06 s16 hl7 hl8
                    go_wp2_with (at_builtin; refine wpList_append_seg _ rfl (.tmp 68) (.tmp 73) _ rfl 46 i0 _ 2 16 Try.underlying22 hi0 hz0 hz1 hz2 rfl p02 rfl (n8.alloc _) ⟨w7.heap.size, 0, none⟩ 1 1 [.int .i64 xk, .int .i64 xv] rfl rfl (cell_two_new _ _ _ _) (two_one _ _) p0 p5 p6 ?_; intro A11 c11 G11 w71 n11 m11 r11)
                    rw [tc_snoc] at n11
                    have hnext := Lib.hid (OS.app hl9.out hG8 n11 m11 r11)
                    clear n8 n11 m11 r11 e1 e2 hl9
                    go_wp2_with fail
                    go_roundw
                    case rel => exact ⟨j + 1, true, by omega, by go_num, rfl, Hdn2.out, by rw [Hnx.out]; exact hnext.out⟩
                    case measure => simp [intOf]; omega
              · obtain rfl : j = n5 := by omega
                have hte : M.take j = M := List.take_of_length_le (by rw [hlM.out]; exact Nat.le_refl _)
                rw [hte] at hsg
                have Hdn2 := Lib.hid (show DnP (id, at_) M dn by have := Hdn.out; rwa [hte] at this)
                clear hos Hdn hte
                cases dn with
                | true =>
                  have hsr : InsI (id, at_) M true = SR := by rw [HSR'.out]; rfl
                  rw [hsr] at hsg
                  have haW := haV.on hlow haV.lt
                  have rbW := rbV.on hlow rbV.lt
                  have hblW := bel2 hbV hlow
                  have hxW := TR.of_seg hsg HwS.out
                  clear hsr hlow s0 s1 hsg
                  have ha9 := haW.put1 A0 m c0
                  have rb9 := rbW.far1 (show w.heap.size + 1 ≠ w.heap.size by omega) 1 (.slice A0 m c0)
                  have hx8 := hxW.far1 haW 1 (.slice A0 m c0)
                  have hb8 := hblW.setCell (p := ⟨w.heap.size, 1, none⟩) (Nat.le_refl _) (.slice A0 m c0)
                  obtain ⟨d0, d1⟩ := haW.cells
                  obtain ⟨g0, g1⟩ := haW.froz
                  obtain ⟨u0, u1⟩ := ha9.cells
                  obtain ⟨z0, z1⟩ := rb9.cells
                  obtain ⟨f0, f1⟩ := rb9.froz
                  obtain ⟨w9, hw9, b9, _, _, kb, kt, _, _, _⟩ := store_end rb9 now A0 m c0
                  have hx9 := kt _ _ _ _ hx8
                  have hb9 := kb _ _ hb8 (show w.heap.size ≤ w.heap.size + 1 by omega)
                  obtain ⟨v0, v1⟩ := b9.cells
                  have Hw9 := Lib.hid hw9
                  clear hw9 kb kt b9 ha9 rb9 hx8 hb8
                  go_wp2_with fail
                  rw [Hw9.out]
                  exact bodyPost_ret (v := .tuple #[.agg #[.int .i64 now, .slice A0 m c0], .int .i64 0]) (by simp [results, Try.results13, go_sem, v0, v1]) rfl ⟨A0, m, c0, rfl, hx9, hb9⟩
                | false =>
                  have hsr : M ++ [(id, at_)] = SR := by
                    rw [HSR'.out]
                    exact (insT_none fun p hp hb => by have := Hdn2.out.2 ⟨p, hp, hb⟩; cases this).symm
                  have hsg6 : Seg wr 46 2 A0 m c0 (tc M) G := hsg
                  have hl7 := Lib.hid (hlow.alloc hlow.size (.cells #[.int .i64 id, .int .i64 at_] 46))
                  clear hsg hlow
                  go_wp2_with (at_builtin; refine wpList_append_seg _ rfl (.tmp 77) (.tmp 79) _ rfl 46 i0 _ 2 16 Try.underlying22 hi0 hz0 hz1 hz2 rfl p02 rfl (hsg6.alloc _) ⟨wr.heap.size, 0, none⟩ 1 1 [.int .i64 id, .int .i64 at_] rfl rfl (cell_two_new _ _ _ _) (two_one _ _) p0 p3 p4 ?_; intro A1 c1 G1 w7 n1 m1 r1; refine Stay.mk ?_)
                  refine Stay.open_ ?_
                  rw [tc_snoc, hsr] at n1
                  obtain ⟨⟨A8, m8, c8, G8, e8, n8, hG8⟩, hl8⟩ := OS.app hl7.out hG n1 m1 r1
                  cases e8
                  have haW := haV.on hl8 haV.lt
                  have rbW := rbV.on hl8 rbV.lt
                  have hblW := bel2 hbV hl8
                  have hxW := TR.of_seg n8 HwS.out
                  clear hsr hl7 hl8 s0 s1 hsg6 n1 m1 r1 n8
                  have ha9 := haW.put1 A1 (m + 1) c1
                  have rb9 := rbW.far1 (show w.heap.size + 1 ≠ w.heap.size by omega) 1 (.slice A1 (m + 1) c1)
                  have hx8 := hxW.far1 haW 1 (.slice A1 (m + 1) c1)
                  have hb8 := hblW.setCell (p := ⟨w.heap.size, 1, none⟩) (Nat.le_refl _) (.slice A1 (m + 1) c1)
                  obtain ⟨d0, d1⟩ := haW.cells
                  obtain ⟨g0, g1⟩ := haW.froz
                  obtain ⟨u0, u1⟩ := ha9.cells
                  obtain ⟨z0, z1⟩ := rb9.cells
                  obtain ⟨f0, f1⟩ := rb9.froz
                  obtain ⟨w9, hw9, b9, _, _, kb, kt, _, _, _⟩ := store_end rb9 now A1 (m + 1) c1
                  have hx9 := kt _ _ _ _ hx8
                  have hb9 := kb _ _ hb8 (show w.heap.size ≤ w.heap.size + 1 by omega)
                  obtain ⟨v0, v1⟩ := b9.cells
                  have Hw9 := Lib.hid hw9
                  clear hw9 kb kt b9 ha9 rb9 hx8 hb8
                  go_wp2_with fail
                  rw [Hw9.out]
                  exact bodyPost_ret (v := .tuple #[.agg #[.int .i64 now, .slice A1 (m + 1) c1], .int .i64 0]) (by simp [results, Try.results13, go_sem, v0, v1]) rfl ⟨A1, (m + 1), c1, rfl, hx9, hb9⟩
end Go.Proofs.Ytgpmgghjcocfmaa
