/-
  Take of package lease: it returns the document's lease and number. No condition.
-/
import Derived.Test.YtfdboahcaiolgaaAqLa
set_option linter.unusedVariables false
set_option linter.unusedSimpArgs false
namespace Go.Proofs.Ytfdboahcaiolgaa
open Go.RowKit

set_option maxRecDepth 100000 in
set_option maxHeartbeats 1000000 in
theorem ltake_c (ep st to x : Int) (w : World) : Calls Try.prog 76 #[.agg #[.int .i64 ep, .int .i64 st, .int .u8 to], .int .i64 x] w fun r w' => r = .returned (.tuple #[.agg #[.int .i64 (sTakeL ⟨ep, st, to⟩ x).ep, .int .i64 (sTakeL ⟨ep, st, to⟩ x).st, .int .u8 (sTakeL ⟨ep, st, to⟩ x).to], .int .i64 ((eTakeL ⟨ep, st, to⟩ x : Nat) : Int)]) ∧ Below w.heap.size w w' := by
  obtain ⟨W, hW⟩ : ∃ W, (w.alloc (.cells #[.int .i64 ep, .int .i64 st, .int .u8 to] 43)).alloc (.cells #[.int .i64 0, .int .i64 0, .int .u8 0] 43) = W := ⟨_, rfl⟩
  have hp : LB W w.heap.size 43 ⟨ep, st, to⟩ := by rw [← hW]; exact (LB.new w _ ⟨ep, st, to⟩).alloc _
  have hr : LB W (w.heap.size + 1) 43 ⟨0, 0, 0⟩ := by
    rw [← hW]
    have := LB.new (w.alloc (.cells #[.int .i64 ep, .int .i64 st, .int .u8 to] 43)) 43 ⟨0, 0, 0⟩
    simpa using this
  have hb : Below w.heap.size w W := by rw [← hW]; exact le_tr (le_al _ _) (le_al _ _)
  have HW := Lib.hid hW
  clear hW
  cases hrt : rightL ⟨ep, st, to⟩ with
  | false =>
    have He := Lib.hid (show eTakeL ⟨ep, st, to⟩ x = 2 by unfold eTakeL; rw [hrt]; simp [])
    have Hs := Lib.hid (show sTakeL ⟨ep, st, to⟩ x = ⟨ep, st, to⟩ by unfold sTakeL; rw [He.out]; rfl)
    have Hrt := Lib.hid hrt
    clear hrt 
    have c := hp.cells
    obtain ⟨c0, c1, c2⟩ := c
    simp only at c0 c1 c2
    go_enter Try.func76, Try.ntmps76
    go_wp2_with fail
    rw [HW.out]
    refine (lright_c ep st to _).mono ?_
    rintro e w2 ⟨rfl, hb2⟩
    rw [Hrt.out]
    have hp2 := hp.on hb2
    have hr2 := hr.on hb2
    have hb3 := le_tr hb hb2
    obtain ⟨d0, d1, d2⟩ := hp2.cells
    simp only at d0 d1 d2
    have Hd := Lib.hid (And.intro d0 (And.intro d1 d2))
    clear c0 c1 c2
    obtain ⟨f0, f1, f2⟩ := (hr2).froz
    obtain ⟨r0, r1, r2⟩ := (hr2).cells
    obtain ⟨V, hV, hrV, hlV, _⟩ := ls_end (hr2) (ep) (st) (to)
    obtain ⟨v0, v1, v2⟩ := hrV.cells
    have HV := Lib.hid hV
    have hbV := hlV _ _ (hb3) (Nat.le_succ _)
    clear hV hlV hrV
    go_wp2_with fail
    rw [HV.out]
    exact bodyPost_ret (v := .tuple #[.agg #[.int .i64 (ep), .int .i64 (st), .int .u8 (to)], .int .i64 2]) (by simp [results, Try.results76, go_sem, v0, v1, v2]) rfl ⟨by rw [He.out, Hs.out]; rfl, hbV⟩
  | true =>
    cases hi : inEp x with
    | false =>
      have He := Lib.hid (show eTakeL ⟨ep, st, to⟩ x = 2 by unfold eTakeL; rw [hrt]; simp [hi])
      have Hs := Lib.hid (show sTakeL ⟨ep, st, to⟩ x = ⟨ep, st, to⟩ by unfold sTakeL; rw [He.out]; rfl)
      have Hi := Lib.hid hi
      have Hrt := Lib.hid hrt
      clear hrt hi
      have c := hp.cells
      obtain ⟨c0, c1, c2⟩ := c
      simp only at c0 c1 c2
      go_enter Try.func76, Try.ntmps76
      go_wp2_with fail
      rw [HW.out]
      refine (lright_c ep st to _).mono ?_
      rintro e w2 ⟨rfl, hb2⟩
      rw [Hrt.out]
      have hp2 := hp.on hb2
      have hr2 := hr.on hb2
      have hb3 := le_tr hb hb2
      obtain ⟨d0, d1, d2⟩ := hp2.cells
      simp only at d0 d1 d2
      have Hd := Lib.hid (And.intro d0 (And.intro d1 d2))
      clear c0 c1 c2
      go_wp2_with fail
      refine (linr_c x _).mono ?_
      rintro e w' ⟨rfl, rfl⟩
      rw [Hi.out]
      obtain ⟨f0, f1, f2⟩ := (hr2).froz
      obtain ⟨r0, r1, r2⟩ := (hr2).cells
      obtain ⟨V, hV, hrV, hlV, _⟩ := ls_end (hr2) (ep) (st) (to)
      obtain ⟨v0, v1, v2⟩ := hrV.cells
      have HV := Lib.hid hV
      have hbV := hlV _ _ (hb3) (Nat.le_succ _)
      clear hV hlV hrV
      go_wp2_with fail
      rw [HV.out]
      exact bodyPost_ret (v := .tuple #[.agg #[.int .i64 (ep), .int .i64 (st), .int .u8 (to)], .int .i64 2]) (by simp [results, Try.results76, go_sem, v0, v1, v2]) rfl ⟨by rw [He.out, Hs.out]; rfl, hbV⟩
    | true =>
      have Hi := Lib.hid hi
      have hx1 : decide (x < 1) = false := by have := (inEp_yes hi).1; simp; omega
      have hx2 : decide (1048576 < x) = false := by have := (inEp_yes hi).2; simp; omega
      by_cases hx : ep = x
      · by_cases h1 : st = 1
        · have ht : to = 0 := by rcases right_cases hrt with a | a | a <;> simp at a <;> omega
          have He := Lib.hid (show eTakeL ⟨ep, st, to⟩ x = 8 by unfold eTakeL; rw [hrt]; simp [hi, h1, hx])
          have Hs := Lib.hid (show sTakeL ⟨ep, st, to⟩ x = ⟨ep, st, to⟩ by unfold sTakeL; rw [He.out]; rfl)
          have e1 : (ep == x) = true := by simp [hx]
          have e2 : (st == 1) = true := by simp [h1]
          have e3 : (to == 0) = true := by simp [ht]
          have Hrt := Lib.hid hrt
          clear hrt hi hx h1 ht
          have c := hp.cells
          obtain ⟨c0, c1, c2⟩ := c
          simp only at c0 c1 c2
          go_enter Try.func76, Try.ntmps76
          go_wp2_with fail
          rw [HW.out]
          refine (lright_c ep st to _).mono ?_
          rintro e w2 ⟨rfl, hb2⟩
          rw [Hrt.out]
          have hp2 := hp.on hb2
          have hr2 := hr.on hb2
          have hb3 := le_tr hb hb2
          obtain ⟨d0, d1, d2⟩ := hp2.cells
          simp only at d0 d1 d2
          have Hd := Lib.hid (And.intro d0 (And.intro d1 d2))
          clear c0 c1 c2
          go_wp2_with fail
          refine (linr_c x _).mono ?_
          rintro e w' ⟨rfl, rfl⟩
          rw [Hi.out]
          go_wp2_with fail
          go_region_held3 (fun W' => W'.cell? ⟨w.heap.size, 0, none⟩ = some (.int .i64 ep) ∧ W'.cell? ⟨w.heap.size, 1, none⟩ = some (.int .i64 st) ∧ W'.cell? ⟨w.heap.size, 2, none⟩ = some (.int .u8 to)) (first | exact Hd.out | exact y1.out) (first
            | (go_at_call 78; refine (lheld_c x _).mono ?_; rintro e w3 ⟨rfl, hbq⟩; have y1 := Lib.hid (hp2.drew.on hbq).cells))
          obtain ⟨q0, q1, q2⟩ := y1.out
          clear d0 d1 d2
          have hr3 := hr2.drew.on hbq
          have hb4 := le_tr hb3 (le_dr (W := w2) hbq)
          obtain ⟨f0, f1, f2⟩ := (hr3).froz
          obtain ⟨r0, r1, r2⟩ := (hr3).cells
          obtain ⟨V, hV, hrV, hlV, _⟩ := ls_end (hr3) (ep) (st) (to)
          obtain ⟨v0, v1, v2⟩ := hrV.cells
          have HV := Lib.hid hV
          have hbV := hlV _ _ (hb4) (Nat.le_succ _)
          clear hV hlV hrV
          go_wp2_with fail
          rw [HV.out]
          exact bodyPost_ret (v := .tuple #[.agg #[.int .i64 (ep), .int .i64 (st), .int .u8 (to)], .int .i64 8]) (by simp [results, Try.results76, go_sem, v0, v1, v2]) rfl ⟨by rw [He.out, Hs.out]; rfl, hbV⟩
        · have hle : decide (x ≤ ep) = true := by simp; omega
          have He := Lib.hid (show eTakeL ⟨ep, st, to⟩ x = 10 by unfold eTakeL; rw [hrt]; simp [hi, h1, hx])
          have Hs := Lib.hid (show sTakeL ⟨ep, st, to⟩ x = ⟨ep, st, to⟩ by unfold sTakeL; rw [He.out]; rfl)
          have e1 : (ep == x) = true := by simp [hx]
          have e2 : (st == 1) = false := by simp [h1]
          have Hrt := Lib.hid hrt
          clear hrt hi hx h1
          have c := hp.cells
          obtain ⟨c0, c1, c2⟩ := c
          simp only at c0 c1 c2
          go_enter Try.func76, Try.ntmps76
          go_wp2_with fail
          rw [HW.out]
          refine (lright_c ep st to _).mono ?_
          rintro e w2 ⟨rfl, hb2⟩
          rw [Hrt.out]
          have hp2 := hp.on hb2
          have hr2 := hr.on hb2
          have hb3 := le_tr hb hb2
          obtain ⟨d0, d1, d2⟩ := hp2.cells
          simp only at d0 d1 d2
          have Hd := Lib.hid (And.intro d0 (And.intro d1 d2))
          clear c0 c1 c2
          go_wp2_with fail
          refine (linr_c x _).mono ?_
          rintro e w' ⟨rfl, rfl⟩
          rw [Hi.out]
          go_wp2_with fail
          go_region_held3 (fun W' => W'.cell? ⟨w.heap.size, 0, none⟩ = some (.int .i64 ep) ∧ W'.cell? ⟨w.heap.size, 1, none⟩ = some (.int .i64 st) ∧ W'.cell? ⟨w.heap.size, 2, none⟩ = some (.int .u8 to)) (first | exact Hd.out | exact y1.out) (first
            | (go_at_call 78; refine (lheld_c x _).mono ?_; rintro e w3 ⟨rfl, hbq⟩; have y1 := Lib.hid (hp2.drew.on hbq).cells))
          obtain ⟨q0, q1, q2⟩ := y1.out
          clear d0 d1 d2
          have hr3 := hr2.drew.on hbq
          have hb4 := le_tr hb3 (le_dr (W := w2) hbq)
          obtain ⟨f0, f1, f2⟩ := (hr3).froz
          obtain ⟨r0, r1, r2⟩ := (hr3).cells
          obtain ⟨V, hV, hrV, hlV, _⟩ := ls_end (hr3) (ep) (st) (to)
          obtain ⟨v0, v1, v2⟩ := hrV.cells
          have HV := Lib.hid hV
          have hbV := hlV _ _ (hb4) (Nat.le_succ _)
          clear hV hlV hrV
          go_wp2_with fail
          rw [HV.out]
          exact bodyPost_ret (v := .tuple #[.agg #[.int .i64 (ep), .int .i64 (st), .int .u8 (to)], .int .i64 10]) (by simp [results, Try.results76, go_sem, v0, v1, v2]) rfl ⟨by rw [He.out, Hs.out]; rfl, hbV⟩
      · have e1 : (ep == x) = false := by simp [hx]
        by_cases hle : x ≤ ep
        · have hle' : decide (x ≤ ep) = true := by simp [hle]
          have He := Lib.hid (show eTakeL ⟨ep, st, to⟩ x = 10 by unfold eTakeL; rw [hrt]; simp [hi, hx, hle])
          have Hs := Lib.hid (show sTakeL ⟨ep, st, to⟩ x = ⟨ep, st, to⟩ by unfold sTakeL; rw [He.out]; rfl)
          have Hrt := Lib.hid hrt
          clear hrt hi hx hle
          have c := hp.cells
          obtain ⟨c0, c1, c2⟩ := c
          simp only at c0 c1 c2
          go_enter Try.func76, Try.ntmps76
          go_wp2_with fail
          rw [HW.out]
          refine (lright_c ep st to _).mono ?_
          rintro e w2 ⟨rfl, hb2⟩
          rw [Hrt.out]
          have hp2 := hp.on hb2
          have hr2 := hr.on hb2
          have hb3 := le_tr hb hb2
          obtain ⟨d0, d1, d2⟩ := hp2.cells
          simp only at d0 d1 d2
          have Hd := Lib.hid (And.intro d0 (And.intro d1 d2))
          clear c0 c1 c2
          go_wp2_with fail
          refine (linr_c x _).mono ?_
          rintro e w' ⟨rfl, rfl⟩
          rw [Hi.out]
          go_wp2_with fail
          go_region_held3 (fun W' => W'.cell? ⟨w.heap.size, 0, none⟩ = some (.int .i64 ep) ∧ W'.cell? ⟨w.heap.size, 1, none⟩ = some (.int .i64 st) ∧ W'.cell? ⟨w.heap.size, 2, none⟩ = some (.int .u8 to)) (first | exact Hd.out | exact y1.out) (first
            | (go_at_call 78; refine (lheld_c x _).mono ?_; rintro e w3 ⟨rfl, hbq⟩; have y1 := Lib.hid (hp2.drew.on hbq).cells))
          obtain ⟨q0, q1, q2⟩ := y1.out
          clear d0 d1 d2
          have hr3 := hr2.drew.on hbq
          have hb4 := le_tr hb3 (le_dr (W := w2) hbq)
          obtain ⟨f0, f1, f2⟩ := (hr3).froz
          obtain ⟨r0, r1, r2⟩ := (hr3).cells
          obtain ⟨V, hV, hrV, hlV, _⟩ := ls_end (hr3) (ep) (st) (to)
          obtain ⟨v0, v1, v2⟩ := hrV.cells
          have HV := Lib.hid hV
          have hbV := hlV _ _ (hb4) (Nat.le_succ _)
          clear hV hlV hrV
          go_wp2_with fail
          rw [HV.out]
          exact bodyPost_ret (v := .tuple #[.agg #[.int .i64 (ep), .int .i64 (st), .int .u8 (to)], .int .i64 10]) (by simp [results, Try.results76, go_sem, v0, v1, v2]) rfl ⟨by rw [He.out, Hs.out]; rfl, hbV⟩
        · have hle' : decide (x ≤ ep) = false := by simp; omega
          have He := Lib.hid (show eTakeL ⟨ep, st, to⟩ x = 0 by unfold eTakeL; rw [hrt]; simp [hi, hx, hle])
          have Hs := Lib.hid (show sTakeL ⟨ep, st, to⟩ x = ⟨x, 1, 0⟩ by unfold sTakeL; rw [He.out]; rfl)
          have Hrt := Lib.hid hrt
          clear hrt hi hx hle
          have c := hp.cells
          obtain ⟨c0, c1, c2⟩ := c
          simp only at c0 c1 c2
          go_enter Try.func76, Try.ntmps76
          go_wp2_with fail
          rw [HW.out]
          refine (lright_c ep st to _).mono ?_
          rintro e w2 ⟨rfl, hb2⟩
          rw [Hrt.out]
          have hp2 := hp.on hb2
          have hr2 := hr.on hb2
          have hb3 := le_tr hb hb2
          obtain ⟨d0, d1, d2⟩ := hp2.cells
          simp only at d0 d1 d2
          have Hd := Lib.hid (And.intro d0 (And.intro d1 d2))
          clear c0 c1 c2
          go_wp2_with fail
          refine (linr_c x _).mono ?_
          rintro e w' ⟨rfl, rfl⟩
          rw [Hi.out]
          go_wp2_with fail
          go_region_held3 (fun W' => W'.cell? ⟨w.heap.size, 0, none⟩ = some (.int .i64 ep) ∧ W'.cell? ⟨w.heap.size, 1, none⟩ = some (.int .i64 st) ∧ W'.cell? ⟨w.heap.size, 2, none⟩ = some (.int .u8 to)) (first | exact Hd.out | exact y1.out) (first
            | (go_at_call 78; refine (lheld_c x _).mono ?_; rintro e w3 ⟨rfl, hbq⟩; have y1 := Lib.hid (hp2.drew.on hbq).cells))
          obtain ⟨q0, q1, q2⟩ := y1.out
          clear d0 d1 d2
          have hr3 := hr2.drew.on hbq
          have hb4 := le_tr hb3 (le_dr (W := w2) hbq)
          go_wp2_with fail
          refine (lheld_c x _).mono ?_
          rintro e w4 ⟨rfl, hbr⟩
          clear q0 q1 q2
          have hr4 := hr3.on hbr
          have hb5 := le_tr hb4 hbr
          obtain ⟨f0, f1, f2⟩ := (hr4).froz
          obtain ⟨r0, r1, r2⟩ := (hr4).cells
          obtain ⟨V, hV, hrV, hlV, _⟩ := ls_end (hr4) (x) (1) (0)
          obtain ⟨v0, v1, v2⟩ := hrV.cells
          have HV := Lib.hid hV
          have hbV := hlV _ _ (hb5) (Nat.le_succ _)
          clear hV hlV hrV
          go_wp2_with fail
          rw [HV.out]
          exact bodyPost_ret (v := .tuple #[.agg #[.int .i64 (x), .int .i64 (1), .int .u8 (0)], .int .i64 0]) (by simp [results, Try.results76, go_sem, v0, v1, v2]) rfl ⟨by rw [He.out, Hs.out]; rfl, hbV⟩
end Go.Proofs.Ytfdboahcaiolgaa
