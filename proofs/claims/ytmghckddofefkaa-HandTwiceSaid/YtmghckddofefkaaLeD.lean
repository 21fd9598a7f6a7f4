/-
  Right, Take, Give and Speaks of the document's answer for layer 11. No condition.
-/
import Derived.Test.YtmghckddofefkaaLeA
set_option linter.unusedVariables false
set_option linter.unusedSimpArgs false
namespace Go.Proofs.Ytmghckddofefkaa
open Go.RowKit

set_option maxRecDepth 100000 in
set_option maxHeartbeats 1000000 in
theorem right_r (ep st to : Int) (w : World) : Calls Try.prog 47 #[.agg #[.int .i64 ep, .int .i64 st, .int .u8 to]] w fun r w' => r = .returned (.bool (rightL ⟨ep, st, to⟩)) ∧ Below w.heap.size w w' := by
  obtain ⟨W, hW⟩ : ∃ W, w.alloc (.cells #[.int .i64 ep, .int .i64 st, .int .u8 to] 23) = W := ⟨_, rfl⟩
  have hp : LB W w.heap.size 23 ⟨ep, st, to⟩ := by rw [← hW]; exact LB.new w _ ⟨ep, st, to⟩
  have hb : Below w.heap.size w W := by rw [← hW]; exact le_al _ _
  have hc := hp.cells
  obtain ⟨c0, c1, c2⟩ := hp.cells
  simp only at hc c0 c1 c2
  have Hc := Lib.hid hc
  have HW := Lib.hid hW
  clear hW hc
  by_cases h0 : st = 0
  · have h0' : (st == 0) = true := by simp [h0]
    by_cases hz : ep = 0
    · have hz' : (ep == 0) = true := by simp [hz]
      by_cases ht : to = 0
      · have ht' : (to == 0) = true := by simp [ht]
        have H := Lib.hid (show rightL ⟨ep, st, to⟩ = true by simp [rightL, h0, hz, ht])
        clear h0 hz ht
        go_enter Try.func47, Try.ntmps47
        go_wp2_with fail
        rw [HW.out]
        go_wp2_with fail
        go_ret
        exact ⟨by rw [H.out]; rfl, hb⟩
      · have ht' : (to == 0) = false := by simp [ht]
        have H := Lib.hid (show rightL ⟨ep, st, to⟩ = false by simp [rightL, h0, hz, ht])
        clear h0 hz ht
        go_enter Try.func47, Try.ntmps47
        go_wp2_with fail
        rw [HW.out]
        go_wp2_with fail
        go_ret
        exact ⟨by rw [H.out]; rfl, hb⟩
    · have hz' : (ep == 0) = false := by simp [hz]
      have H := Lib.hid (show rightL ⟨ep, st, to⟩ = false by simp [rightL, h0, hz])
      clear h0 hz
      go_enter Try.func47, Try.ntmps47
      go_wp2_with fail
      rw [HW.out]
      go_wp2_with fail
      go_ret
      exact ⟨by rw [H.out]; rfl, hb⟩
  have h0' : (st == 0) = false := by simp [h0]
  by_cases h1 : st = 1
  · have h1' : (st == 1) = true := by simp [h1]
    cases hi : inEp ep with
    | true =>
      have i1 : decide (1 ≤ ep) = true := by simp [(inEp_yes hi).1]
      have i2 : decide (ep ≤ 1048576) = true := by simp [(inEp_yes hi).2]
      by_cases ht : to = 0
      · have ht' : (to == 0) = true := by simp [ht]
        have H := Lib.hid (show rightL ⟨ep, st, to⟩ = true by simp [rightL, h1, hi, ht])
        clear h0 h1 hi ht
        go_enter Try.func47, Try.ntmps47
        go_wp2_with fail
        rw [HW.out]
        go_wp2_with fail
        go_ret
        exact ⟨by rw [H.out]; rfl, hb⟩
      · have ht' : (to == 0) = false := by simp [ht]
        have H := Lib.hid (show rightL ⟨ep, st, to⟩ = false by simp [rightL, h1, hi, ht])
        clear h0 h1 hi ht
        go_enter Try.func47, Try.ntmps47
        go_wp2_with fail
        rw [HW.out]
        go_wp2_with fail
        go_ret
        exact ⟨by rw [H.out]; rfl, hb⟩
    | false =>
      rcases inEp_no hi with hx | hx
      · have i1 : decide (1 ≤ ep) = false := by simp; omega
        have H := Lib.hid (show rightL ⟨ep, st, to⟩ = false by simp [rightL, h1, hi])
        clear h0 h1 hi hx
        go_enter Try.func47, Try.ntmps47
        go_wp2_with fail
        rw [HW.out]
        go_wp2_with fail
        go_ret
        exact ⟨by rw [H.out]; rfl, hb⟩
      · have i1 : decide (1 ≤ ep) = true := by simp; omega
        have i2 : decide (ep ≤ 1048576) = false := by simp; omega
        have H := Lib.hid (show rightL ⟨ep, st, to⟩ = false by simp [rightL, h1, hi])
        clear h0 h1 hi hx
        go_enter Try.func47, Try.ntmps47
        go_wp2_with fail
        rw [HW.out]
        go_wp2_with fail
        go_ret
        exact ⟨by rw [H.out]; rfl, hb⟩
  have h1' : (st == 1) = false := by simp [h1]
  by_cases h2 : st = 2
  · have h2' : (st == 2) = true := by simp [h2]
    cases hi : inEp ep with
    | true =>
      have i1 : decide (1 ≤ ep) = true := by simp [(inEp_yes hi).1]
      have i2 : decide (ep ≤ 1048576) = true := by simp [(inEp_yes hi).2]
      have H := Lib.hid (show rightL ⟨ep, st, to⟩ = decide (to < 8) by simp [rightL, h2, hi])
      clear h0 h1 h2 hi
      go_enter Try.func47, Try.ntmps47
      go_wp2_with fail
      rw [HW.out]
      go_wp2_with fail
      go_ret
      exact ⟨by rw [H.out]; rfl, hb⟩
    | false =>
      rcases inEp_no hi with hx | hx
      · have i1 : decide (1 ≤ ep) = false := by simp; omega
        have H := Lib.hid (show rightL ⟨ep, st, to⟩ = false by simp [rightL, h2, hi])
        clear h0 h1 h2 hi hx
        go_enter Try.func47, Try.ntmps47
        go_wp2_with fail
        rw [HW.out]
        go_wp2_with fail
        go_ret
        exact ⟨by rw [H.out]; rfl, hb⟩
      · have i1 : decide (1 ≤ ep) = true := by simp; omega
        have i2 : decide (ep ≤ 1048576) = false := by simp; omega
        have H := Lib.hid (show rightL ⟨ep, st, to⟩ = false by simp [rightL, h2, hi])
        clear h0 h1 h2 hi hx
        go_enter Try.func47, Try.ntmps47
        go_wp2_with fail
        rw [HW.out]
        go_wp2_with fail
        go_ret
        exact ⟨by rw [H.out]; rfl, hb⟩
  have h2' : (st == 2) = false := by simp [h2]
  have H := Lib.hid (show rightL ⟨ep, st, to⟩ = false by simp [rightL, h0, h1, h2])
  clear h0 h1 h2
  go_enter Try.func47, Try.ntmps47
  go_wp2_with fail
  rw [HW.out]
  go_wp2_with fail
  go_ret
  exact ⟨by rw [H.out]; rfl, hb⟩

set_option maxRecDepth 100000 in
set_option maxHeartbeats 1000000 in
theorem take_r (ep st to x : Int) (w : World) : Calls Try.prog 69 #[.agg #[.int .i64 ep, .int .i64 st, .int .u8 to], .int .i64 x] w fun r w' => r = .returned (.tuple #[.agg #[.int .i64 (sTakeL ⟨ep, st, to⟩ x).ep, .int .i64 (sTakeL ⟨ep, st, to⟩ x).st, .int .u8 (sTakeL ⟨ep, st, to⟩ x).to], .int .i64 ((eTakeL ⟨ep, st, to⟩ x : Nat) : Int)]) ∧ Below w.heap.size w w' := by
  obtain ⟨W, hW⟩ : ∃ W, (w.alloc (.cells #[.int .i64 ep, .int .i64 st, .int .u8 to] 23)).alloc (.cells #[.int .i64 0, .int .i64 0, .int .u8 0] 23) = W := ⟨_, rfl⟩
  have hp : LB W w.heap.size 23 ⟨ep, st, to⟩ := by rw [← hW]; exact (LB.new w _ ⟨ep, st, to⟩).alloc _
  have hr : LB W (w.heap.size + 1) 23 ⟨0, 0, 0⟩ := by
    rw [← hW]
    have := LB.new (w.alloc (.cells #[.int .i64 ep, .int .i64 st, .int .u8 to] 23)) 23 ⟨0, 0, 0⟩
    simpa using this
  have hb : Below w.heap.size w W := by rw [← hW]; exact le_tr (le_al _ _) (le_al _ _)
  have HW := Lib.hid hW
  clear hW
  cases hrt : rightL ⟨ep, st, to⟩ with
  | false =>
    have He := Lib.hid (show eTakeL ⟨ep, st, to⟩ x = 2 by unfold eTakeL; rw [hrt]; simp [])
    have Hs := Lib.hid (show sTakeL ⟨ep, st, to⟩ x = ⟨ep, st, to⟩ by unfold sTakeL; rw [He.out]; rfl)
    have Hrt := Lib.hid hrt
    clear hrt 
    have c := hp.cells
    obtain ⟨c0, c1, c2⟩ := c
    simp only at c0 c1 c2
    go_enter Try.func69, Try.ntmps69
    go_wp2_with fail
    rw [HW.out]
    refine (right_r ep st to _).mono ?_
    rintro e w2 ⟨rfl, hb2⟩
    rw [Hrt.out]
    have hp2 := hp.on hb2
    have hr2 := hr.on hb2
    have hb3 := le_tr hb hb2
    obtain ⟨d0, d1, d2⟩ := hp2.cells
    simp only at d0 d1 d2
    have Hd := Lib.hid (And.intro d0 (And.intro d1 d2))
    clear c0 c1 c2
    obtain ⟨f0, f1, f2⟩ := (hr2).froz
    obtain ⟨r0, r1, r2⟩ := (hr2).cells
    obtain ⟨V, hV, hrV, hlV, _⟩ := ls_end (hr2) (ep) (st) (to)
    obtain ⟨v0, v1, v2⟩ := hrV.cells
    have HV := Lib.hid hV
    have hbV := hlV _ _ (hb3) (Nat.le_succ _)
    clear hV hlV hrV
    go_wp2_with fail
    rw [HV.out]
    exact bodyPost_ret (v := .tuple #[.agg #[.int .i64 (ep), .int .i64 (st), .int .u8 (to)], .int .i64 2]) (by simp [results, Try.results69, go_sem, v0, v1, v2]) rfl ⟨by rw [He.out, Hs.out]; rfl, hbV⟩
  | true =>
    cases hi : inEp x with
    | false =>
      have He := Lib.hid (show eTakeL ⟨ep, st, to⟩ x = 2 by unfold eTakeL; rw [hrt]; simp [hi])
      have Hs := Lib.hid (show sTakeL ⟨ep, st, to⟩ x = ⟨ep, st, to⟩ by unfold sTakeL; rw [He.out]; rfl)
      rcases inEp_no hi with hx | hx
      · have hx' : decide (x < 1) = true := by simp [hx]
        have Hrt := Lib.hid hrt
        clear hrt hi hx
        have c := hp.cells
        obtain ⟨c0, c1, c2⟩ := c
        simp only at c0 c1 c2
        go_enter Try.func69, Try.ntmps69
        go_wp2_with fail
        rw [HW.out]
        refine (right_r ep st to _).mono ?_
        rintro e w2 ⟨rfl, hb2⟩
        rw [Hrt.out]
        have hp2 := hp.on hb2
        have hr2 := hr.on hb2
        have hb3 := le_tr hb hb2
        obtain ⟨d0, d1, d2⟩ := hp2.cells
        simp only at d0 d1 d2
        have Hd := Lib.hid (And.intro d0 (And.intro d1 d2))
        clear c0 c1 c2
        obtain ⟨f0, f1, f2⟩ := (hr2).froz
        obtain ⟨r0, r1, r2⟩ := (hr2).cells
        obtain ⟨V, hV, hrV, hlV, _⟩ := ls_end (hr2) (ep) (st) (to)
        obtain ⟨v0, v1, v2⟩ := hrV.cells
        have HV := Lib.hid hV
        have hbV := hlV _ _ (hb3) (Nat.le_succ _)
        clear hV hlV hrV
        go_wp2_with fail
        rw [HV.out]
        exact bodyPost_ret (v := .tuple #[.agg #[.int .i64 (ep), .int .i64 (st), .int .u8 (to)], .int .i64 2]) (by simp [results, Try.results69, go_sem, v0, v1, v2]) rfl ⟨by rw [He.out, Hs.out]; rfl, hbV⟩
      · have hx1 : decide (x < 1) = false := by simp; omega
        have hx' : decide (1048576 < x) = true := by simp [hx]
        have Hrt := Lib.hid hrt
        clear hrt hi hx
        have c := hp.cells
        obtain ⟨c0, c1, c2⟩ := c
        simp only at c0 c1 c2
        go_enter Try.func69, Try.ntmps69
        go_wp2_with fail
        rw [HW.out]
        refine (right_r ep st to _).mono ?_
        rintro e w2 ⟨rfl, hb2⟩
        rw [Hrt.out]
        have hp2 := hp.on hb2
        have hr2 := hr.on hb2
        have hb3 := le_tr hb hb2
        obtain ⟨d0, d1, d2⟩ := hp2.cells
        simp only at d0 d1 d2
        have Hd := Lib.hid (And.intro d0 (And.intro d1 d2))
        clear c0 c1 c2
        obtain ⟨f0, f1, f2⟩ := (hr2).froz
        obtain ⟨r0, r1, r2⟩ := (hr2).cells
        obtain ⟨V, hV, hrV, hlV, _⟩ := ls_end (hr2) (ep) (st) (to)
        obtain ⟨v0, v1, v2⟩ := hrV.cells
        have HV := Lib.hid hV
        have hbV := hlV _ _ (hb3) (Nat.le_succ _)
        clear hV hlV hrV
        go_wp2_with fail
        rw [HV.out]
        exact bodyPost_ret (v := .tuple #[.agg #[.int .i64 (ep), .int .i64 (st), .int .u8 (to)], .int .i64 2]) (by simp [results, Try.results69, go_sem, v0, v1, v2]) rfl ⟨by rw [He.out, Hs.out]; rfl, hbV⟩
    | true =>
      have Hi := Lib.hid hi
      have hx1 : decide (x < 1) = false := by have := (inEp_yes hi).1; simp; omega
      have hx2 : decide (1048576 < x) = false := by have := (inEp_yes hi).2; simp; omega
      by_cases hx : ep = x
      · by_cases h1 : st = 1
        · have ht : to = 0 := by rcases right_cases hrt with a | a | a <;> simp at a <;> omega
          have He := Lib.hid (show eTakeL ⟨ep, st, to⟩ x = 8 by unfold eTakeL; rw [hrt]; simp [hi, h1, hx])
          have Hs := Lib.hid (show sTakeL ⟨ep, st, to⟩ x = ⟨ep, st, to⟩ by unfold sTakeL; rw [He.out]; rfl)
          have e1 : (ep == x) = true := by simp [hx]
          have e2 : (st == 1) = true := by simp [h1]
          have e3 : (to == 0) = true := by simp [ht]
          have Hrt := Lib.hid hrt
          clear hrt hi hx h1 ht
          have c := hp.cells
          obtain ⟨c0, c1, c2⟩ := c
          simp only at c0 c1 c2
          go_enter Try.func69, Try.ntmps69
          go_wp2_with fail
          rw [HW.out]
          refine (right_r ep st to _).mono ?_
          rintro e w2 ⟨rfl, hb2⟩
          rw [Hrt.out]
          have hp2 := hp.on hb2
          have hr2 := hr.on hb2
          have hb3 := le_tr hb hb2
          obtain ⟨d0, d1, d2⟩ := hp2.cells
          simp only at d0 d1 d2
          have Hd := Lib.hid (And.intro d0 (And.intro d1 d2))
          clear c0 c1 c2
          obtain ⟨f0, f1, f2⟩ := (hr2).froz
          obtain ⟨r0, r1, r2⟩ := (hr2).cells
          obtain ⟨V, hV, hrV, hlV, _⟩ := ls_end (hr2) (ep) (st) (to)
          obtain ⟨v0, v1, v2⟩ := hrV.cells
          have HV := Lib.hid hV
          have hbV := hlV _ _ (hb3) (Nat.le_succ _)
          clear hV hlV hrV
          go_wp2_with fail
          rw [HV.out]
          exact bodyPost_ret (v := .tuple #[.agg #[.int .i64 (ep), .int .i64 (st), .int .u8 (to)], .int .i64 8]) (by simp [results, Try.results69, go_sem, v0, v1, v2]) rfl ⟨by rw [He.out, Hs.out]; rfl, hbV⟩
        · have hle : decide (x ≤ ep) = true := by simp; omega
          have He := Lib.hid (show eTakeL ⟨ep, st, to⟩ x = 10 by unfold eTakeL; rw [hrt]; simp [hi, h1, hx])
          have Hs := Lib.hid (show sTakeL ⟨ep, st, to⟩ x = ⟨ep, st, to⟩ by unfold sTakeL; rw [He.out]; rfl)
          have e1 : (ep == x) = true := by simp [hx]
          have e2 : (st == 1) = false := by simp [h1]
          have Hrt := Lib.hid hrt
          clear hrt hi hx h1
          have c := hp.cells
          obtain ⟨c0, c1, c2⟩ := c
          simp only at c0 c1 c2
          go_enter Try.func69, Try.ntmps69
          go_wp2_with fail
          rw [HW.out]
          refine (right_r ep st to _).mono ?_
          rintro e w2 ⟨rfl, hb2⟩
          rw [Hrt.out]
          have hp2 := hp.on hb2
          have hr2 := hr.on hb2
          have hb3 := le_tr hb hb2
          obtain ⟨d0, d1, d2⟩ := hp2.cells
          simp only at d0 d1 d2
          have Hd := Lib.hid (And.intro d0 (And.intro d1 d2))
          clear c0 c1 c2
          obtain ⟨f0, f1, f2⟩ := (hr2).froz
          obtain ⟨r0, r1, r2⟩ := (hr2).cells
          obtain ⟨V, hV, hrV, hlV, _⟩ := ls_end (hr2) (ep) (st) (to)
          obtain ⟨v0, v1, v2⟩ := hrV.cells
          have HV := Lib.hid hV
          have hbV := hlV _ _ (hb3) (Nat.le_succ _)
          clear hV hlV hrV
          go_wp2_with fail
          rw [HV.out]
          exact bodyPost_ret (v := .tuple #[.agg #[.int .i64 (ep), .int .i64 (st), .int .u8 (to)], .int .i64 10]) (by simp [results, Try.results69, go_sem, v0, v1, v2]) rfl ⟨by rw [He.out, Hs.out]; rfl, hbV⟩
      · have e1 : (ep == x) = false := by simp [hx]
        have e2 : (st == 1) = decide (st = 1) := by rw [Bool.eq_iff_iff]; simp
        by_cases hle : x ≤ ep
        · have hle' : decide (x ≤ ep) = true := by simp [hle]
          have He := Lib.hid (show eTakeL ⟨ep, st, to⟩ x = 10 by unfold eTakeL; rw [hrt]; simp [hi, hx, hle])
          have Hs := Lib.hid (show sTakeL ⟨ep, st, to⟩ x = ⟨ep, st, to⟩ by unfold sTakeL; rw [He.out]; rfl)
          clear e2
          by_cases h1 : st = 1
          · have e2 : (st == 1) = true := by simp [h1]
            have Hrt := Lib.hid hrt
            clear hrt hi hx hle h1
            have c := hp.cells
            obtain ⟨c0, c1, c2⟩ := c
            simp only at c0 c1 c2
            go_enter Try.func69, Try.ntmps69
            go_wp2_with fail
            rw [HW.out]
            refine (right_r ep st to _).mono ?_
            rintro e w2 ⟨rfl, hb2⟩
            rw [Hrt.out]
            have hp2 := hp.on hb2
            have hr2 := hr.on hb2
            have hb3 := le_tr hb hb2
            obtain ⟨d0, d1, d2⟩ := hp2.cells
            simp only at d0 d1 d2
            have Hd := Lib.hid (And.intro d0 (And.intro d1 d2))
            clear c0 c1 c2
            obtain ⟨f0, f1, f2⟩ := (hr2).froz
            obtain ⟨r0, r1, r2⟩ := (hr2).cells
            obtain ⟨V, hV, hrV, hlV, _⟩ := ls_end (hr2) (ep) (st) (to)
            obtain ⟨v0, v1, v2⟩ := hrV.cells
            have HV := Lib.hid hV
            have hbV := hlV _ _ (hb3) (Nat.le_succ _)
            clear hV hlV hrV
            go_wp2_with fail
            rw [HV.out]
            exact bodyPost_ret (v := .tuple #[.agg #[.int .i64 (ep), .int .i64 (st), .int .u8 (to)], .int .i64 10]) (by simp [results, Try.results69, go_sem, v0, v1, v2]) rfl ⟨by rw [He.out, Hs.out]; rfl, hbV⟩
          · have e2 : (st == 1) = false := by simp [h1]
            have Hrt := Lib.hid hrt
            clear hrt hi hx hle h1
            have c := hp.cells
            obtain ⟨c0, c1, c2⟩ := c
            simp only at c0 c1 c2
            go_enter Try.func69, Try.ntmps69
            go_wp2_with fail
            rw [HW.out]
            refine (right_r ep st to _).mono ?_
            rintro e w2 ⟨rfl, hb2⟩
            rw [Hrt.out]
            have hp2 := hp.on hb2
            have hr2 := hr.on hb2
            have hb3 := le_tr hb hb2
            obtain ⟨d0, d1, d2⟩ := hp2.cells
            simp only at d0 d1 d2
            have Hd := Lib.hid (And.intro d0 (And.intro d1 d2))
            clear c0 c1 c2
            obtain ⟨f0, f1, f2⟩ := (hr2).froz
            obtain ⟨r0, r1, r2⟩ := (hr2).cells
            obtain ⟨V, hV, hrV, hlV, _⟩ := ls_end (hr2) (ep) (st) (to)
            obtain ⟨v0, v1, v2⟩ := hrV.cells
            have HV := Lib.hid hV
            have hbV := hlV _ _ (hb3) (Nat.le_succ _)
            clear hV hlV hrV
            go_wp2_with fail
            rw [HV.out]
            exact bodyPost_ret (v := .tuple #[.agg #[.int .i64 (ep), .int .i64 (st), .int .u8 (to)], .int .i64 10]) (by simp [results, Try.results69, go_sem, v0, v1, v2]) rfl ⟨by rw [He.out, Hs.out]; rfl, hbV⟩
        · have hle' : decide (x ≤ ep) = false := by simp; omega
          have He := Lib.hid (show eTakeL ⟨ep, st, to⟩ x = 0 by unfold eTakeL; rw [hrt]; simp [hi, hx, hle])
          have Hs := Lib.hid (show sTakeL ⟨ep, st, to⟩ x = ⟨x, 1, 0⟩ by unfold sTakeL; rw [He.out]; rfl)
          clear e2
          by_cases h1 : st = 1
          · have e2 : (st == 1) = true := by simp [h1]
            have Hrt := Lib.hid hrt
            clear hrt hi hx hle h1
            have c := hp.cells
            obtain ⟨c0, c1, c2⟩ := c
            simp only at c0 c1 c2
            go_enter Try.func69, Try.ntmps69
            go_wp2_with fail
            rw [HW.out]
            refine (right_r ep st to _).mono ?_
            rintro e w2 ⟨rfl, hb2⟩
            rw [Hrt.out]
            have hp2 := hp.on hb2
            have hr2 := hr.on hb2
            have hb3 := le_tr hb hb2
            obtain ⟨d0, d1, d2⟩ := hp2.cells
            simp only at d0 d1 d2
            have Hd := Lib.hid (And.intro d0 (And.intro d1 d2))
            clear c0 c1 c2
            obtain ⟨f0, f1, f2⟩ := (hr2).froz
            obtain ⟨r0, r1, r2⟩ := (hr2).cells
            obtain ⟨V, hV, hrV, hlV, _⟩ := ls_end (hr2) (x) (1) (0)
            obtain ⟨v0, v1, v2⟩ := hrV.cells
            have HV := Lib.hid hV
            have hbV := hlV _ _ (hb3) (Nat.le_succ _)
            clear hV hlV hrV
            go_wp2_with fail
            rw [HV.out]
            exact bodyPost_ret (v := .tuple #[.agg #[.int .i64 (x), .int .i64 (1), .int .u8 (0)], .int .i64 0]) (by simp [results, Try.results69, go_sem, v0, v1, v2]) rfl ⟨by rw [He.out, Hs.out]; rfl, hbV⟩
          · have e2 : (st == 1) = false := by simp [h1]
            have Hrt := Lib.hid hrt
            clear hrt hi hx hle h1
            have c := hp.cells
            obtain ⟨c0, c1, c2⟩ := c
            simp only at c0 c1 c2
            go_enter Try.func69, Try.ntmps69
            go_wp2_with fail
            rw [HW.out]
            refine (right_r ep st to _).mono ?_
            rintro e w2 ⟨rfl, hb2⟩
            rw [Hrt.out]
            have hp2 := hp.on hb2
            have hr2 := hr.on hb2
            have hb3 := le_tr hb hb2
            obtain ⟨d0, d1, d2⟩ := hp2.cells
            simp only at d0 d1 d2
            have Hd := Lib.hid (And.intro d0 (And.intro d1 d2))
            clear c0 c1 c2
            obtain ⟨f0, f1, f2⟩ := (hr2).froz
            obtain ⟨r0, r1, r2⟩ := (hr2).cells
            obtain ⟨V, hV, hrV, hlV, _⟩ := ls_end (hr2) (x) (1) (0)
            obtain ⟨v0, v1, v2⟩ := hrV.cells
            have HV := Lib.hid hV
            have hbV := hlV _ _ (hb3) (Nat.le_succ _)
            clear hV hlV hrV
            go_wp2_with fail
            rw [HV.out]
            exact bodyPost_ret (v := .tuple #[.agg #[.int .i64 (x), .int .i64 (1), .int .u8 (0)], .int .i64 0]) (by simp [results, Try.results69, go_sem, v0, v1, v2]) rfl ⟨by rw [He.out, Hs.out]; rfl, hbV⟩

set_option maxRecDepth 100000 in
set_option maxHeartbeats 1000000 in
theorem give_r (ep st to x : Int) (w : World) : Calls Try.prog 68 #[.agg #[.int .i64 ep, .int .i64 st, .int .u8 to], .int .u8 x] w fun r w' => r = .returned (.tuple #[.agg #[.int .i64 (sGiveL ⟨ep, st, to⟩ x).ep, .int .i64 (sGiveL ⟨ep, st, to⟩ x).st, .int .u8 (sGiveL ⟨ep, st, to⟩ x).to], .int .i64 ((eGiveL ⟨ep, st, to⟩ x : Nat) : Int)]) ∧ Below w.heap.size w w' := by
  obtain ⟨W, hW⟩ : ∃ W, (w.alloc (.cells #[.int .i64 ep, .int .i64 st, .int .u8 to] 23)).alloc (.cells #[.int .i64 0, .int .i64 0, .int .u8 0] 23) = W := ⟨_, rfl⟩
  have hp : LB W w.heap.size 23 ⟨ep, st, to⟩ := by rw [← hW]; exact (LB.new w _ ⟨ep, st, to⟩).alloc _
  have hr : LB W (w.heap.size + 1) 23 ⟨0, 0, 0⟩ := by
    rw [← hW]
    have := LB.new (w.alloc (.cells #[.int .i64 ep, .int .i64 st, .int .u8 to] 23)) 23 ⟨0, 0, 0⟩
    simpa using this
  have hb : Below w.heap.size w W := by rw [← hW]; exact le_tr (le_al _ _) (le_al _ _)
  have HW := Lib.hid hW
  clear hW
  cases hrt : rightL ⟨ep, st, to⟩ with
  | false =>
    have He := Lib.hid (show eGiveL ⟨ep, st, to⟩ x = 2 by unfold eGiveL; rw [hrt]; simp [])
    have Hs := Lib.hid (show sGiveL ⟨ep, st, to⟩ x = ⟨ep, st, to⟩ by unfold sGiveL; rw [He.out]; rfl)
    have Hrt := Lib.hid hrt
    clear hrt 
    have c := hp.cells
    obtain ⟨c0, c1, c2⟩ := c
    simp only at c0 c1 c2
    go_enter Try.func68, Try.ntmps68
    go_wp2_with fail
    rw [HW.out]
    refine (right_r ep st to _).mono ?_
    rintro e w2 ⟨rfl, hb2⟩
    rw [Hrt.out]
    have hp2 := hp.on hb2
    have hr2 := hr.on hb2
    have hb3 := le_tr hb hb2
    obtain ⟨d0, d1, d2⟩ := hp2.cells
    simp only at d0 d1 d2
    have Hd := Lib.hid (And.intro d0 (And.intro d1 d2))
    clear c0 c1 c2
    obtain ⟨f0, f1, f2⟩ := (hr2).froz
    obtain ⟨r0, r1, r2⟩ := (hr2).cells
    obtain ⟨V, hV, hrV, hlV, _⟩ := ls_end (hr2) (ep) (st) (to)
    obtain ⟨v0, v1, v2⟩ := hrV.cells
    have HV := Lib.hid hV
    have hbV := hlV _ _ (hb3) (Nat.le_succ _)
    clear hV hlV hrV
    go_wp2_with fail
    rw [HV.out]
    exact bodyPost_ret (v := .tuple #[.agg #[.int .i64 (ep), .int .i64 (st), .int .u8 (to)], .int .i64 2]) (by simp [results, Try.results68, go_sem, v0, v1, v2]) rfl ⟨by rw [He.out, Hs.out]; rfl, hbV⟩
  | true =>
    by_cases hx : 8 ≤ x
    · have hx' : decide (8 ≤ x) = true := by simp [hx]
      have He := Lib.hid (show eGiveL ⟨ep, st, to⟩ x = 2 by unfold eGiveL; rw [hrt]; simp [hx])
      have Hs := Lib.hid (show sGiveL ⟨ep, st, to⟩ x = ⟨ep, st, to⟩ by unfold sGiveL; rw [He.out]; rfl)
      have Hrt := Lib.hid hrt
      clear hrt hx
      have c := hp.cells
      obtain ⟨c0, c1, c2⟩ := c
      simp only at c0 c1 c2
      go_enter Try.func68, Try.ntmps68
      go_wp2_with fail
      rw [HW.out]
      refine (right_r ep st to _).mono ?_
      rintro e w2 ⟨rfl, hb2⟩
      rw [Hrt.out]
      have hp2 := hp.on hb2
      have hr2 := hr.on hb2
      have hb3 := le_tr hb hb2
      obtain ⟨d0, d1, d2⟩ := hp2.cells
      simp only at d0 d1 d2
      have Hd := Lib.hid (And.intro d0 (And.intro d1 d2))
      clear c0 c1 c2
      obtain ⟨f0, f1, f2⟩ := (hr2).froz
      obtain ⟨r0, r1, r2⟩ := (hr2).cells
      obtain ⟨V, hV, hrV, hlV, _⟩ := ls_end (hr2) (ep) (st) (to)
      obtain ⟨v0, v1, v2⟩ := hrV.cells
      have HV := Lib.hid hV
      have hbV := hlV _ _ (hb3) (Nat.le_succ _)
      clear hV hlV hrV
      go_wp2_with fail
      rw [HV.out]
      exact bodyPost_ret (v := .tuple #[.agg #[.int .i64 (ep), .int .i64 (st), .int .u8 (to)], .int .i64 2]) (by simp [results, Try.results68, go_sem, v0, v1, v2]) rfl ⟨by rw [He.out, Hs.out]; rfl, hbV⟩
    have hx' : decide (8 ≤ x) = false := by simp; omega
    by_cases h1 : st = 1
    · have ht : to = 0 := by rcases right_cases hrt with a | a | a <;> simp at a <;> omega
      have e2 : (st == 1) = true := by simp [h1]
      have e4 : (st != 1) = false := by simp [h1]
      have e3 : (to == 0) = true := by simp [ht]
      by_cases hm : ep = 1048576
      · have e1 : (ep == 1048576) = true := by simp [hm]
        have He := Lib.hid (show eGiveL ⟨ep, st, to⟩ x = 3 by unfold eGiveL; rw [hrt]; simp [hx, h1, hm])
        have Hs := Lib.hid (show sGiveL ⟨ep, st, to⟩ x = ⟨ep, st, to⟩ by unfold sGiveL; rw [He.out]; rfl)
        have Hrt := Lib.hid hrt
        clear hrt hx h1 ht hm
        have c := hp.cells
        obtain ⟨c0, c1, c2⟩ := c
        simp only at c0 c1 c2
        go_enter Try.func68, Try.ntmps68
        go_wp2_with fail
        rw [HW.out]
        refine (right_r ep st to _).mono ?_
        rintro e w2 ⟨rfl, hb2⟩
        rw [Hrt.out]
        have hp2 := hp.on hb2
        have hr2 := hr.on hb2
        have hb3 := le_tr hb hb2
        obtain ⟨d0, d1, d2⟩ := hp2.cells
        simp only at d0 d1 d2
        have Hd := Lib.hid (And.intro d0 (And.intro d1 d2))
        clear c0 c1 c2
        obtain ⟨f0, f1, f2⟩ := (hr2).froz
        obtain ⟨r0, r1, r2⟩ := (hr2).cells
        obtain ⟨V, hV, hrV, hlV, _⟩ := ls_end (hr2) (ep) (st) (to)
        obtain ⟨v0, v1, v2⟩ := hrV.cells
        have HV := Lib.hid hV
        have hbV := hlV _ _ (hb3) (Nat.le_succ _)
        clear hV hlV hrV
        go_wp2_with fail
        rw [HV.out]
        exact bodyPost_ret (v := .tuple #[.agg #[.int .i64 (ep), .int .i64 (st), .int .u8 (to)], .int .i64 3]) (by simp [results, Try.results68, go_sem, v0, v1, v2]) rfl ⟨by rw [He.out, Hs.out]; rfl, hbV⟩
      · have e1 : (ep == 1048576) = false := by simp [hm]
        have He := Lib.hid (show eGiveL ⟨ep, st, to⟩ x = 0 by unfold eGiveL; rw [hrt]; simp [hx, h1, hm])
        have Hs := Lib.hid (show sGiveL ⟨ep, st, to⟩ x = ⟨ep, 2, x⟩ by unfold sGiveL; rw [He.out]; rfl)
        have Hrt := Lib.hid hrt
        clear hrt hx h1 ht hm
        have c := hp.cells
        obtain ⟨c0, c1, c2⟩ := c
        simp only at c0 c1 c2
        go_enter Try.func68, Try.ntmps68
        go_wp2_with fail
        rw [HW.out]
        refine (right_r ep st to _).mono ?_
        rintro e w2 ⟨rfl, hb2⟩
        rw [Hrt.out]
        have hp2 := hp.on hb2
        have hr2 := hr.on hb2
        have hb3 := le_tr hb hb2
        obtain ⟨d0, d1, d2⟩ := hp2.cells
        simp only at d0 d1 d2
        have Hd := Lib.hid (And.intro d0 (And.intro d1 d2))
        clear c0 c1 c2
        obtain ⟨f0, f1, f2⟩ := (hr2).froz
        obtain ⟨r0, r1, r2⟩ := (hr2).cells
        obtain ⟨V, hV, hrV, hlV, _⟩ := ls_end (hr2) (ep) (2) (x)
        obtain ⟨v0, v1, v2⟩ := hrV.cells
        have HV := Lib.hid hV
        have hbV := hlV _ _ (hb3) (Nat.le_succ _)
        clear hV hlV hrV
        go_wp2_with fail
        rw [HV.out]
        exact bodyPost_ret (v := .tuple #[.agg #[.int .i64 (ep), .int .i64 (2), .int .u8 (x)], .int .i64 0]) (by simp [results, Try.results68, go_sem, v0, v1, v2]) rfl ⟨by rw [He.out, Hs.out]; rfl, hbV⟩
    · have e2 : (st == 1) = false := by simp [h1]
      have e4 : (st != 1) = true := by simp [h1]
      have He := Lib.hid (show eGiveL ⟨ep, st, to⟩ x = 7 by unfold eGiveL; rw [hrt]; simp [hx, h1])
      have Hs := Lib.hid (show sGiveL ⟨ep, st, to⟩ x = ⟨ep, st, to⟩ by unfold sGiveL; rw [He.out]; rfl)
      have Hrt := Lib.hid hrt
      clear hrt hx h1
      have c := hp.cells
      obtain ⟨c0, c1, c2⟩ := c
      simp only at c0 c1 c2
      go_enter Try.func68, Try.ntmps68
      go_wp2_with fail
      rw [HW.out]
      refine (right_r ep st to _).mono ?_
      rintro e w2 ⟨rfl, hb2⟩
      rw [Hrt.out]
      have hp2 := hp.on hb2
      have hr2 := hr.on hb2
      have hb3 := le_tr hb hb2
      obtain ⟨d0, d1, d2⟩ := hp2.cells
      simp only at d0 d1 d2
      have Hd := Lib.hid (And.intro d0 (And.intro d1 d2))
      clear c0 c1 c2
      obtain ⟨f0, f1, f2⟩ := (hr2).froz
      obtain ⟨r0, r1, r2⟩ := (hr2).cells
      obtain ⟨V, hV, hrV, hlV, _⟩ := ls_end (hr2) (ep) (st) (to)
      obtain ⟨v0, v1, v2⟩ := hrV.cells
      have HV := Lib.hid hV
      have hbV := hlV _ _ (hb3) (Nat.le_succ _)
      clear hV hlV hrV
      go_wp2_with fail
      rw [HV.out]
      exact bodyPost_ret (v := .tuple #[.agg #[.int .i64 (ep), .int .i64 (st), .int .u8 (to)], .int .i64 7]) (by simp [results, Try.results68, go_sem, v0, v1, v2]) rfl ⟨by rw [He.out, Hs.out]; rfl, hbV⟩

set_option maxRecDepth 100000 in
set_option maxHeartbeats 1000000 in
theorem speaks_r (ep st to x : Int) (w : World) : Calls Try.prog 67 #[.agg #[.int .i64 ep, .int .i64 st, .int .u8 to], .int .i64 x] w fun r w' => r = .returned (.bool (speaksL ⟨ep, st, to⟩ x)) ∧ Below w.heap.size w w' := by
  obtain ⟨W, hW⟩ : ∃ W, w.alloc (.cells #[.int .i64 ep, .int .i64 st, .int .u8 to] 23) = W := ⟨_, rfl⟩
  have hp : LB W w.heap.size 23 ⟨ep, st, to⟩ := by rw [← hW]; exact LB.new w _ ⟨ep, st, to⟩
  have hb : Below w.heap.size w W := by rw [← hW]; exact le_al _ _
  have hc := hp.cells
  obtain ⟨c0, c1, c2⟩ := hp.cells
  simp only at hc c0 c1 c2
  have Hc := Lib.hid hc
  have HW := Lib.hid hW
  clear hW hc
  cases hrt : rightL ⟨ep, st, to⟩ with
  | false =>
    have H := Lib.hid (show speaksL ⟨ep, st, to⟩ x = false by unfold speaksL; rw [hrt]; simp [])
    have Hrt := Lib.hid hrt
    clear hrt 
    go_enter Try.func67, Try.ntmps67
    go_wp2_with fail
    rw [HW.out]
    refine (right_r ep st to _).mono ?_
    rintro e w2 ⟨rfl, hb2⟩
    rw [Hrt.out]
    have hp2 := hp.on hb2
    obtain ⟨d0, d1, d2⟩ := hp2.cells
    simp only at d0 d1 d2
    clear c0 c1 c2
    go_wp2_with fail
    go_ret
    exact ⟨by rw [H.out]; rfl, le_tr hb hb2⟩
  | true =>
    by_cases hx : ep = x
    · have e1 : (ep == x) = true := by simp [hx]
      by_cases h1 : st = 1
      · have ht : to = 0 := by rcases right_cases hrt with a | a | a <;> simp at a <;> omega
        have e2 : (st == 1) = true := by simp [h1]
        have e3 : (to == 0) = true := by simp [ht]
        have H := Lib.hid (show speaksL ⟨ep, st, to⟩ x = true by unfold speaksL; rw [hrt]; simp [hx, h1])
        have Hrt := Lib.hid hrt
        clear hrt hx h1 ht
        go_enter Try.func67, Try.ntmps67
        go_wp2_with fail
        rw [HW.out]
        refine (right_r ep st to _).mono ?_
        rintro e w2 ⟨rfl, hb2⟩
        rw [Hrt.out]
        have hp2 := hp.on hb2
        obtain ⟨d0, d1, d2⟩ := hp2.cells
        simp only at d0 d1 d2
        clear c0 c1 c2
        go_wp2_with fail
        go_ret
        exact ⟨by rw [H.out]; rfl, le_tr hb hb2⟩
      · have e2 : (st == 1) = false := by simp [h1]
        have H := Lib.hid (show speaksL ⟨ep, st, to⟩ x = false by unfold speaksL; rw [hrt]; simp [hx, h1])
        have Hrt := Lib.hid hrt
        clear hrt hx h1
        go_enter Try.func67, Try.ntmps67
        go_wp2_with fail
        rw [HW.out]
        refine (right_r ep st to _).mono ?_
        rintro e w2 ⟨rfl, hb2⟩
        rw [Hrt.out]
        have hp2 := hp.on hb2
        obtain ⟨d0, d1, d2⟩ := hp2.cells
        simp only at d0 d1 d2
        clear c0 c1 c2
        go_wp2_with fail
        go_ret
        exact ⟨by rw [H.out]; rfl, le_tr hb hb2⟩
    · have e1 : (ep == x) = false := by simp [hx]
      by_cases h1 : st = 1
      · have e2 : (st == 1) = true := by simp [h1]
        have H := Lib.hid (show speaksL ⟨ep, st, to⟩ x = false by unfold speaksL; rw [hrt]; simp [hx, h1])
        have Hrt := Lib.hid hrt
        clear hrt hx h1
        go_enter Try.func67, Try.ntmps67
        go_wp2_with fail
        rw [HW.out]
        refine (right_r ep st to _).mono ?_
        rintro e w2 ⟨rfl, hb2⟩
        rw [Hrt.out]
        have hp2 := hp.on hb2
        obtain ⟨d0, d1, d2⟩ := hp2.cells
        simp only at d0 d1 d2
        clear c0 c1 c2
        go_wp2_with fail
        go_ret
        exact ⟨by rw [H.out]; rfl, le_tr hb hb2⟩
      · have e2 : (st == 1) = false := by simp [h1]
        have H := Lib.hid (show speaksL ⟨ep, st, to⟩ x = false by unfold speaksL; rw [hrt]; simp [hx, h1])
        have Hrt := Lib.hid hrt
        clear hrt hx h1
        go_enter Try.func67, Try.ntmps67
        go_wp2_with fail
        rw [HW.out]
        refine (right_r ep st to _).mono ?_
        rintro e w2 ⟨rfl, hb2⟩
        rw [Hrt.out]
        have hp2 := hp.on hb2
        obtain ⟨d0, d1, d2⟩ := hp2.cells
        simp only at d0 d1 d2
        clear c0 c1 c2
        go_wp2_with fail
        go_ret
        exact ⟨by rw [H.out]; rfl, le_tr hb hb2⟩
end Go.Proofs.Ytmghckddofefkaa
