/-
  Decode of the document's answer for layer 11. Condition: the bytes can be read, at most 5000 of them.
-/
import Derived.Test.YtpdjcbigbgoioaaLeH
set_option linter.unusedVariables false
set_option linter.unusedSimpArgs false
namespace Go.Proofs.Ytpdjcbigbgoioaa
open Go.RowKit

set_option maxRecDepth 100000 in
set_option maxHeartbeats 1000000 in
theorem decL_r (A : Option Addr) (n cap : Nat) (bs : List UInt8) (w : World) (hb : BR w w.heap.size A n cap bs) (hn : n ≤ 5000) :
    Calls Try.prog 21 #[.slice A n cap] w fun r w' => r = .returned (.tuple #[.agg #[.int .i64 (sDL bs).ep, .int .i64 (sDL bs).st, .int .u8 (sDL bs).to], .int .i64 ((kDL bs : Nat) : Int)]) ∧ Below w.heap.size w w' := by
  obtain ⟨W, hW⟩ : ∃ W, w.alloc (.cells #[.int .i64 0, .int .i64 0, .int .u8 0] 23) = W := ⟨_, rfl⟩
  have hr : LB W w.heap.size 23 ⟨0, 0, 0⟩ := by rw [← hW]; exact LB.new w _ ⟨0, 0, 0⟩
  have hb0 : Below w.heap.size w W := by rw [← hW]; exact le_al _ _
  have HW := Lib.hid hW
  clear hW
  have hbr := (hb.below hb0 (Nat.le_refl _)).more hb0.size
  rcases dec3 bs with ⟨h1, h2⟩ | ⟨a, b, c, h1, h2, l1, l2, l3, _⟩
  · have Hk := Lib.hid (kD_no h1)
    have H1 := Lib.hid h1
    have H2 := Lib.hid h2
    clear h1 h2
    go_enter Try.func21, Try.ntmps21
    go_wp2_with fail
    rw [HW.out]
    refine (dec3_r A n cap bs _ hbr hn).mono ?_
    rintro e w2 ⟨A2, c2, rfl, hv2, ho2, hb2⟩
    have hr2 := hr.on hb2
    have hb3 := le_tr hb0 hb2
    rw [H1.out, H2.out] at *
    obtain ⟨f0, f1, f2⟩ := (hr2).froz
    obtain ⟨r0, r1, r2⟩ := (hr2).cells
    simp only at r0 r1 r2
    obtain ⟨V, hV, hrV, hlV, _⟩ := ls_end (hr2) (0) (0) (0)
    obtain ⟨v0, v1, v2⟩ := hrV.cells
    have HV := Lib.hid hV
    have hbV := hlV _ _ (hb3) (Nat.le_refl _)
    clear hV hlV hrV
    go_wp2_with fail
    rw [HV.out]
    exact bodyPost_ret (v := .tuple #[.agg #[.int .i64 (0), .int .i64 (0), .int .u8 (0)], .int .i64 4]) (by simp [results, Try.results21, go_sem, v0, v1, v2]) rfl ⟨by rw [Hk.out.1, Hk.out.2]; rfl, hbV⟩
  · have Hk : Hid (kDL bs = (if rightL ⟨b, a, c⟩ = true then 0 else 4) ∧ sDL bs = (if rightL ⟨b, a, c⟩ = true then ⟨b, a, c⟩ else ⟨0, 0, 0⟩)) := by
      cases hr : rightL ⟨b, a, c⟩
      · exact kD_bad h2 hr
      · exact kD_yes h1 h2 hr
    have H1 := Lib.hid h1
    have H2 := Lib.hid h2
    clear h1 h2
    go_enter Try.func21, Try.ntmps21
    go_wp2_with fail
    rw [HW.out]
    refine (dec3_r A n cap bs _ hbr hn).mono ?_
    rintro e w2 ⟨A2, c2, rfl, hv2, ho2, hb2⟩
    have hr2 := hr.on hb2
    have hb3 := le_tr hb0 hb2
    rw [H1.out, H2.out] at *
    obtain ⟨g, off, rfl, hg, c0, c1, c3⟩ := hv2.cells3
    have hl3 : (cv3 a b c).length = 3 := rfl
    rw [hl3] at *
    have Hd := Lib.hid (And.intro c0 (And.intro c1 c3))
    have p0 : a < 9223372036854775808 := by omega
    have p1 : b < 9223372036854775808 := by omega
    have p2 : (c : Int) < 256 := by omega
    go_wp2_with fail
    go_region
    obtain ⟨W3, hW3⟩ : ∃ W3, (w2.alloc (.cells #[.int .i64 (b : Int), .int .i64 (a : Int), .int .u8 (c : Int)] 23)).drew = W3 := ⟨_, rfl⟩
    have hq : LB W3 w2.heap.size 23 ⟨b, a, c⟩ := by rw [← hW3]; exact (LB.new w2 _ ⟨b, a, c⟩).drew
    have hr3 : LB W3 w.heap.size 23 ⟨0, 0, 0⟩ := by rw [← hW3]; exact (hr2.alloc _).drew
    have hb4 : Below w.heap.size w W3 := by rw [← hW3]; exact le_dN (k := 1) (le_tr hb3 (le_al _ _))
    rw [hW3]
    obtain ⟨q0, q1, q2⟩ := hq.cells
    simp only at q0 q1 q2
    clear hW3 c0 c1 c3
    go_wp2_with fail
    refine (right_r b a c _).mono ?_
    rintro e w4 ⟨rfl, hb5⟩
    have hr4 := hr3.on hb5
    have hb6 := le_tr hb4 hb5
    have hq4 := hq.on hb5
    obtain ⟨t0, t1, t2⟩ := hq4.cells
    simp only at t0 t1 t2
    clear q0 q1 q2 hv2 hr2 hr3 hq
    cases hrt : rightL ⟨b, a, c⟩ with
    | false =>
      rw [hrt] at Hk
      have HK := Lib.hid (show kDL bs = 4 ∧ sDL bs = ⟨0, 0, 0⟩ by simpa using Hk.out)
      clear Hk hrt
      obtain ⟨f0, f1, f2⟩ := (hr4).froz
      obtain ⟨r0, r1, r2⟩ := (hr4).cells
      simp only at r0 r1 r2
      obtain ⟨V, hV, hrV, hlV, _⟩ := ls_end (hr4) (0) (0) (0)
      obtain ⟨v0, v1, v2⟩ := hrV.cells
      have HV := Lib.hid hV
      have hbV := hlV _ _ (hb6) (Nat.le_refl _)
      clear hV hlV hrV
      go_wp2_with fail
      rw [HV.out]
      exact bodyPost_ret (v := .tuple #[.agg #[.int .i64 (0), .int .i64 (0), .int .u8 (0)], .int .i64 4]) (by simp [results, Try.results21, go_sem, v0, v1, v2]) rfl ⟨by rw [HK.out.1, HK.out.2]; rfl, hbV⟩
    | true =>
      rw [hrt] at Hk
      have HK := Lib.hid (show kDL bs = 0 ∧ sDL bs = ⟨b, a, c⟩ by simpa using Hk.out)
      clear Hk hrt
      obtain ⟨f0, f1, f2⟩ := (hr4).froz
      obtain ⟨r0, r1, r2⟩ := (hr4).cells
      simp only at r0 r1 r2
      obtain ⟨V, hV, hrV, hlV, _⟩ := ls_end (hr4) (b) (a) (c)
      obtain ⟨v0, v1, v2⟩ := hrV.cells
      have HV := Lib.hid hV
      have hbV := hlV _ _ (hb6) (Nat.le_refl _)
      clear hV hlV hrV
      go_wp2_with fail
      rw [HV.out]
      exact bodyPost_ret (v := .tuple #[.agg #[.int .i64 (b), .int .i64 (a), .int .u8 (c)], .int .i64 0]) (by simp [results, Try.results21, go_sem, v0, v1, v2]) rfl ⟨by rw [HK.out.1, HK.out.2]; rfl, hbV⟩
end Go.Proofs.Ytpdjcbigbgoioaa
