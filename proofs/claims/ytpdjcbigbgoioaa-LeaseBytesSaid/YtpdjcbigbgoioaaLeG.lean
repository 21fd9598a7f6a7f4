/-
  Encode of the document's answer for layer 11. Condition: the numbers are in the range of their types.
-/
import Derived.Test.YtpdjcbigbgoioaaLeF
set_option linter.unusedVariables false
set_option linter.unusedSimpArgs false
namespace Go.Proofs.Ytpdjcbigbgoioaa
open Go.RowKit

set_option maxRecDepth 100000 in
set_option maxHeartbeats 1000000 in
theorem encL_r (ep st to : Int) (w : World) (hl : inL ⟨ep, st, to⟩) : Calls Try.prog 19 #[.agg #[.int .i64 ep, .int .i64 st, .int .u8 to]] w (EPostC w (bLe ⟨ep, st, to⟩) (kLe ⟨ep, st, to⟩)) := by
  cases hrt : rightL ⟨ep, st, to⟩ with
  | false =>
    have Hrt := Lib.hid hrt
    obtain ⟨W, hW⟩ : ∃ W, w.alloc (.cells #[.int .i64 ep, .int .i64 st, .int .u8 to] 23) = W := ⟨_, rfl⟩
    have hb : Below w.heap.size w W := by rw [← hW]; exact le_al _ _
    have HW := Lib.hid hW
    have Hk := Lib.hid (show bLe ⟨ep, st, to⟩ = [] ∧ kLe ⟨ep, st, to⟩ = 2 by unfold bLe kLe; rw [hrt]; simp)
    clear hW hrt
    go_enter Try.func19, Try.ntmps19
    go_wp2_with fail
    rw [HW.out]
    refine (right_r ep st to _).mono ?_
    rintro e w2 ⟨rfl, hb2⟩
    rw [Hrt.out]
    go_wp2_with fail
    go_ret2
    rw [Hk.out.1, Hk.out.2]
    exact ⟨none, 0, 0, none, rfl, by simpa [bc] using Seg.nil _ _ _, le_tr hb hb2⟩
  | true =>
    obtain ⟨n1, n2, n3, m1, m2, m3⟩ := cv3_eE0 hl hrt
    obtain ⟨k1, k2⟩ := cv3_eE n1 n2 n3
    have Hk := Lib.hid (show bLe ⟨ep, st, to⟩ = bE shL (cv3 st.toNat ep.toNat to.toNat) ∧ kLe ⟨ep, st, to⟩ = 0 by
      unfold bLe kLe
      rw [hrt, k2]
      exact ⟨rfl, rfl⟩)
    simp only at n1 n2 n3 m1 m2 m3
    have Hrt := Lib.hid hrt
    have Hk1 := Lib.hid k1
    clear k1 k2 hrt hl
    rw [Hk.out.1, Hk.out.2]
    clear Hk
    generalize st.toNat = a at *
    generalize ep.toNat = b at *
    generalize to.toNat = c at *
    subst m1 m2 m3
    obtain ⟨W, hW⟩ : ∃ W, w.alloc (.cells #[.int .i64 b, .int .i64 a, .int .u8 c] 23) = W := ⟨_, rfl⟩
    have hp : LB W w.heap.size 23 ⟨b, a, c⟩ := by rw [← hW]; exact LB.new w _ ⟨b, a, c⟩
    have hb : Below w.heap.size w W := by rw [← hW]; exact le_al _ _
    have HW := Lib.hid hW
    clear hW
    go_enter Try.func19, Try.ntmps19
    go_wp2_with fail
    rw [HW.out]
    refine (right_r b a c _).mono ?_
    rintro e w2 ⟨rfl, hb2⟩
    rw [Hrt.out]
    have Wa := Lib.hid (show IntKind.u64.wrap (a : Int) = a from IntWalk.u64_in _ (by omega))
    have Wb := Lib.hid (show IntKind.u64.wrap (b : Int) = b from IntWalk.u64_in _ (by omega))
    have Wc := Lib.hid (show IntKind.u64.wrap (c : Int) = c from IntWalk.u64_in _ (by omega))
    have hp2 := hp.on hb2
    have hb3 := le_tr hb hb2
    have Hd := Lib.hid (show w2.cell? ⟨w.heap.size, 0, none⟩ = some (.int .i64 b) ∧ w2.cell? ⟨w.heap.size, 1, none⟩ = some (.int .i64 a) ∧ w2.cell? ⟨w.heap.size, 2, none⟩ = some (.int .u8 c) from hp2.cells)
    go_wp2_with fail
    go_region_held3 (fun W' => W'.cell? ⟨w.heap.size, 0, none⟩ = some (.int .i64 (b : Int)) ∧ W'.cell? ⟨w.heap.size, 1, none⟩ = some (.int .i64 (a : Int)) ∧ W'.cell? ⟨w.heap.size, 2, none⟩ = some (.int .u8 (c : Int))) (first | exact Hd.out | exact y1.out | exact y2.out | exact y3.out | exact y4.out | exact y5.out) (first
      | (go_at_call 26; rw [Wa.out]; (with_reducible refine (n_r (a : Int) w2.drew).mono ?_); rintro e u1 ⟨rfl, b1⟩; have y1 := Lib.hid (hp2.drew.on b1).cells)
      | (go_at_call 26; rw [Wb.out]; (with_reducible refine (n_r (b : Int) u1).mono ?_); rintro e u2 ⟨rfl, b2⟩; have y2 := Lib.hid ((hp2.drew.on b1).on b2).cells)
      | (go_at_call 26; rw [Wc.out]; (with_reducible refine (n_r (c : Int) u2).mono ?_); rintro e u3 ⟨rfl, b3⟩; have y3 := Lib.hid (((hp2.drew.on b1).on b2).on b3).cells; have hv := VR.lit3 u3 61 a b c (Nat.lt_trans n1 (by decide)) (Nat.lt_trans n2 (by decide)) (Nat.lt_trans n3 (by decide)); have y4 := Lib.hid ((((hp2.drew.on b1).on b2).on b3).alloc (.cells #[.int .u64 a, .string ⟨#[]⟩, .int .u64 b, .string ⟨#[]⟩, .int .u64 c, .string ⟨#[]⟩] 61)).cells)
      | (go_at_call 25; refine (enc3_r _ _ a b c _ hv).mono ?_; rintro e w3 ⟨A3, n3, c3, G3, rfl, hs3, hb5⟩; have y5 := Lib.hid (((((hp2.drew.on b1).on b2).on b3).alloc (.cells #[.int .u64 a, .string ⟨#[]⟩, .int .u64 b, .string ⟨#[]⟩, .int .u64 c, .string ⟨#[]⟩] 61)).on hb5).cells))
    go_wp2_with fail
    go_ret2
    exact ⟨A3, n3, c3, G3, rfl, hs3, le_tr (le_tr (le_tr (le_tr (le_tr hb3 (le_dr (W := w2) b1)) b2) b3) (le_al _ _)) hb5⟩
end Go.Proofs.Ytpdjcbigbgoioaa
