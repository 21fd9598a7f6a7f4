/-
  The walk of the law DiskRenews: it returns true and leaves all memory that was there. Conditions: the bytes and the records can be read, the number is of 16 bits.
-/
import Derived.Test.YtdelllkgllfcdaaDiskP
namespace Go.Proofs.Ytdelllkgllfcdaa
open Go.RowKit

set_option maxRecDepth 100000 in
set_option maxHeartbeats 4000000 in
theorem renews_walk (A : Option Addr) (n c : Nat) (s r : Int) (bs : List UInt8) (Al : Option Addr) (nl cl : Nat) (ls : List (List UInt8)) (kp : Nat) (w : World) (hb : BR w w.heap.size A n c bs) (hl : LR w w.heap.size Al nl cl ls) (hkp : kp < 65536) :
    Calls Try.prog 4 #[.agg #[.slice A n c, .int .i64 s, .int .i64 r], .slice Al nl cl, .int .u16 kp] w fun e w' => e = .returned (.bool true) ∧ Below w.heap.size w w' := by
  have hnm := hb.max
  have hlm := hl.max
  obtain ⟨W, hW, bx, hbW⟩ := boxed w 24 A n c s r
  go_enter Try.func4, Try.ntmps4
  go_wp2_with fail
  try rw [hW]
  clear hW
  refine (alive_c W).mono ?_
  rintro e w1 ⟨rfl, hb1⟩
  have bx1 := bx.on hb1 bx.lt
  have hb01 := hbW.trans (hb1.mono hbW.size)
  clear bx hbW hb1
  obtain ⟨d0, d1, d2⟩ := bx1.cells
  by_cases hbig : (9000 : Int) < (n : Int)
  · go_wp2_with fail
    go_ret
    exact ⟨rfl, hb01⟩
  go_wp2_with fail
  refine (few_c Al nl cl ls w1 (hl.on hb01)).mono ?_
  rintro e w1' ⟨b, rfl, rfl, hfew⟩
  cases b with
  | false =>
    go_wp2_with fail
    go_ret
    exact ⟨rfl, hb01⟩
  | true =>
  replace hfew := hfew rfl
  go_wp2_with fail
  refine (right_c A n c s r w1).mono ?_
  rintro e w2 ⟨rfl, hb2⟩
  have bx2 := bx1.on hb2 bx1.lt
  have hb02 := hb01.trans (hb2.mono hb01.size)
  clear bx1 hb01 hb2 d0 d1 d2
  cases hright : rightB n s r with
  | false =>
    clear hright
    go_wp2_with fail
    go_ret
    exact ⟨rfl, hb02⟩
  | true =>
    obtain ⟨s', r', rfl, rfl, hs, hr, hr2⟩ := right_of hright
    clear hright
    obtain ⟨d0, d1, d2⟩ := bx2.cells
    go_wp2_with fail
    refine (renew_d A n c r' s' bs Al nl cl ls w2 (hb.on hb02) (hl.on hb02) (by omega) (by omega)).mono ?_
    rintro e w3 ⟨A3, n3, c3, rfl, hx3, hb3⟩
    have bx3 := bx2.on hb3 bx2.lt
    have hb03 := hb02.trans (hb3.mono hb02.size)
    clear bx2 hb02 hb3 d0 d1 d2
    obtain ⟨S3, hS3⟩ : ∃ S, sR s' r' ls = S := ⟨_, rfl⟩
    obtain ⟨E, hE⟩ : ∃ E, eR r' ls = E := ⟨_, rfl⟩
    have HS3 := Lib.hid hS3
    have HE := Lib.hid hE
    rw [hS3, hE]
    clear hS3 hE
    obtain ⟨d0, d1, d2⟩ := (bx3.alloc (.cells #[.slice A3 n3 c3, .int .i64 S3, .int .i64 r'] 28)).cells
    go_wp2_with fail
    obtain ⟨W4, hW4, ax4, hbW4⟩ := boxed w3 28 A3 n3 c3 S3 r'
    rw [hW4]
    have bx4 := bx3.on hbW4 bx3.lt
    have hx4 := hx3.on hbW4
    have hb04 := hb03.trans (hbW4.mono hb03.size)
    clear hW4 bx3 hx3 hb03 hbW4 d0 d1 d2
    generalize w3.heap.size = x at *
    refine (renew_r A n c r' s' bs Al nl cl ls W4 (hb.on hb04) (hl.on hb04) (by omega)).mono ?_
    rw [HS3.out, HE.out]
    rintro e w5 ⟨A5, n5, c5, rfl, hx5, hb5⟩
    have ax5 := ax4.on hb5 ax4.lt
    have hx45 := hx4.on hb5
    have hb05 := hb04.trans (hb5.mono hb04.size)
    clear bx4 ax4 hx4 hb04 hb5
    obtain ⟨d0, d1, d2⟩ := (ax5.alloc (.cells #[.slice A5 n5 c5, .int .i64 S3, .int .i64 r'] 24)).cells
    have hne : x ≠ w5.heap.size := by have := ax5.lt; omega
    go_wp2_with fail
    obtain ⟨W6, hW6, _, hbW6⟩ := boxed w5 24 A5 n5 c5 S3 r'
    rw [hW6]
    have ax6 := ax5.on hbW6 ax5.lt
    have hx6 := hx45.on hbW6
    have hy6 := hx5.on hbW6
    have hb06 := hb05.trans (hbW6.mono hb05.size)
    clear hW6 ax5 hx45 hx5 hb05 hbW6 d0 d1 d2 hne
    refine (same_d A3 A5 n3 c3 n5 c5 S3 r' _ W6 hx6 hy6).mono ?_
    rintro e w7 ⟨rfl, hb7⟩
    have ax7 := ax6.on hb7 ax6.lt
    have hx7 := hx6.on hb7
    have hb07 := hb06.trans (hb7.mono hb06.size)
    clear ax6 hx6 hy6 hb06 hb7
    have hee : ((E : Int) != (E : Int)) = false := by simp
    obtain ⟨d0, d1, d2⟩ := ax7.cells
    by_cases h0 : E = 0
    · subst h0
      obtain ⟨hbg, hle⟩ := eR_zero HE.out
      obtain ⟨a1, a2⟩ := aC_all (bigB_no hbg)
      have hbR : bR bs r' ls = frs ls := if_pos HE.out
      rw [hbR] at hx7
      have hn3 := hx7.1
      obtain rfl : (n3 : Int) = S3 := by rw [← HS3.out, ← hn3]; unfold sR; rw [if_pos HE.out]
      have hn3r : n3 ≤ 4007 * 30 := by have h5 := frs_bound ls (bigB_no hbg); have h6 := hl.1; rw [hn3] at h5; omega
      rw [hn3] at a2
      have A1 := Lib.hid a1
      have A2 := Lib.hid a2
      have Hn3 := Lib.hid hn3
      clear a1 a2 hn3 hbR hbg hle HE HS3 hee
      go_wp2_with fail
      refine (crash_d A3 n3 c3 n3 kp r' _ w7 hx7 (by omega) (Nat.le_refl _) hkp).mono ?_
      rw [kC_same, List.take_of_length_le (by rw [Hn3.out]; exact Nat.le_refl _)]
      rintro e w8 ⟨A8, c8, rfl, hx8, hb8⟩
      have ax8 := ax7.on hb8 ax7.lt
      have hb08 := hb07.trans (hb8.mono hb07.size)
      clear ax7 hx7 hb07 hb8 d0 d1 d2
      go_wp2_with fail
      refine (records_d A8 n3 c8 n3 r' _ w8 hx8 (by omega)).mono ?_
      rintro e w9 h9
      obtain ⟨A9, n9, c9, rfl, hl9, hb9⟩ := h9.toA
      rw [A1.out] at hl9
      rw [A2.out]
      have ax9 := ax8.on hb9 ax8.lt
      have hb09 := hb08.trans (hb9.mono hb08.size)
      have hll := hl.on hb09
      obtain rfl : nl = n9 := by rw [← hl9.1, ← hll.1]
      clear ax8 hx8 hb08 hb9 h9 A1 A2 Hn3
      have hnn : ((n3 : Int) == (n3 : Int)) = true := beq_self_eq_true _
      go_wp2_with (go_at_call 16; refine (same_yes A9 Al nl c9 cl _ _ hl9 hll).mono ?_; rintro e w11 ⟨rfl, hb11⟩; obtain ⟨d0, d1, d2⟩ := (ax9.on hb11 ax9.lt).cells)
      go_ret
      exact ⟨rfl, hb09.trans (hb11.mono hb09.size)⟩
    · have hEn : ((E : Int) != 0) = true := by rw [bne_iff_ne]; omega
      clear h0
      go_wp2_with fail
      go_ret
      exact ⟨rfl, hb07⟩
end Go.Proofs.Ytdelllkgllfcdaa
