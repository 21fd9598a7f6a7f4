/-
  The walk of the law DiskCalls: it returns true and leaves all memory that was there. Conditions: the bytes can be read, the number is of 16 bits.
-/
import Derived.Test.YtdelllkgllfcdaaDiskP
namespace Go.Proofs.Ytdelllkgllfcdaa
open Go.RowKit

/-- Three boxes at once. -/
def Trio (W : World) (x y d : Nat) (A3 : Option Addr) (n3 c3 : Nat) (A5 : Option Addr) (n5 c5 : Nat) (A : Option Addr) (n c : Nat) (s r : Int) : Prop :=
  Box W x 28 A3 n3 c3 s r ∧ Box W y 24 A5 n5 c5 s r ∧ Box W d 24 A n c s r
section
variable {W W' : World} {x y d : Nat} {A3 : Option Addr} {n3 c3 : Nat} {A5 : Option Addr} {n5 c5 : Nat} {A : Option Addr} {n c : Nat} {s r : Int}
theorem Trio.on (h : Trio W x y d A3 n3 c3 A5 n5 c5 A n c s r) (hb : Below W.heap.size W W') : Trio W' x y d A3 n3 c3 A5 n5 c5 A n c s r := ⟨h.1.on hb h.1.lt, h.2.1.on hb h.2.1.lt, h.2.2.on hb h.2.2.lt⟩
theorem Trio.drew (h : Trio W x y d A3 n3 c3 A5 n5 c5 A n c s r) : Trio W.drew x y d A3 n3 c3 A5 n5 c5 A n c s r := h
theorem Trio.cells (h : Trio W x y d A3 n3 c3 A5 n5 c5 A n c s r) : (W.cell? ⟨x, 0, none⟩ = some (.slice A3 n3 c3) ∧ W.cell? ⟨x, 1, none⟩ = some (.int .i64 s) ∧ W.cell? ⟨x, 2, none⟩ = some (.int .i64 r)) ∧ (W.cell? ⟨y, 0, none⟩ = some (.slice A5 n5 c5) ∧ W.cell? ⟨y, 1, none⟩ = some (.int .i64 s) ∧ W.cell? ⟨y, 2, none⟩ = some (.int .i64 r)) ∧
    (W.cell? ⟨d, 0, none⟩ = some (.slice A n c) ∧ W.cell? ⟨d, 1, none⟩ = some (.int .i64 s) ∧ W.cell? ⟨d, 2, none⟩ = some (.int .i64 r)) := ⟨h.1.cells, h.2.1.cells, h.2.2.cells⟩
end

set_option maxRecDepth 100000 in
set_option maxHeartbeats 8000000 in
theorem calls_walk (A : Option Addr) (n c : Nat) (s r : Int) (bs : List UInt8) (Ar : Option Addr) (nr cr : Nat) (rs : List UInt8) (kp : Nat) (w : World) (hb : BR w w.heap.size A n c bs) (hrb : BR w w.heap.size Ar nr cr rs) (hkp : kp < 65536) :
    Calls Try.prog 3 #[.agg #[.slice A n c, .int .i64 s, .int .i64 r], .slice Ar nr cr, .int .u16 kp] w fun e w' => e = .returned (.bool true) ∧ Below w.heap.size w w' := by
  have hnm := hb.max
  have hrm := hrb.max
  obtain ⟨W, hW, bx, hbW⟩ := boxed w 24 A n c s r
  go_enter Try.func3, Try.ntmps3
  go_wp2_with fail
  try rw [hW]
  clear hW
  refine (alive_c W).mono ?_
  rintro e w1 ⟨rfl, hb1⟩
  have bx1 := bx.on hb1 bx.lt
  have hb01 := hbW.trans (hb1.mono hbW.size)
  clear bx hbW hb1
  obtain ⟨d0, d1, d2⟩ := bx1.cells
  by_cases hbig : (9000 : Int) < (n : Int)
  · go_wp2_with fail
    go_ret
    exact ⟨rfl, hb01⟩
  by_cases hbig2 : (9000 : Int) < (nr : Int)
  · go_wp2_with fail
    go_ret
    exact ⟨rfl, hb01⟩
  go_wp2_with fail
  refine (right_c A n c s r w1).mono ?_
  rintro e w2 ⟨rfl, hb2⟩
  have bx2 := bx1.on hb2 bx1.lt
  have hb02 := hb01.trans (hb2.mono hb01.size)
  clear bx1 hb01 hb2 d0 d1 d2
  cases hright : rightB n s r with
  | false =>
    clear hright
    go_wp2_with fail
    go_ret
    exact ⟨rfl, hb02⟩
  | true =>
    obtain ⟨s', r', rfl, rfl, hs, hr, hr2⟩ := right_of hright
    clear hright
    obtain ⟨d0, d1, d2⟩ := bx2.cells
    go_wp2_with fail
    refine (append_d A n c r' s' bs Ar nr cr rs w2 (hb.on hb02) (hrb.on hb02) (by omega) (by omega)).mono ?_
    rintro e w3 ⟨A3, n3, c3, rfl, hx3, hb3⟩
    have bx3 := bx2.on hb3 bx2.lt
    have hb03 := hb02.trans (hb3.mono hb02.size)
    clear bx2 hb02 hb3 d0 d1 d2
    obtain ⟨E, hE⟩ : ∃ E, eA n r' rs = E := ⟨_, rfl⟩
    have HE := Lib.hid hE
    rw [hE]
    clear hE
    obtain ⟨d0, d1, d2⟩ := (bx3.alloc (.cells #[.slice A3 n3 c3, .int .i64 s', .int .i64 r'] 28)).cells
    go_wp2_with fail
    obtain ⟨W4, hW4, ax4, hbW4⟩ := boxed w3 28 A3 n3 c3 s' r'
    rw [hW4]
    have bx4 := bx3.on hbW4 bx3.lt
    have hx4 := hx3.on hbW4
    have hb04 := hb03.trans (hbW4.mono hb03.size)
    clear hW4 bx3 hx3 hb03 hbW4 d0 d1 d2
    generalize w3.heap.size = x at *
    refine (append_r A n c r' s' bs Ar nr cr rs W4 (hb.on hb04) (hrb.on hb04) (by omega) (by omega)).mono ?_
    rw [HE.out]
    rintro e w5 ⟨A5, n5, c5, rfl, hx5, hb5⟩
    have bx5 := bx4.on hb5 bx4.lt
    have ax5 := ax4.on hb5 ax4.lt
    have hx45 := hx4.on hb5
    have hb05 := hb04.trans (hb5.mono hb04.size)
    clear bx4 ax4 hx4 hb04 hb5
    obtain ⟨d0, d1, d2⟩ := (bx5.alloc (.cells #[.slice A5 n5 c5, .int .i64 s', .int .i64 r'] 24)).cells
    go_wp2_with fail
    obtain ⟨W6, hW6, by6, hbW6⟩ := boxed w5 24 A5 n5 c5 s' r'
    rw [hW6]
    have bx6 := bx5.on hbW6 bx5.lt
    have ax6 := ax5.on hbW6 ax5.lt
    have hx6 := hx45.on hbW6
    have hy6 := hx5.on hbW6
    have hb06 := hb05.trans (hbW6.mono hb05.size)
    clear hW6 bx5 ax5 hx45 hx5 hb05 hbW6 d0 d1 d2
    generalize w5.heap.size = y at *
    refine (records_d A n c s' r' bs W6 (hb.on hb06) (by omega)).mono ?_
    rintro e w7 h7
    obtain ⟨A7, n7, c7, rfl, hl7, hb7⟩ := h7.toA
    have bx7 := bx6.on hb7 bx6.lt
    have ax7 := ax6.on hb7 ax6.lt
    have by7 := by6.on hb7 by6.lt
    have hx7 := hx6.on hb7
    have hy7 := hy6.on hb7
    have hb07 := hb06.trans (hb7.mono hb06.size)
    clear bx6 ax6 by6 hx6 hy6 hb06 hb7 h7
    obtain ⟨d0, d1, d2⟩ := bx7.cells
    obtain ⟨Z, hZ⟩ : ∃ Z, aN bs = Z := ⟨_, rfl⟩
    have HZ := Lib.hid hZ
    rw [hZ]
    clear hZ
    go_wp2_with fail
    refine (all_r A n c bs w7 (hb.on hb07) (by omega)).mono ?_
    rintro e w8 ⟨A8, n8, c8, he8, hl8, hb8⟩
    rw [HZ.out] at he8
    subst he8
    have bx8 := bx7.on hb8 bx7.lt
    have ax8 := ax7.on hb8 ax7.lt
    have by8 := by7.on hb8 by7.lt
    have hx8 := hx7.on hb8
    have hy8 := hy7.on hb8
    have hl78 := hl7.on hb8
    have hb08 := hb07.trans (hb8.mono hb07.size)
    obtain rfl : n7 = n8 := by rw [← hl8.1, ← hl78.1]
    clear bx7 ax7 by7 hx7 hy7 hb07 hb8 hl7 d0 d1 d2
    have hEE : ((E : Int) == (E : Int)) = true := beq_self_eq_true _
    have hZZ : ((Z : Int) == (Z : Int)) = true := beq_self_eq_true _
    have t8 : Trio w8 x y w.heap.size A3 n3 c3 A5 n5 c5 A n c s' r' := ⟨ax8, by8, bx8⟩
    obtain ⟨K, hKe⟩ : ∃ K, kC n s' kp = K := ⟨_, rfl⟩
    have HKe := Lib.hid hKe
    obtain ⟨M, hM⟩ : ∃ M, min s' Z = M := ⟨_, rfl⟩
    have HM := Lib.hid hM
    have hn6 : n ≤ 1000000 := by omega
    clear hKe hM bx8 ax8 by8 hbig2 hnm hrm
    go_wp2_with fail
    go_region_held3 (fun W' => (W'.cell? ⟨x, 0, none⟩ = some (.slice A3 n3 c3) ∧ W'.cell? ⟨x, 1, none⟩ = some (.int .i64 s') ∧ W'.cell? ⟨x, 2, none⟩ = some (.int .i64 r')) ∧ (W'.cell? ⟨y, 0, none⟩ = some (.slice A5 n5 c5) ∧ W'.cell? ⟨y, 1, none⟩ = some (.int .i64 s') ∧ W'.cell? ⟨y, 2, none⟩ = some (.int .i64 r')) ∧ (W'.cell? ⟨w.heap.size, 0, none⟩ = some (.slice A n c) ∧ W'.cell? ⟨w.heap.size, 1, none⟩ = some (.int .i64 s') ∧ W'.cell? ⟨w.heap.size, 2, none⟩ = some (.int .i64 r')))
      (first | exact t8.cells | exact t9.cells | exact t10.cells | exact t11.cells | exact t12.cells | exact t13.cells | exact t14.cells | exact t15.cells | exact t16.cells | exact t17.cells | exact t18.cells | exact t19.cells) (first
      | (go_at_call 15; (with_reducible refine (same_d A3 A5 n3 c3 n5 c5 s' r' _ w8.drew hx8.drewS hy8.drewS).mono ?_); rintro e9 w9 ⟨rfl, hb9⟩; have t9 := t8.drew.on hb9; have b9 := hb08.trans ((below_drew hb9).mono hb08.size); have l9 := hl78.drewS.on hb9; have m9 := hl8.drewS.on hb9)
      | (go_at_call 16; (with_reducible refine (same_yes A7 A8 n7 c7 c8 _ w9 l9 m9).mono ?_); rintro e10 w10 ⟨rfl, hb10⟩; have t10 := t9.on hb10; have b10 := b9.trans (hb10.mono b9.size); have d10 := hb.on b10)
      | (go_at_call 17; (with_reducible refine (sync_d A n c s' r' bs w10 d10 hn6).mono ?_); rintro e11 w11 ⟨A11, c11, rfl, hx11, hb11⟩; have t11 := t10.on hb11; have b11 := b10.trans (hb11.mono b10.size); have d11 := hb.on b11)
      | (go_at_call 18; (with_reducible refine (sync_r A n c s' r' bs w11 d11).mono ?_); rintro e12 w12 ⟨A12, c12, rfl, hx12, hb12⟩; have t12 := t11.on hb12; have b12 := b11.trans (hb12.mono b11.size); have z12 := hx11.on hb12)
      | (go_at_call 15; (with_reducible refine (same_d A11 A12 n c11 n c12 n r' bs w12 z12 hx12).mono ?_); rintro e13 w13 ⟨rfl, hb13⟩; have t13 := t12.on hb13; have b13 := b12.trans (hb13.mono b12.size); have d13 := hb.on b13)
      | (go_at_call 19; (with_reducible refine (crash_d A n c s' kp r' bs w13 d13 hn6 hs hkp).mono ?_); rw [HKe.out]; rintro e14 w14 ⟨A14, c14, rfl, hx14, hb14⟩; have t14 := t13.on hb14; have b14 := b13.trans (hb14.mono b13.size); have d14 := hb.on b14)
      | (go_at_call 20; (with_reducible refine (crash_r A n c s' kp r' bs w14 d14 hn6 hs hkp).mono ?_); rw [HKe.out]; rintro e15 w15 ⟨A15, c15, rfl, hx15, hb15⟩; have t15 := t14.on hb15; have b15 := b14.trans (hb15.mono b14.size); have z15 := hx14.on hb15)
      | (go_at_call 15; (with_reducible refine (same_d A14 A15 K c14 K c15 K r' _ w15 z15 hx15).mono ?_); rintro e16 w16 ⟨rfl, hb16⟩; have t16 := t15.on hb16; have b16 := b15.trans (hb16.mono b15.size); have d16 := hb.on b16)
      | (go_at_call 21; (with_reducible refine (repair_d A n c s' r' bs w16 d16 hn6).mono ?_); rw [HZ.out, HM.out]; rintro e17 w17 ⟨A17, c17, rfl, hx17, hb17⟩; have t17 := t16.on hb17; have b17 := b16.trans (hb17.mono b16.size); have d17 := hb.on b17)
      | (go_at_call 22; (with_reducible refine (repair_r A n c s' r' bs w17 d17 hn6).mono ?_); rw [HZ.out, HM.out]; rintro e18 w18 ⟨A18, c18, rfl, hx18, hb18⟩; have t18 := t17.on hb18; have b18 := b17.trans (hb18.mono b17.size); have z18 := hx17.on hb18)
      | (go_at_call 15; (with_reducible refine (same_d A17 A18 Z c17 Z c18 M r' _ w18 z18 hx18).mono ?_); rintro e19 w19 ⟨rfl, hb19⟩; have t19 := t18.on hb19; have b19 := b18.trans (hb19.mono b18.size)))
    go_wp2_with fail
    go_ret
    exact ⟨rfl, b19⟩
end Go.Proofs.Ytdelllkgllfcdaa
