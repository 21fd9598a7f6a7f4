/-
  The walk of PartRow: it returns true. Condition: the acts can be read.
-/
import Derived.Test.YtmbmbodcmobllaaPtO
import Derived.Test.YtmbmbodcmobllaaPtV
import Derived.Test.YtmbmbodcmobllaaPtW
import Derived.Deep.CutRange
import Derived.Deep.RegionHeld3
set_option linter.unusedVariables false
set_option linter.unusedSimpArgs false
namespace Go.Proofs.Ytmbmbodcmobllaa
open Go.RowKit

set_option maxRecDepth 100000 in
set_option maxHeartbeats 4000000 in
theorem row_walk (A : Option Addr) (n c : Nat) (L : List Ac) (w : World) (h : RR w ac 5 A n c L) :
    Calls Try.prog 4 #[.slice A n c] w fun e w' => e = .returned (.bool true) ∧ Below w.heap.size w w' := by
  have hc := alive_c w
  have hmx : n ≤ maxLen := Nat.le_trans h.cap h.max
  simp only [maxLen] at hmx
  go_enter Try.func4, Try.ntmps4
  go_wp2_with fail
  refine hc.mono ?_
  rintro e w1 ⟨rfl, b1⟩
  obtain ⟨W, hW⟩ : ∃ W, (w1.alloc (.cells #[.int .i64 0, .slice none 0 0, .bool false, .int .i64 0] 30)).alloc (.cells #[.int .i64 0, .slice none 0 0, .bool false, .int .i64 0] 24) = W := ⟨_, rfl⟩
  have hp : PB W w1.heap.size 30 0 none 0 0 false 0 := by rw [← hW]; exact (PB.new w1 30 0 none 0 0 false 0).alloc _
  have hm : PB W (w1.heap.size + 1) 24 0 none 0 0 false 0 := by
    rw [← hW]
    have := PB.new (w1.alloc (.cells #[.int .i64 0, .slice none 0 0, .bool false, .int .i64 0] 30)) 24 0 none 0 0 false 0
    simpa using this
  have bW : Below w1.heap.size w1 W := by rw [← hW]; exact bel2 (belA _ _) (belA _ _)
  have hb := bel2 b1 bW
  have hsz := b1.size
  have HW := Lib.hid hW
  clear hW hc b1 bW
  go_upto_region 5 with fail
  rw [HW.out]
  go_wp2_with fail
  go_loopw [5] (fun v wr => ∃ (j : Nat) (s : Int) (A1 : Option Addr) (n1 c1 : Nat) (l : Bool) (o : Int) (M : List Dl) (A2 : Option Addr) (c2 : Nat), j ≤ n ∧ j ≤ 80 ∧ v = .int .i64 j ∧ PB wr w1.heap.size 30 s A1 n1 c1 l o ∧ PB wr (w1.heap.size + 1) 24 s A2 n1 c2 l o ∧ DR wr A1 n1 c1 M ∧ DR wr A2 n1 c2 M ∧ okP ⟨s, M, l, o⟩ = true ∧ Below w.heap.size w wr) (fun v _ => n - (intOf v).toNat)
  case atStart => exact ⟨0, 0, none, 0, 0, false, 0, [], none, 0, by omega, by omega, rfl, hp, hm, RR.nil _ _ _, RR.nil _ _ _, by decide, hb⟩
  case round =>
    clear hp hm hb HW
    obtain ⟨j, s, A1, n1, c1, l, o, M, A2, c2, hj, hj80, rfl, hp, hm, hd, hd2, hok, hb⟩ := hrel
    have Hok := Lib.hid hok
    have hn1 : n1 ≤ 1000 := by have := ok_len hok; rw [show (⟨s, M, l, o⟩ : Pt).ad.length = n1 from hd.len] at this; omega
    clear hok
    by_cases hlt : j < n ∧ j < 80
    · obtain ⟨hlt1, hlt2⟩ := hlt
      have q1 : (j : Int) < (n : Int) := by omega
      have q2 : (j : Int) < 80 := by omega
      have q1b : decide ((j : Int) < (n : Int)) = true := by simp; omega
      have q2b : decide ((j : Int) < 80) = true := by simp; omega
      obtain ⟨g, off, x, hx, rfl, x0, x1, x2, x3, x4⟩ := act_at (h.on hb) hlt1
      obtain ⟨cp0, cp1, cp2, cp3⟩ := hp.cells
      obtain ⟨cm0, cm1, cm2, cm3⟩ := hm.cells
      have Hc := Lib.hid (And.intro hp.cells (And.intro hm.cells (And.intro x0 (And.intro x1 (And.intro x2 (And.intro x3 x4))))))
      have HC := Lib.hid (fun U (b : Below wr.heap.size wr U) => (show (U.cell? ⟨w1.heap.size, 0, none⟩ = some (.int .i64 s) ∧ U.cell? ⟨w1.heap.size, 1, none⟩ = some (.slice A1 n1 c1) ∧ U.cell? ⟨w1.heap.size, 2, none⟩ = some (.bool l) ∧ U.cell? ⟨w1.heap.size, 3, none⟩ = some (.int .i64 o)) ∧ (U.cell? ⟨(w1.heap.size + 1), 0, none⟩ = some (.int .i64 s) ∧ U.cell? ⟨(w1.heap.size + 1), 1, none⟩ = some (.slice A2 n1 c2) ∧ U.cell? ⟨(w1.heap.size + 1), 2, none⟩ = some (.bool l) ∧ U.cell? ⟨(w1.heap.size + 1), 3, none⟩ = some (.int .i64 o)) ∧ (U.cell? ⟨g, off + j * 5, none⟩ = some (.int .u8 x.kd) ∧ U.cell? ⟨g, off + j * 5 + 1, none⟩ = some (.int .u8 x.dk) ∧ U.cell? ⟨g, off + j * 5 + 2, none⟩ = some (.int .i64 x.db) ∧ U.cell? ⟨g, off + j * 5 + 3, none⟩ = some (.bool x.y) ∧ U.cell? ⟨g, off + j * 5 + 4, none⟩ = some (.int .i64 x.u)) from ⟨(hp.on b).cells, (hm.on b).cells, cell_on b x0, cell_on b x1, cell_on b x2, cell_on b x3, cell_on b x4⟩))
      have HD := Lib.hid (fun V (b : Below wr.heap.size wr V) => does_c s A1 n1 c1 l o M A2 n1 c2 x V (hd.on b) hn1 (hd2.on b))
      obtain ⟨y, hy⟩ : ∃ y, stp ⟨s, M, l, o⟩ x = y := ⟨_, rfl⟩
      rw [hy] at HD
      have hok2 := ok_stp x Hok.out
      rw [hy] at hok2
      have Hok2 := Lib.hid hok2
      clear hok2 hy
      go_upto_region 8 with fail
      go_cut [6, 7, 8, 9] from 12 to 48 (fun s6 s7 _ s9 wx => ∃ (bx by_ : Nat) (A3 : Option Addr) (n3 c3 : Nat) (A4 : Option Addr) (c4 : Nat), s6 = .pointer (some ⟨bx, 0, none⟩) ∧ s7 = .pointer (some ⟨by_, 0, none⟩) ∧ s9 = .bool true ∧ PB wx bx 30 y.st A3 n3 c3 y.lo y.ou ∧ PB wx by_ 24 y.st A4 n3 c4 y.lo y.ou ∧ DR wx A3 n3 c3 y.ad ∧ DR wx A4 n3 c4 y.ad ∧ Below wr.heap.size wr wx)
      case first =>
        go_region_held3 (fun W' => (W'.cell? ⟨w1.heap.size, 0, none⟩ = some (.int .i64 s) ∧ W'.cell? ⟨w1.heap.size, 1, none⟩ = some (.slice A1 n1 c1) ∧ W'.cell? ⟨w1.heap.size, 2, none⟩ = some (.bool l) ∧ W'.cell? ⟨w1.heap.size, 3, none⟩ = some (.int .i64 o)) ∧ (W'.cell? ⟨(w1.heap.size + 1), 0, none⟩ = some (.int .i64 s) ∧ W'.cell? ⟨(w1.heap.size + 1), 1, none⟩ = some (.slice A2 n1 c2) ∧ W'.cell? ⟨(w1.heap.size + 1), 2, none⟩ = some (.bool l) ∧ W'.cell? ⟨(w1.heap.size + 1), 3, none⟩ = some (.int .i64 o)) ∧ (W'.cell? ⟨g, off + j * 5, none⟩ = some (.int .u8 x.kd) ∧ W'.cell? ⟨g, off + j * 5 + 1, none⟩ = some (.int .u8 x.dk) ∧ W'.cell? ⟨g, off + j * 5 + 2, none⟩ = some (.int .i64 x.db) ∧ W'.cell? ⟨g, off + j * 5 + 3, none⟩ = some (.bool x.y) ∧ W'.cell? ⟨g, off + j * 5 + 4, none⟩ = some (.int .i64 x.u))) (first | exact Hc.out | exact HC.out _ t5 | exact HC.out _ ta | exact HC.out _ tc | exact HC.out _ tq | exact HC.out _ (bel2 t5 (belA _ _)) | exact HC.out _ (bel2 t5 (bel2 (belA _ _) (belA _ _))) | exact HC.out _ (belowD (belA _ _)) | exact HC.out _ (belowD (bel2 (belA _ _) (belA _ _))) | exact HC.out _ (belA _ _) | exact HC.out _ (bel2 (belA _ _) (belA _ _))) (first
          | (go_at_call 10; (with_reducible refine (HD.out wr.drew (belowD (Below.refl _ _))).mono ?_); rintro e w5 ⟨A3, n3, c3, y, A4, n4, c4, A5, n5, c5, ok, rfl, e1, e2, e3, b5, _, rfl, rfl⟩; have t5 := below_drew (W := wr) b5; have hs5 : wr.heap.size ≤ w5.heap.size := t5.size)
          | (go_at_call 10; (with_reducible refine (HD.out (wr.alloc (.cells #[.int .i64 0, .slice none 0 0, .bool false, .int .i64 0] 30)).drew (belowD (belA _ _))).mono ?_); rintro e w5 ⟨A3, n3, c3, y, A4, n4, c4, A5, n5, c5, ok, rfl, e1, e2, e3, b5, _, rfl, rfl⟩; obtain ⟨t5, hs5, tq, ⟨⟨c60, c61, c62, c63⟩, f60, f61, f62, f63⟩, Ua, Uc, hUa, ⟨⟨c70, c71, c72, c73⟩, f70, f71, f72, f73⟩, hUc, ta, tc, pX, pY, hdr⟩ := way6 wr w5 y y A3 n3 c3 A4 n4 c4 b5)
          | (go_at_call 10; (with_reducible refine (HD.out (wr.alloc (.cells #[.int .i64 0, .slice none 0 0, .bool false, .int .i64 0] 24)).drew (belowD (belA _ _))).mono ?_); rintro e w5 ⟨A3, n3, c3, y, A4, n4, c4, A5, n5, c5, ok, rfl, e1, e2, e3, b5, _, rfl, rfl⟩; obtain ⟨t5, hs5, ta, ⟨⟨c70, c71, c72, c73⟩, f70, f71, f72, f73⟩, Uc, hUc, tc, pX, pY, hdr⟩ := way7 wr w5 y y A3 n3 c3 A4 n4 c4 b5)
          | (go_at_call 10; (with_reducible refine (HD.out ((wr.alloc (.cells #[.int .i64 0, .slice none 0 0, .bool false, .int .i64 0] 30)).alloc (.cells #[.int .i64 0, .slice none 0 0, .bool false, .int .i64 0] 24)).drew (belowD (bel2 (belA _ _) (belA _ _)))).mono ?_); rintro e w5 ⟨A3, n3, c3, y, A4, n4, c4, A5, n5, c5, ok, rfl, e1, e2, e3, b5, _, rfl, rfl⟩; obtain ⟨t5, hs5, ⟨⟨c60, c61, c62, c63⟩, f60, f61, f62, f63⟩, Ua, Uc, hUa, ⟨⟨c70, c71, c72, c73⟩, f70, f71, f72, f73⟩, hUc, ta, tc, pX, pY, hdr⟩ := way67 wr w5 y y A3 n3 c3 A4 n4 c4 b5)
          | (go_at_call 10; (with_reducible refine (HD.out ((wr.alloc (.cells #[.int .i64 0, .slice none 0 0, .bool false, .int .i64 0] 24)).alloc (.cells #[.int .i64 0, .slice none 0 0, .bool false, .int .i64 0] 30)).drew (belowD (bel2 (belA _ _) (belA _ _)))).mono ?_); rintro e w5 ⟨A3, n3, c3, y, A4, n4, c4, A5, n5, c5, ok, rfl, e1, e2, e3, b5, _, rfl, rfl⟩; obtain ⟨t5, hs5, ⟨⟨c60, c61, c62, c63⟩, f60, f61, f62, f63⟩, Ua, Uc, hUa, ⟨⟨c70, c71, c72, c73⟩, f70, f71, f72, f73⟩, hUc, ta, tc, pX, pY, hdr⟩ := way76 wr w5 y y A3 n3 c3 A4 n4 c4 b5))
        all_goals (obtain rfl : n3 = n4 := e1.len.symm.trans e2.len)
        all_goals (go_wp2_with fail; go_meet; case rel => (first
          | exact ⟨_, _, A3, n3, c3, A4, c4, rfl, rfl, rfl, pX, pY, hdr _ _ _ _ e1, hdr _ _ _ _ e2, tc⟩
          | exact ⟨_, _, A3, n3, c3, A4, c4, rfl, rfl, rfl, (way0a w5 _ _ A3 n3 c3 A4 n3 c4).2.1, (way0a w5 _ _ A3 n3 c3 A4 n3 c4).2.2, e1.on (way0a w5 _ _ A3 n3 c3 A4 n3 c4).1, e2.on (way0a w5 _ _ A3 n3 c3 A4 n3 c4).1, bel2 t5 (way0a w5 _ _ A3 n3 c3 A4 n3 c4).1⟩
          | exact ⟨_, _, A3, n3, c3, A4, c4, rfl, rfl, rfl, (way0b w5 _ _ A3 n3 c3 A4 n3 c4).2.1, (way0b w5 _ _ A3 n3 c3 A4 n3 c4).2.2, e1.on (way0b w5 _ _ A3 n3 c3 A4 n3 c4).1, e2.on (way0b w5 _ _ A3 n3 c3 A4 n3 c4).1, bel2 t5 (way0b w5 _ _ A3 n3 c3 A4 n3 c4).1⟩))
      case rest =>
        obtain ⟨bx, by_, A3, n3, c3, A4, c4, rfl, rfl, rfl, px, py, d3, d4, bc⟩ := hcut
        have Hq := Lib.hid (And.intro hlt1 hlt2)
        have p1 := hp.on bc
        have m1 := hm.on bc
        have l1 := bel2 hb bc
        clear hp hm hd hd2 hb bc HC HD Hc cp0 cp1 cp2 cp3 cm0 cm1 cm2 cm3 x0 x1 x2 x3 x4 h
        have hne := p1.ne py Try.neRP
        obtain ⟨cx0, cx1, cx2, cx3⟩ := px.cells
        obtain ⟨cp0, cp1, cp2, cp3⟩ := p1.cells
        obtain ⟨fp0, fp1, fp2, fp3⟩ := p1.froz
        obtain ⟨V1, hV1, pV1, kV1⟩ := store_end p1 Try.neP y.st A3 n3 c3 y.lo y.ou
        have mV1 : PB V1 (w1.heap.size + 1) 24 s A2 n1 c2 l o := kV1.cb _ _ _ (by omega) m1
        have yV1 : PB V1 by_ 24 y.st A4 n3 c4 y.lo y.ou := kV1.cb _ _ _ hne py
        have d3' := kV1.dr _ _ _ _ d3
        have d4' := kV1.dr _ _ _ _ d4
        have l2 := kV1.low _ _ l1 hsz
        have HV1 := Lib.hid hV1
        clear hV1 kV1 m1 py d3 d4 l1 hne
        go_upto_region 10 with fail
        rw [HV1.out]
        clear cx0 cx1 cx2 cx3 cp0 cp1 cp2 cp3 fp0 fp1 fp2 fp3 p1 px
        obtain ⟨cy0, cy1, cy2, cy3⟩ := yV1.cells
        obtain ⟨cm0, cm1, cm2, cm3⟩ := mV1.cells
        obtain ⟨fm0, fm1, fm2, fm3⟩ := mV1.froz
        obtain ⟨V2, hV2, mV2, kV2⟩ := store_end mV1 Try.neR y.st A4 n3 c4 y.lo y.ou
        have pV2 : PB V2 w1.heap.size 30 y.st A3 n3 c3 y.lo y.ou := kV2.cb _ _ _ (by omega) pV1
        have d3 := kV2.dr _ _ _ _ d3'
        have d4 := kV2.dr _ _ _ _ d4'
        have l3 := kV2.low _ _ l2 (by omega)
        have HV2 := Lib.hid hV2
        clear hV2 kV2 pV1 d3' d4' l2
        go_upto_region 11 with fail
        rw [HV2.out]
        clear cy0 cy1 cy2 cy3 cm0 cm1 cm2 cm3 fm0 fm1 fm2 fm3 yV1 mV1
        obtain ⟨cp0, cp1, cp2, cp3⟩ := pV2.cells
        obtain ⟨cm0, cm1, cm2, cm3⟩ := mV2.cells
        have hc := same_c y.st A3 n3 c3 A4 n3 c4 y.lo y.ou y.ad V2 d3 d4
        go_wp2_with fail
        (with_reducible refine hc.mono ?_)
        rintro e w6 ⟨rfl, b6⟩
        have p6 := pV2.on b6
        have m6 := mV2.on b6
        have d3' := d3.on b6
        have d4' := d4.on b6
        have l4 := bel2 l3 b6
        clear hc cp0 cp1 cp2 cp3 cm0 cm1 cm2 cm3 pV2 mV2 d3 d4 l3 b6
        obtain ⟨cp0, cp1, cp2, cp3⟩ := p6.cells
        have hc := right_c y.st A3 n3 c3 y.lo y.ou y.ad w6 d3'
        rw [show okP ⟨y.st, y.ad, y.lo, y.ou⟩ = true from Hok2.out] at hc
        go_wp2_with fail
        (with_reducible refine hc.mono ?_)
        rintro e w7 ⟨rfl, b7⟩
        have Hn := Lib.hid (show ∃ (s : Int) (A1 : Option Addr) (n1 c1 : Nat) (l : Bool) (o : Int) (M : List Dl) (A2 : Option Addr) (c2 : Nat), PB w7 w1.heap.size 30 s A1 n1 c1 l o ∧ PB w7 (w1.heap.size + 1) 24 s A2 n1 c2 l o ∧ DR w7 A1 n1 c1 M ∧ DR w7 A2 n1 c2 M ∧ okP ⟨s, M, l, o⟩ = true ∧ Below w.heap.size w w7 from ⟨y.st, A3, n3, c3, y.lo, y.ou, y.ad, A4, c4, p6.on b7, m6.on b7, d3'.on b7, d4'.on b7, Hok2.out, bel2 l4 b7⟩)
        clear hc cp0 cp1 cp2 cp3 p6 m6 d3' d4' l4 b7
        go_wp2_with fail
        go_roundw
        case rel => obtain ⟨s, A1, n1, c1, l, o, M, A2, c2, z1, z2, z3, z4, z5, z6⟩ := Hn.out; have := Hq.out; exact ⟨j + 1, s, A1, n1, c1, l, o, M, A2, c2, by omega, by omega, by go_num, z1, z2, z3, z4, z5, z6⟩
        case measure => have := Hq.out; simp [intOf]; omega
    · have Hb := Lib.hid hb
      clear hp hm hd hd2 hb
      by_cases hjn : j < n
      · have q1b : decide ((j : Int) < (n : Int)) = true := by simp; omega
        have q2b : decide ((j : Int) < 80) = false := by simp; omega
        clear hlt
        go_wp2_with fail
        go_ret
        exact ⟨rfl, Hb.out⟩
      · have q1b : decide ((j : Int) < (n : Int)) = false := by simp; omega
        clear hlt
        go_wp2_with fail
        go_ret
        exact ⟨rfl, Hb.out⟩
end Go.Proofs.Ytmbmbodcmobllaa
