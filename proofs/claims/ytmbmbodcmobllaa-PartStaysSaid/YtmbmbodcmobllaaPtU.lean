/-
  The walk of PartStays: it returns true. Condition: the part's deltas and the acts can be read.
-/
import Derived.Test.YtmbmbodcmobllaaPtO
import Derived.Test.YtmbmbodcmobllaaPtL
import Derived.Test.YtmbmbodcmobllaaPtW
import Derived.Test.YtmbmbodcmobllaaPtV
import Derived.Deep.CutRange
import Derived.Deep.RegionHeld3
set_option linter.unusedVariables false
set_option linter.unusedSimpArgs false
namespace Go.Proofs.Ytmbmbodcmobllaa
open Go.RowKit

set_option maxRecDepth 100000 in
set_option maxHeartbeats 8000000 in
theorem stays_walk (s0 : Int) (A0 : Option Addr) (n0 c0 : Nat) (l0 : Bool) (o0 : Int) (L0 : List Dl) (A : Option Addr) (n c : Nat) (L : List Ac) (w : World) (h0 : DR w A0 n0 c0 L0) (h : RR w ac 5 A n c L) :
    Calls Try.prog 6 #[.agg #[.int .i64 s0, .slice A0 n0 c0, .bool l0, .int .i64 o0], .slice A n c] w fun e w' => e = .returned (.bool true) ∧ Below w.heap.size w w' := by
  have hmx : n ≤ maxLen := Nat.le_trans h.cap h.max
  simp only [maxLen] at hmx
  obtain ⟨W, hW⟩ : ∃ W, w.alloc (.cells #[.int .i64 s0, .slice A0 n0 c0, .bool l0, .int .i64 o0] 24) = W := ⟨_, rfl⟩
  have hp : PB W (w.heap.size) 24 s0 A0 n0 c0 l0 o0 := by
    rw [← hW]
    have := (PB.new w 24 s0 A0 n0 c0 l0 o0)
    simpa using this
  have hb : Below w.heap.size w W := by rw [← hW]; exact belA _ _
  have hS := Lib.hid (show W.heap.size = w.heap.size + 1 by rw [← hW]; simp)
  have HW := Lib.hid hW
  clear hW
  clear hS
  have hd := h0.on hb
  have hc := alive_c W
  go_enter Try.func6, Try.ntmps6
  go_upto_region 1 with fail
  rw [HW.out]
  go_wp2_with fail
  refine hc.mono ?_
  rintro e w1 ⟨rfl, b1⟩
  have r1_p := hp.on b1
  have r1_d := hd.on b1
  have l1 := bel2 hb b1
  clear hc b1 hp hd hb
  obtain ⟨cp0, cp1, cp2, cp3⟩ := r1_p.cells
  by_cases hn : 80 < n0
  · have hn1 : decide ((80 : Int) < (n0 : Int)) = true := by simp; omega
    have H := Lib.hid l1
    go_wp2_with fail
    go_ret
    exact ⟨rfl, H.out⟩
  have hn1 : decide ((80 : Int) < (n0 : Int)) = false := by simp; omega
  clear hn
  have hc := rightR_c s0 A0 n0 c0 l0 o0 L0 w1 r1_d
  go_wp2_with fail
  (with_reducible refine hc.mono ?_)
  rintro e w2 ⟨rfl, b2⟩
  clear cp0 cp1 cp2 cp3
  clear hc
  have r2_p := r1_p.on b2
  have r2_d := r1_d.on b2
  have l2 := bel2 l1 b2
  clear b2 r1_p r1_d l1
  obtain ⟨cp0, cp1, cp2, cp3⟩ := r2_p.cells
  cases hok : okP ⟨s0, L0, l0, o0⟩ with
  | false =>
    clear hok
    have H := Lib.hid l2
    go_wp2_with fail
    go_ret
    exact ⟨rfl, H.out⟩
  | true =>
    have Hok0 := Lib.hid hok
    clear hok
    obtain ⟨V, hV⟩ : ∃ V, w2.alloc (.cells #[.int .i64 s0, .slice A0 n0 c0, .bool l0, .int .i64 o0] 30) = V := ⟨_, rfl⟩
    have nV : PB V w2.heap.size 30 s0 A0 n0 c0 l0 o0 := by rw [← hV]; exact PB.new _ _ _ _ _ _ _ _
    have bV : Below w2.heap.size w2 V := by rw [← hV]; exact belA _ _
    have dV := r2_d.on bV
    have lV := bel2 l2 bV
    have hsz := l2.size
    have HV := Lib.hid hV
    clear hV bV r2_d l2 r2_p
    go_upto_region 6 with fail
    rw [HV.out]
    clear cp0 cp1 cp2 cp3
    go_wp2_with fail
    go_loopw [6] (fun v wr => ∃ (j : Nat) (s : Int) (A1 : Option Addr) (n1 c1 : Nat) (l : Bool) (o : Int) (M : List Dl), j ≤ n ∧ j ≤ 80 ∧ v = .int .i64 j ∧ PB wr w2.heap.size 30 s A1 n1 c1 l o ∧ DR wr A1 n1 c1 M ∧ okP ⟨s, M, l, o⟩ = true ∧ Below w.heap.size w wr) (fun v _ => n - (intOf v).toNat)
    case atStart => exact ⟨0, s0, A0, n0, c0, l0, o0, L0, by omega, by omega, rfl, nV, dV, Hok0.out, lV⟩
    case round =>
      clear nV dV lV HV
      obtain ⟨j, s, A1, n1, c1, l, o, M, hj, hj80, rfl, hp, hd, hok, hb⟩ := hrel
      have Hok := Lib.hid hok
      have hn1' : n1 ≤ 1000 := by have := ok_len hok; rw [show (⟨s, M, l, o⟩ : Pt).ad.length = n1 from hd.len] at this; omega
      have hn1 := hn1'
      clear hok hn1'
      by_cases hlt : j < n ∧ j < 80
      · obtain ⟨hlt1, hlt2⟩ := hlt
        have q1b : decide ((j : Int) < (n : Int)) = true := by simp; omega
        have q2b : decide ((j : Int) < 80) = true := by simp; omega
        have q1 : (j : Int) < (n : Int) := by omega
        obtain ⟨g, off, x, hx, rfl, x0, x1, x2, x3, x4⟩ := act_at (h.on hb) hlt1
        obtain ⟨cp0, cp1, cp2, cp3⟩ := hp.cells
        obtain ⟨X, hX⟩ : ∃ X, stp ⟨s, M, l, o⟩ x = X := ⟨_, rfl⟩
        obtain ⟨D, hD⟩ : ∃ D, chg ⟨s, M, l, o⟩ x = D := ⟨_, rfl⟩
        have hok2 := ok_stp x Hok.out
        rw [hX] at hok2
        have Hok2 := Lib.hid hok2
        have hou := stp_out x Hok.out
        rw [hX] at hou
        have Hou := Lib.hid hou
        have Hdone := Lib.hid (fun (h3 : s = 3) => (show X = ⟨s, M, l, o⟩ ∧ D = [] from by have := stp_done (p := ⟨s, M, l, o⟩) x h3; rw [hX, hD] at this; exact this))
        clear hok2 hou
        have Hc := Lib.hid (And.intro hp.cells (And.intro x0 (And.intro x1 (And.intro x2 (And.intro x3 x4)))))
        have HC := Lib.hid (fun U (b : Below wr.heap.size wr U) => (show (U.cell? ⟨w2.heap.size, 0, none⟩ = some (.int .i64 s) ∧ U.cell? ⟨w2.heap.size, 1, none⟩ = some (.slice A1 n1 c1) ∧ U.cell? ⟨w2.heap.size, 2, none⟩ = some (.bool l) ∧ U.cell? ⟨w2.heap.size, 3, none⟩ = some (.int .i64 o)) ∧ (U.cell? ⟨g, off + j * 5, none⟩ = some (.int .u8 x.kd) ∧ U.cell? ⟨g, off + j * 5 + 1, none⟩ = some (.int .u8 x.dk) ∧ U.cell? ⟨g, off + j * 5 + 2, none⟩ = some (.int .i64 x.db) ∧ U.cell? ⟨g, off + j * 5 + 3, none⟩ = some (.bool x.y) ∧ U.cell? ⟨g, off + j * 5 + 4, none⟩ = some (.int .i64 x.u)) from ⟨(hp.on b).cells, cell_on b x0, cell_on b x1, cell_on b x2, cell_on b x3, cell_on b x4⟩))
        have HD := Lib.hid (fun V (b : Below wr.heap.size wr V) => does0_c s A1 n1 c1 l o M x V (hd.on b) hn1)
        rw [hX, hD] at HD
        go_upto_region 9 with fail
        go_cut [7, 8, 9, 10] from 23 to 85 (fun sx _ sd _ wx => ∃ (bx : Nat) (A3 : Option Addr) (n3 c3 : Nat) (A5 : Option Addr) (n5 c5 : Nat), sx = .pointer (some ⟨bx, 0, none⟩) ∧ sd = .slice A5 n5 c5 ∧ PB wx bx 30 X.st A3 n3 c3 X.lo X.ou ∧ DR wx A3 n3 c3 X.ad ∧ DR wx A5 n5 c5 D ∧ Below wr.heap.size wr wx ∧ Fr wr.heap.size A3 n3)
        case first =>
          go_region_held3 (fun W' => (W'.cell? ⟨w2.heap.size, 0, none⟩ = some (.int .i64 s) ∧ W'.cell? ⟨w2.heap.size, 1, none⟩ = some (.slice A1 n1 c1) ∧ W'.cell? ⟨w2.heap.size, 2, none⟩ = some (.bool l) ∧ W'.cell? ⟨w2.heap.size, 3, none⟩ = some (.int .i64 o)) ∧ (W'.cell? ⟨g, off + j * 5, none⟩ = some (.int .u8 x.kd) ∧ W'.cell? ⟨g, off + j * 5 + 1, none⟩ = some (.int .u8 x.dk) ∧ W'.cell? ⟨g, off + j * 5 + 2, none⟩ = some (.int .i64 x.db) ∧ W'.cell? ⟨g, off + j * 5 + 3, none⟩ = some (.bool x.y) ∧ W'.cell? ⟨g, off + j * 5 + 4, none⟩ = some (.int .i64 x.u))) (first | exact Hc.out | exact HC.out _ t5 | exact HC.out _ ta | exact HC.out _ tc | exact HC.out _ tq | exact HC.out _ (bel2 t5 (belA _ _)) | exact HC.out _ (bel2 t5 (bel2 (belA _ _) (belA _ _))) | exact HC.out _ (belowD (belA _ _)) | exact HC.out _ (belowD (bel2 (belA _ _) (belA _ _))) | exact HC.out _ (belA _ _) | exact HC.out _ (bel2 (belA _ _) (belA _ _))) (first
            | (go_at_call 10; (with_reducible refine (HD.out wr.drew (belowD (Below.refl _ _))).mono ?_); rintro e w5 ⟨A3, n3, c3, y5, A4, n4, c4, A5, n5, c5, ok5, rfl, e1, e2, e3, b5, fr5, _⟩; have t5 := below_drew (W := wr) b5; have hs5 : wr.heap.size ≤ w5.heap.size := t5.size; have fr := fr5.mono (B' := wr.heap.size) (Nat.le_refl _))
            | (go_at_call 10; (with_reducible refine (HD.out (wr.alloc (.cells #[.int .i64 0, .slice none 0 0, .bool false, .int .i64 0] 30)).drew (belowD (belA _ _))).mono ?_); rintro e w5 ⟨A3, n3, c3, y5, A4, n4, c4, A5, n5, c5, ok5, rfl, e1, e2, e3, b5, fr5, _⟩; obtain ⟨t5, hs5, tq, ⟨⟨c60, c61, c62, c63⟩, f60, f61, f62, f63⟩, Ua, Uc, hUa, ⟨⟨c70, c71, c72, c73⟩, f70, f71, f72, f73⟩, hUc, ta, tc, pX, pY, hdr⟩ := way6 wr w5 X y5 A3 n3 c3 A4 n4 c4 b5; have fr := fr5.mono (B' := wr.heap.size) ((belA _ _).size))
            | (go_at_call 10; (with_reducible refine (HD.out (wr.alloc (.cells #[.int .i64 0, .slice none 0 0, .bool false, .int .i64 0] 24)).drew (belowD (belA _ _))).mono ?_); rintro e w5 ⟨A3, n3, c3, y5, A4, n4, c4, A5, n5, c5, ok5, rfl, e1, e2, e3, b5, fr5, _⟩; obtain ⟨t5, hs5, ta, ⟨⟨c70, c71, c72, c73⟩, f70, f71, f72, f73⟩, Uc, hUc, tc, pX, pY, hdr⟩ := way7 wr w5 X y5 A3 n3 c3 A4 n4 c4 b5; have fr := fr5.mono (B' := wr.heap.size) ((belA _ _).size))
            | (go_at_call 10; (with_reducible refine (HD.out ((wr.alloc (.cells #[.int .i64 0, .slice none 0 0, .bool false, .int .i64 0] 30)).alloc (.cells #[.int .i64 0, .slice none 0 0, .bool false, .int .i64 0] 24)).drew (belowD (bel2 (belA _ _) (belA _ _)))).mono ?_); rintro e w5 ⟨A3, n3, c3, y5, A4, n4, c4, A5, n5, c5, ok5, rfl, e1, e2, e3, b5, fr5, _⟩; obtain ⟨t5, hs5, ⟨⟨c60, c61, c62, c63⟩, f60, f61, f62, f63⟩, Ua, Uc, hUa, ⟨⟨c70, c71, c72, c73⟩, f70, f71, f72, f73⟩, hUc, ta, tc, pX, pY, hdr⟩ := way67 wr w5 X y5 A3 n3 c3 A4 n4 c4 b5; have fr := fr5.mono (B' := wr.heap.size) ((bel2 (belA _ _) (belA _ _)).size))
            | (go_at_call 10; (with_reducible refine (HD.out ((wr.alloc (.cells #[.int .i64 0, .slice none 0 0, .bool false, .int .i64 0] 24)).alloc (.cells #[.int .i64 0, .slice none 0 0, .bool false, .int .i64 0] 30)).drew (belowD (bel2 (belA _ _) (belA _ _)))).mono ?_); rintro e w5 ⟨A3, n3, c3, y5, A4, n4, c4, A5, n5, c5, ok5, rfl, e1, e2, e3, b5, fr5, _⟩; obtain ⟨t5, hs5, ⟨⟨c60, c61, c62, c63⟩, f60, f61, f62, f63⟩, Ua, Uc, hUa, ⟨⟨c70, c71, c72, c73⟩, f70, f71, f72, f73⟩, hUc, ta, tc, pX, pY, hdr⟩ := way76 wr w5 X y5 A3 n3 c3 A4 n4 c4 b5; have fr := fr5.mono (B' := wr.heap.size) ((bel2 (belA _ _) (belA _ _)).size)))
          all_goals (go_wp2_with fail; go_meet; case rel => (first
            | exact ⟨_, A3, n3, c3, A5, n5, c5, rfl, rfl, pX, hdr _ _ _ _ e1, hdr _ _ _ _ e3, tc, fr⟩
            | exact ⟨_, A3, n3, c3, A5, n5, c5, rfl, rfl, (way0a w5 X y5 A3 n3 c3 A4 n4 c4).2.1, e1.on (way0a w5 X y5 A3 n3 c3 A4 n4 c4).1, e3.on (way0a w5 X y5 A3 n3 c3 A4 n4 c4).1, bel2 t5 (way0a w5 X y5 A3 n3 c3 A4 n4 c4).1, fr⟩
            | exact ⟨_, A3, n3, c3, A5, n5, c5, rfl, rfl, (way0b w5 X y5 A3 n3 c3 A4 n4 c4).2.1, e1.on (way0b w5 X y5 A3 n3 c3 A4 n4 c4).1, e3.on (way0b w5 X y5 A3 n3 c3 A4 n4 c4).1, bel2 t5 (way0b w5 X y5 A3 n3 c3 A4 n4 c4).1, fr⟩))
        case rest =>
          obtain ⟨bx, A3, n3, c3, A5, n5, c5, rfl, rfl, px, d3, d5, bc, _⟩ := hcut
          have Hq := Lib.hid (And.intro hlt1 hlt2)
          have p1 := hp.on bc
          have d1 := hd.on bc
          have l1 := bel2 hb bc
          clear hp hd hb bc HC HD Hc cp0 cp1 cp2 cp3 x0 x1 x2 x3 x4 h hX hD
          obtain ⟨cx0, cx1, cx2, cx3⟩ := px.cells
          obtain ⟨cp0, cp1, cp2, cp3⟩ := p1.cells
          obtain ⟨fp0, fp1, fp2, fp3⟩ := p1.froz
          have hs : s = 0 ∨ s = 1 ∨ s = 2 ∨ s = 3 := ok_st Hok.out
          rcases hs with rfl | rfl | rfl | rfl
          · have h1 : (X.ou == 1) = false := by
              have ht : X.ou = 1 → o = 1 ∨ (0 : Int) = 1 := Hou.out.1
              have ho : o = 0 := ok_ou0 Hok.out (show (0 : Int) ≠ 3 by omega)
              simp
              intro k
              have := ht k
              omega
            obtain ⟨V1, hV1, pV1, kV1⟩ := store_end p1 Try.neP X.st A3 n3 c3 X.lo X.ou
            have Hn := Lib.hid (show ∃ (s : Int) (A1 : Option Addr) (n1 c1 : Nat) (l : Bool) (o : Int) (M : List Dl), PB V1 w2.heap.size 30 s A1 n1 c1 l o ∧ DR V1 A1 n1 c1 M ∧ okP ⟨s, M, l, o⟩ = true ∧ Below w.heap.size w V1 from ⟨X.st, A3, n3, c3, X.lo, X.ou, X.ad, pV1, kV1.dr _ _ _ _ d3, Hok2.out, kV1.low _ _ l1 hsz⟩)
            have HV1 := Lib.hid hV1
            clear hV1 kV1 pV1 Hou Hdone
            go_wp2_with fail
            rw [HV1.out]
            go_wp2_with fail
            go_roundw
            case rel => obtain ⟨s, A1, n1, c1, l, o, M, z⟩ := Hn.out; have := Hq.out; exact ⟨j + 1, s, A1, n1, c1, l, o, M, by omega, by omega, by go_num, z⟩
            case measure => have := Hq.out; simp [intOf]; omega
          · have ho : o = 0 := ok_ou0 Hok.out (show (1 : Int) ≠ 3 by omega)
            subst ho
            by_cases h1 : X.ou = 1
            · have h1a : (X.ou == 1) = true := by simp [h1]
              clear h1
              obtain ⟨V1, hV1, pV1, kV1⟩ := store_end p1 Try.neP X.st A3 n3 c3 X.lo X.ou
              have Hn := Lib.hid (show ∃ (s : Int) (A1 : Option Addr) (n1 c1 : Nat) (l : Bool) (o : Int) (M : List Dl), PB V1 w2.heap.size 30 s A1 n1 c1 l o ∧ DR V1 A1 n1 c1 M ∧ okP ⟨s, M, l, o⟩ = true ∧ Below w.heap.size w V1 from ⟨X.st, A3, n3, c3, X.lo, X.ou, X.ad, pV1, kV1.dr _ _ _ _ d3, Hok2.out, kV1.low _ _ l1 hsz⟩)
              have HV1 := Lib.hid hV1
              clear hV1 kV1 pV1 Hou Hdone
              go_wp2_with fail
              rw [HV1.out]
              go_wp2_with fail
              go_roundw
              case rel => obtain ⟨s, A1, n1, c1, l, o, M, z⟩ := Hn.out; have := Hq.out; exact ⟨j + 1, s, A1, n1, c1, l, o, M, by omega, by omega, by go_num, z⟩
              case measure => have := Hq.out; simp [intOf]; omega
            · have h1a : (X.ou == 1) = false := by simp [h1]
              clear h1
              obtain ⟨V1, hV1, pV1, kV1⟩ := store_end p1 Try.neP X.st A3 n3 c3 X.lo X.ou
              have Hn := Lib.hid (show ∃ (s : Int) (A1 : Option Addr) (n1 c1 : Nat) (l : Bool) (o : Int) (M : List Dl), PB V1 w2.heap.size 30 s A1 n1 c1 l o ∧ DR V1 A1 n1 c1 M ∧ okP ⟨s, M, l, o⟩ = true ∧ Below w.heap.size w V1 from ⟨X.st, A3, n3, c3, X.lo, X.ou, X.ad, pV1, kV1.dr _ _ _ _ d3, Hok2.out, kV1.low _ _ l1 hsz⟩)
              have HV1 := Lib.hid hV1
              clear hV1 kV1 pV1 Hou Hdone
              go_wp2_with fail
              rw [HV1.out]
              go_wp2_with fail
              go_roundw
              case rel => obtain ⟨s, A1, n1, c1, l, o, M, z⟩ := Hn.out; have := Hq.out; exact ⟨j + 1, s, A1, n1, c1, l, o, M, by omega, by omega, by go_num, z⟩
              case measure => have := Hq.out; simp [intOf]; omega
          · have h1 : (X.ou == 1) = false := by
              have ht : X.ou = 1 → o = 1 ∨ (2 : Int) = 1 := Hou.out.1
              have ho : o = 0 := ok_ou0 Hok.out (show (2 : Int) ≠ 3 by omega)
              simp
              intro k
              have := ht k
              omega
            by_cases h2 : X.st = 2
            · have h2a : (X.st != 2) = false := by simp [h2]
              clear h2
              obtain ⟨V1, hV1, pV1, kV1⟩ := store_end p1 Try.neP X.st A3 n3 c3 X.lo X.ou
              have Hn := Lib.hid (show ∃ (s : Int) (A1 : Option Addr) (n1 c1 : Nat) (l : Bool) (o : Int) (M : List Dl), PB V1 w2.heap.size 30 s A1 n1 c1 l o ∧ DR V1 A1 n1 c1 M ∧ okP ⟨s, M, l, o⟩ = true ∧ Below w.heap.size w V1 from ⟨X.st, A3, n3, c3, X.lo, X.ou, X.ad, pV1, kV1.dr _ _ _ _ d3, Hok2.out, kV1.low _ _ l1 hsz⟩)
              have HV1 := Lib.hid hV1
              clear hV1 kV1 pV1 Hou Hdone
              go_wp2_with fail
              rw [HV1.out]
              go_wp2_with fail
              go_roundw
              case rel => obtain ⟨s, A1, n1, c1, l, o, M, z⟩ := Hn.out; have := Hq.out; exact ⟨j + 1, s, A1, n1, c1, l, o, M, by omega, by omega, by go_num, z⟩
              case measure => have := Hq.out; simp [intOf]; omega
            · have h2a : (X.st != 2) = true := by simp [h2]
              have h2b : (X.ou != 2) = false := by
                have ht : X.st = 2 ∨ X.ou = 2 := Hou.out.2 rfl
                simp
                exact ht.resolve_left h2
              clear h2
              obtain ⟨V1, hV1, pV1, kV1⟩ := store_end p1 Try.neP X.st A3 n3 c3 X.lo X.ou
              have Hn := Lib.hid (show ∃ (s : Int) (A1 : Option Addr) (n1 c1 : Nat) (l : Bool) (o : Int) (M : List Dl), PB V1 w2.heap.size 30 s A1 n1 c1 l o ∧ DR V1 A1 n1 c1 M ∧ okP ⟨s, M, l, o⟩ = true ∧ Below w.heap.size w V1 from ⟨X.st, A3, n3, c3, X.lo, X.ou, X.ad, pV1, kV1.dr _ _ _ _ d3, Hok2.out, kV1.low _ _ l1 hsz⟩)
              have HV1 := Lib.hid hV1
              clear hV1 kV1 pV1 Hou Hdone
              go_wp2_with fail
              rw [HV1.out]
              go_wp2_with fail
              go_roundw
              case rel => obtain ⟨s, A1, n1, c1, l, o, M, z⟩ := Hn.out; have := Hq.out; exact ⟨j + 1, s, A1, n1, c1, l, o, M, by omega, by omega, by go_num, z⟩
              case measure => have := Hq.out; simp [intOf]; omega
          · obtain ⟨hXX, hDD⟩ := Hdone.out rfl
            subst hXX hDD
            obtain rfl : 0 = n5 := d5.len
            have hc := same_c 3 A3 n3 c3 A1 n1 c1 l o M _ d3 d1
            clear Hou Hdone Hok2
            go_upto_region 10 with fail
            go_wp2_with fail
            (with_reducible refine hc.mono ?_)
            rintro e w6 ⟨rfl, b6⟩
            have p6 := p1.on b6
            have x6 := px.on b6
            have d6 := d3.on b6
            have l6 := bel2 l1 b6
            clear hc p1 px d3 d1 d5 l1 b6 cx0 cx1 cx2 cx3 cp0 cp1 cp2 cp3 fp0 fp1 fp2 fp3
            obtain ⟨cx0, cx1, cx2, cx3⟩ := x6.cells
            obtain ⟨cp0, cp1, cp2, cp3⟩ := p6.cells
            obtain ⟨fp0, fp1, fp2, fp3⟩ := p6.froz
            by_cases h1 : o = 1
            · have h1a : (o == 1) = true := by simp [h1]
              have h1b : (o != 1) = false := by simp [h1]
              clear h1
              obtain ⟨V1, hV1, pV1, kV1⟩ := store_end p6 Try.neP 3 A3 n3 c3 l o
              have Hn := Lib.hid (show ∃ (s : Int) (A1 : Option Addr) (n1 c1 : Nat) (l : Bool) (o : Int) (M : List Dl), PB V1 w2.heap.size 30 s A1 n1 c1 l o ∧ DR V1 A1 n1 c1 M ∧ okP ⟨s, M, l, o⟩ = true ∧ Below w.heap.size w V1 from ⟨3, A3, n3, c3, l, o, M, pV1, kV1.dr _ _ _ _ d6, Hok.out, kV1.low _ _ l6 hsz⟩)
              have HV1 := Lib.hid hV1
              clear hV1 kV1 pV1
              go_wp2_with fail
              rw [HV1.out]
              go_wp2_with fail
              go_roundw
              case rel => obtain ⟨s, A1, n1, c1, l, o, M, z⟩ := Hn.out; have := Hq.out; exact ⟨j + 1, s, A1, n1, c1, l, o, M, by omega, by omega, by go_num, z⟩
              case measure => have := Hq.out; simp [intOf]; omega
            · have h1a : (o == 1) = false := by simp [h1]
              clear h1
              obtain ⟨V1, hV1, pV1, kV1⟩ := store_end p6 Try.neP 3 A3 n3 c3 l o
              have Hn := Lib.hid (show ∃ (s : Int) (A1 : Option Addr) (n1 c1 : Nat) (l : Bool) (o : Int) (M : List Dl), PB V1 w2.heap.size 30 s A1 n1 c1 l o ∧ DR V1 A1 n1 c1 M ∧ okP ⟨s, M, l, o⟩ = true ∧ Below w.heap.size w V1 from ⟨3, A3, n3, c3, l, o, M, pV1, kV1.dr _ _ _ _ d6, Hok.out, kV1.low _ _ l6 hsz⟩)
              have HV1 := Lib.hid hV1
              clear hV1 kV1 pV1
              go_wp2_with fail
              rw [HV1.out]
              go_wp2_with fail
              go_roundw
              case rel => obtain ⟨s, A1, n1, c1, l, o, M, z⟩ := Hn.out; have := Hq.out; exact ⟨j + 1, s, A1, n1, c1, l, o, M, by omega, by omega, by go_num, z⟩
              case measure => have := Hq.out; simp [intOf]; omega
      · have Hb := Lib.hid hb
        clear hp hd hb
        by_cases hjn : j < n
        · have q1b : decide ((j : Int) < (n : Int)) = true := by simp; omega
          have q2b : decide ((j : Int) < 80) = false := by simp; omega
          clear hlt
          go_wp2_with fail
          go_ret
          exact ⟨rfl, Hb.out⟩
        · have q1b : decide ((j : Int) < (n : Int)) = false := by simp; omega
          clear hlt
          go_wp2_with fail
          go_ret
          exact ⟨rfl, Hb.out⟩
end Go.Proofs.Ytmbmbodcmobllaa
