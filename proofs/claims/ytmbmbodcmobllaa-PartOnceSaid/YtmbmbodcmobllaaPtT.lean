/-
  The walk of PartOnce: it returns true. Condition: the acts can be read.
-/
import Derived.Test.YtmbmbodcmobllaaPtO
import Derived.Test.YtmbmbodcmobllaaPtL
import Derived.Test.YtmbmbodcmobllaaPtW
import Derived.Test.YtmbmbodcmobllaaPtV
import Derived.Test.YtmbmbodcmobllaaDlO
import Derived.Deep.CutRange
import Derived.Deep.RegionHeld3
set_option linter.unusedVariables false
set_option linter.unusedSimpArgs false
namespace Go.Proofs.Ytmbmbodcmobllaa
open Go.RowKit

/-- The slice lies in no block G. -/
def Ap (G : Option Nat) (A : Option Addr) (n : Nat) : Prop := 0 < n → ∀ g off, A = some ⟨g, off, none⟩ → G ≠ some g
theorem DR.past {W V : World} {A : Option Addr} {n c : Nat} {L : List Dl} {G : Option Nat} (h : DR W A n c L) (hg : W.grownBy V G) (ha : Ap G A n) : DR V A n c L := h.keep fun g off hA hn hlt => hg.block g hlt (fun e => ha hn g off hA e.symm)
theorem PB.past {W V : World} {b : Nat} {T : TypeId} {s : Int} {A : Option Addr} {n c : Nat} {l : Bool} {o : Int} {G : Option Nat} (h : PB W b T s A n c l o) (hg : W.grownBy V G) (hne : G ≠ some b) : PB V b T s A n c l o := CB.same h (hg.block _ (PB.lt h) (fun e => hne e.symm))
theorem Ap.moved {W : World} {A : Option Addr} {n c : Nat} {L : List Dl} {G G' : Option Nat} (h : DR W A n c L) (ha : Ap G A n) (hm : Moved W G G') : Ap G' A n := by
  intro hn g off hA
  rcases hm with rfl | ⟨g', rfl, hg'⟩
  · exact ha hn g off hA
  · intro e
    have := Option.some.inj e
    have := h.lt hA hn
    omega

set_option maxRecDepth 100000 in
set_option maxHeartbeats 8000000 in
theorem once_walk (A : Option Addr) (n c : Nat) (L : List Ac) (w : World) (h : RR w ac 5 A n c L) :
    Calls Try.prog 5 #[.slice A n c] w fun e w' => e = .returned (.bool true) ∧ Below w.heap.size w w' := by
  have hc := alive_c w
  have hmx : n ≤ maxLen := Nat.le_trans h.cap h.max
  simp only [maxLen] at hmx
  obtain ⟨i0, hi0, hz0, hz1, hz2⟩ := info_parts Try.infoD
  have Hi := Lib.hid hi0
  have Hz := Lib.hid hz0
  have Hz1 := Lib.hid hz1
  have Hz2 := Lib.hid hz2
  clear hi0 hz0 hz1 hz2
  go_enter Try.func5, Try.ntmps5
  go_wp2_with fail
  refine hc.mono ?_
  rintro e w1 ⟨rfl, b1⟩
  obtain ⟨W, hW⟩ : ∃ W, w1.alloc (.cells #[.int .i64 0, .slice none 0 0, .bool false, .int .i64 0] 30) = W := ⟨_, rfl⟩
  have hp : PB W w1.heap.size 30 0 none 0 0 false 0 := by rw [← hW]; exact PB.new w1 30 0 none 0 0 false 0
  have bW : Below w1.heap.size w1 W := by rw [← hW]; exact belA _ _
  have hb := bel2 b1 bW
  have hsz := b1.size
  have HW := Lib.hid hW
  clear hW hc b1 bW
  go_upto_region 5 with fail
  rw [HW.out]
  go_wp2_with fail
  go_loopw [4, 5] (fun va v wr => ∃ (j : Nat) (s : Int) (A1 : Option Addr) (n1 c1 : Nat) (l : Bool) (o : Int) (M : List Dl) (Aa : Option Addr) (na ca : Nat) (G : Option Nat), j ≤ n ∧ j ≤ 80 ∧ v = .int .i64 j ∧ va = .slice Aa na ca ∧ PB wr w1.heap.size 30 s A1 n1 c1 l o ∧ DR wr A1 n1 c1 M ∧ okP ⟨s, M, l, o⟩ = true ∧ Seg wr 26 2 Aa na ca (rc dc (eff ⟨s, M, l, o⟩)) G ∧ (∀ g, G = some g → w.heap.size ≤ g) ∧ Ap G A1 n1 ∧ Below w.heap.size w wr) (fun _ v _ => n - (intOf v).toNat)
  case atStart => exact ⟨0, 0, none, 0, 0, false, 0, [], none, 0, 0, none, by omega, by omega, rfl, rfl, hp, RR.nil _ _ _, by decide, Seg.nil _ _ _, (fun g e => by cases e), (fun h => absurd h (by omega)), hb⟩
  case round =>
    clear hp hb HW
    obtain ⟨j, s, A1, n1, c1, l, o, M, Aa, na, ca, G, hj, hj80, rfl, rfl, hp, hd, hok, hsg, hG, hap, hb⟩ := hrel
    have Hok := Lib.hid hok
    have hn1 : n1 ≤ 1000 := by have := ok_len hok; rw [show (⟨s, M, l, o⟩ : Pt).ad.length = n1 from hd.len] at this; omega
    have hna : na ≤ 100 := by rw [← rc_len hsg]; exact eff_len hok
    clear hok
    by_cases hlt : j < n ∧ j < 80
    · obtain ⟨hlt1, hlt2⟩ := hlt
      have q1b : decide ((j : Int) < (n : Int)) = true := by simp; omega
      have q2b : decide ((j : Int) < 80) = true := by simp; omega
      have q1 : (j : Int) < (n : Int) := by omega
      obtain ⟨g, off, x, hx, rfl, x0, x1, x2, x3, x4⟩ := act_at (h.on hb) hlt1
      obtain ⟨cp0, cp1, cp2, cp3⟩ := hp.cells
      obtain ⟨X, hX⟩ : ∃ X, stp ⟨s, M, l, o⟩ x = X := ⟨_, rfl⟩
      obtain ⟨D, hD⟩ : ∃ D, chg ⟨s, M, l, o⟩ x = D := ⟨_, rfl⟩
      have hok2 := ok_stp x Hok.out
      have hef := eff_stp x Hok.out
      rw [hX] at hok2
      rw [hX, hD] at hef
      have Hok2 := Lib.hid hok2
      have Hef := Lib.hid hef
      clear hok2 hef
      have Hc := Lib.hid (And.intro hp.cells (And.intro x0 (And.intro x1 (And.intro x2 (And.intro x3 x4)))))
      have HC := Lib.hid (fun U (b : Below wr.heap.size wr U) => (show (U.cell? ⟨w1.heap.size, 0, none⟩ = some (.int .i64 s) ∧ U.cell? ⟨w1.heap.size, 1, none⟩ = some (.slice A1 n1 c1) ∧ U.cell? ⟨w1.heap.size, 2, none⟩ = some (.bool l) ∧ U.cell? ⟨w1.heap.size, 3, none⟩ = some (.int .i64 o)) ∧ (U.cell? ⟨g, off + j * 5, none⟩ = some (.int .u8 x.kd) ∧ U.cell? ⟨g, off + j * 5 + 1, none⟩ = some (.int .u8 x.dk) ∧ U.cell? ⟨g, off + j * 5 + 2, none⟩ = some (.int .i64 x.db) ∧ U.cell? ⟨g, off + j * 5 + 3, none⟩ = some (.bool x.y) ∧ U.cell? ⟨g, off + j * 5 + 4, none⟩ = some (.int .i64 x.u)) from ⟨(hp.on b).cells, cell_on b x0, cell_on b x1, cell_on b x2, cell_on b x3, cell_on b x4⟩))
      have HD := Lib.hid (fun V (b : Below wr.heap.size wr V) => does0_c s A1 n1 c1 l o M x V (hd.on b) hn1)
      rw [hX, hD] at HD
      go_upto_region 8 with fail
      go_cut [6, 7, 8, 9] from 13 to 76 (fun sx _ sd _ wx => ∃ (bx : Nat) (A3 : Option Addr) (n3 c3 : Nat) (A5 : Option Addr) (n5 c5 : Nat), sx = .pointer (some ⟨bx, 0, none⟩) ∧ sd = .slice A5 n5 c5 ∧ PB wx bx 30 X.st A3 n3 c3 X.lo X.ou ∧ DR wx A3 n3 c3 X.ad ∧ DR wx A5 n5 c5 D ∧ Below wr.heap.size wr wx ∧ Fr wr.heap.size A3 n3)
      case first =>
        go_region_held3 (fun W' => (W'.cell? ⟨w1.heap.size, 0, none⟩ = some (.int .i64 s) ∧ W'.cell? ⟨w1.heap.size, 1, none⟩ = some (.slice A1 n1 c1) ∧ W'.cell? ⟨w1.heap.size, 2, none⟩ = some (.bool l) ∧ W'.cell? ⟨w1.heap.size, 3, none⟩ = some (.int .i64 o)) ∧ (W'.cell? ⟨g, off + j * 5, none⟩ = some (.int .u8 x.kd) ∧ W'.cell? ⟨g, off + j * 5 + 1, none⟩ = some (.int .u8 x.dk) ∧ W'.cell? ⟨g, off + j * 5 + 2, none⟩ = some (.int .i64 x.db) ∧ W'.cell? ⟨g, off + j * 5 + 3, none⟩ = some (.bool x.y) ∧ W'.cell? ⟨g, off + j * 5 + 4, none⟩ = some (.int .i64 x.u))) (first | exact Hc.out | exact HC.out _ t5 | exact HC.out _ ta | exact HC.out _ tc | exact HC.out _ tq | exact HC.out _ (bel2 t5 (belA _ _)) | exact HC.out _ (bel2 t5 (bel2 (belA _ _) (belA _ _))) | exact HC.out _ (belowD (belA _ _)) | exact HC.out _ (belowD (bel2 (belA _ _) (belA _ _))) | exact HC.out _ (belA _ _) | exact HC.out _ (bel2 (belA _ _) (belA _ _))) (first
          | (go_at_call 10; (with_reducible refine (HD.out wr.drew (belowD (Below.refl _ _))).mono ?_); rintro e w5 ⟨A3, n3, c3, y5, A4, n4, c4, A5, n5, c5, ok5, rfl, e1, e2, e3, b5, fr5, _⟩; have t5 := below_drew (W := wr) b5; have hs5 : wr.heap.size ≤ w5.heap.size := t5.size; have fr := fr5.mono (B' := wr.heap.size) (Nat.le_refl _))
          | (go_at_call 10; (with_reducible refine (HD.out (wr.alloc (.cells #[.int .i64 0, .slice none 0 0, .bool false, .int .i64 0] 30)).drew (belowD (belA _ _))).mono ?_); rintro e w5 ⟨A3, n3, c3, y5, A4, n4, c4, A5, n5, c5, ok5, rfl, e1, e2, e3, b5, fr5, _⟩; obtain ⟨t5, hs5, tq, ⟨⟨c60, c61, c62, c63⟩, f60, f61, f62, f63⟩, Ua, Uc, hUa, ⟨⟨c70, c71, c72, c73⟩, f70, f71, f72, f73⟩, hUc, ta, tc, pX, pY, hdr⟩ := way6 wr w5 X y5 A3 n3 c3 A4 n4 c4 b5; have fr := fr5.mono (B' := wr.heap.size) ((belA _ _).size))
          | (go_at_call 10; (with_reducible refine (HD.out (wr.alloc (.cells #[.int .i64 0, .slice none 0 0, .bool false, .int .i64 0] 24)).drew (belowD (belA _ _))).mono ?_); rintro e w5 ⟨A3, n3, c3, y5, A4, n4, c4, A5, n5, c5, ok5, rfl, e1, e2, e3, b5, fr5, _⟩; obtain ⟨t5, hs5, ta, ⟨⟨c70, c71, c72, c73⟩, f70, f71, f72, f73⟩, Uc, hUc, tc, pX, pY, hdr⟩ := way7 wr w5 X y5 A3 n3 c3 A4 n4 c4 b5; have fr := fr5.mono (B' := wr.heap.size) ((belA _ _).size))
          | (go_at_call 10; (with_reducible refine (HD.out ((wr.alloc (.cells #[.int .i64 0, .slice none 0 0, .bool false, .int .i64 0] 30)).alloc (.cells #[.int .i64 0, .slice none 0 0, .bool false, .int .i64 0] 24)).drew (belowD (bel2 (belA _ _) (belA _ _)))).mono ?_); rintro e w5 ⟨A3, n3, c3, y5, A4, n4, c4, A5, n5, c5, ok5, rfl, e1, e2, e3, b5, fr5, _⟩; obtain ⟨t5, hs5, ⟨⟨c60, c61, c62, c63⟩, f60, f61, f62, f63⟩, Ua, Uc, hUa, ⟨⟨c70, c71, c72, c73⟩, f70, f71, f72, f73⟩, hUc, ta, tc, pX, pY, hdr⟩ := way67 wr w5 X y5 A3 n3 c3 A4 n4 c4 b5; have fr := fr5.mono (B' := wr.heap.size) ((bel2 (belA _ _) (belA _ _)).size))
          | (go_at_call 10; (with_reducible refine (HD.out ((wr.alloc (.cells #[.int .i64 0, .slice none 0 0, .bool false, .int .i64 0] 24)).alloc (.cells #[.int .i64 0, .slice none 0 0, .bool false, .int .i64 0] 30)).drew (belowD (bel2 (belA _ _) (belA _ _)))).mono ?_); rintro e w5 ⟨A3, n3, c3, y5, A4, n4, c4, A5, n5, c5, ok5, rfl, e1, e2, e3, b5, fr5, _⟩; obtain ⟨t5, hs5, ⟨⟨c60, c61, c62, c63⟩, f60, f61, f62, f63⟩, Ua, Uc, hUa, ⟨⟨c70, c71, c72, c73⟩, f70, f71, f72, f73⟩, hUc, ta, tc, pX, pY, hdr⟩ := way76 wr w5 X y5 A3 n3 c3 A4 n4 c4 b5; have fr := fr5.mono (B' := wr.heap.size) ((bel2 (belA _ _) (belA _ _)).size)))
        all_goals (go_wp2_with fail; go_meet; case rel => (first
          | exact ⟨_, A3, n3, c3, A5, n5, c5, rfl, rfl, pX, hdr _ _ _ _ e1, hdr _ _ _ _ e3, tc, fr⟩
          | exact ⟨_, A3, n3, c3, A5, n5, c5, rfl, rfl, (way0a w5 X y5 A3 n3 c3 A4 n4 c4).2.1, e1.on (way0a w5 X y5 A3 n3 c3 A4 n4 c4).1, e3.on (way0a w5 X y5 A3 n3 c3 A4 n4 c4).1, bel2 t5 (way0a w5 X y5 A3 n3 c3 A4 n4 c4).1, fr⟩
          | exact ⟨_, A3, n3, c3, A5, n5, c5, rfl, rfl, (way0b w5 X y5 A3 n3 c3 A4 n4 c4).2.1, e1.on (way0b w5 X y5 A3 n3 c3 A4 n4 c4).1, e3.on (way0b w5 X y5 A3 n3 c3 A4 n4 c4).1, bel2 t5 (way0b w5 X y5 A3 n3 c3 A4 n4 c4).1, fr⟩))
      case rest =>
        obtain ⟨bx, A3, n3, c3, A5, n5, c5, rfl, rfl, px, d3, d5, bc, fr⟩ := hcut
        have Hq := Lib.hid (And.intro hlt1 hlt2)
        have p1 := hp.on bc
        have l1 := bel2 hb bc
        have sg1 := hsg.on bc
        have ap3 : Ap G A3 n3 := fun hn g off hA e => by have := fr hn g off hA; have := hsg.lt g e; omega
        have hn5 : n5 ≤ 100 := by
          rw [← d5.len]
          have := eff_len Hok2.out
          rw [Hef.out, List.length_append] at this
          omega
        clear hp hd hb bc hsg HC HD Hc hap cp0 cp1 cp2 cp3 x0 x1 x2 x3 x4 h hX hD fr
        obtain ⟨cx0, cx1, cx2, cx3⟩ := px.cells
        obtain ⟨cp0, cp1, cp2, cp3⟩ := p1.cells
        obtain ⟨fp0, fp1, fp2, fp3⟩ := p1.froz
        obtain ⟨V1, hV1, pV1, kV1⟩ := store_end p1 Try.neP X.st A3 n3 c3 X.lo X.ou
        have d3' := kV1.dr _ _ _ _ d3
        have d5' := kV1.dr _ _ _ _ d5
        have sg2 := kV1.sg _ _ _ _ _ sg1
        have l2 := kV1.low _ _ l1 hsz
        have HV1 := Lib.hid hV1
        clear hV1 kV1 d3 d5 sg1 l1
        go_upto_region 10 with fail
        rw [HV1.out]
        clear cx0 cx1 cx2 cx3 cp0 cp1 cp2 cp3 fp0 fp1 fp2 fp3 p1 px
        have p03 : 0 < 2 := by omega
        have r1 : na + n5 ≤ maxLen := by simp only [maxLen]; omega
        have r2 : (na + n5) * 16 ≤ 140737488355328 := by omega
        obtain ⟨N, hN⟩ : ∃ N, na + n5 = N := ⟨_, rfl⟩
        have hN3 : N ≤ 300000 := by omega
        have HN := Lib.hid hN
        have sr := d5'.src
        clear hN
        go_wp2_with (at_builtin; refine wpList_append_src _ rfl (.tmp 36) (.tmp 37) _ rfl 26 i0 _ 2 16 Try.underlying22 Hi.out Hz.out Hz1.out Hz2.out rfl p03 rfl sg2 rfl sr (rc_one 2 _) r1 r2 N HN.out ?_; intro A6 c6 G6 w6 s6 g6 m6; refine Stay.mk ?_)
        refine Stay.open_ ?_
        rw [← rc_append, ← Hef.out] at s6
        have p6 := pV1.past g6 (sg2.ne_ pV1 Try.neP)
        have d6 := d3'.past g6 ap3
        have ap6 := Lib.hid (ap3.moved d3' m6)
        have hG6 := Lib.hid (m6.ge l2.size hG)
        have l3 := l2.grown g6 l2.size hG
        clear sr sg2 g6 m6 pV1 d3' d5' l2 ap3 hG
        obtain ⟨cp0, cp1, cp2, cp3⟩ := p6.cells
        have hn3 : n3 ≤ 1000 := by have := ok_len Hok2.out; rw [d6.len] at this; omega
        have hc := effect_c X.st A3 n3 c3 X.lo X.ou X.ad w6 d6 hn3
        go_wp2_with fail
        (with_reducible refine hc.mono ?_)
        rintro e w7 ⟨A7, n7, c7, rfl, s7, b7⟩
        have p7 := p6.on b7
        have d7 := d6.on b7
        have sg7 := s6.on b7
        have l4 := bel2 l3 b7
        clear hc cp0 cp1 cp2 cp3 p6 d6 s6 l3 b7
        have hc := deltas_c A6 A7 N c6 n7 c7 (eff X) w7 (RR.of_seg sg7) s7.rr
        go_wp2_with fail
        (with_reducible refine hc.mono ?_)
        rintro e w8 ⟨rfl, b8⟩
        have p8 := p7.on b8
        have d8 := d7.on b8
        have sg8 := sg7.on b8
        have l5 := bel2 l4 b8
        clear hc p7 d7 sg7 l4 b8 s7
        have hc := of_c A6 N c6 (eff X) w8 (RR.of_seg sg8) hN3
        go_wp2_with fail
        (with_reducible refine hc.mono ?_)
        rintro e w9 ⟨A9, n9, c9, rfl, s9, b9⟩
        have p9 := p8.on b9
        have d9 := d8.on b9
        have sg9 := sg8.on b9
        have l6 := bel2 l5 b9
        clear hc p8 d8 sg8 l5 b9
        obtain ⟨cp0, cp1, cp2, cp3⟩ := p9.cells
        have Hnext := Lib.hid (fun V (b : Below w9.heap.size w9 V) => (show ∃ (s : Int) (A1 : Option Addr) (n1 c1 : Nat) (l : Bool) (o : Int) (M : List Dl) (Aa : Option Addr) (na ca : Nat) (G : Option Nat), Value.slice A6 N c6 = .slice Aa na ca ∧ PB V w1.heap.size 30 s A1 n1 c1 l o ∧ DR V A1 n1 c1 M ∧ okP ⟨s, M, l, o⟩ = true ∧ Seg V 26 2 Aa na ca (rc dc (eff ⟨s, M, l, o⟩)) G ∧ (∀ g, G = some g → w.heap.size ≤ g) ∧ Ap G A1 n1 ∧ Below w.heap.size w V from ⟨X.st, A3, n3, c3, X.lo, X.ou, X.ad, A6, N, c6, G6, rfl, p9.on b, d9.on b, Hok2.out, sg9.on b, hG6.out, ap6.out, bel2 l6 b⟩))
        have Hst := Lib.hid (eff_sum (p := X) Hok2.out)
        by_cases h3 : X.st = 3
        · have h3a : (X.st == 3) = true := by simp [h3]
          have K := Lib.hid (Hst.out h3)
          clear h3 Hst
          by_cases h2 : X.ou = 2
          · have h2a : (X.ou == 2) = true := by simp [h2]
            have h1a : (X.ou == 1) = false := by simp [h2]
            have hn9 : n9 = 0 := by have := s9.rr.len; rw [K.out.1 h2] at this; exact this.symm
            have h9a : ((n9 : Int) != 0) = false := by simp; omega
            have Hn := Lib.hid (Hnext.out w9 (Below.refl _ _))
            clear h2 K hn9 Hnext p9 d9 sg9 s9 l6
            go_wp2_with fail
            go_roundw
            case rel => obtain ⟨s, A1, n1, c1, l, o, M, Aa, na, ca, G, z1, z2⟩ := Hn.out; have := Hq.out; exact ⟨j + 1, s, A1, n1, c1, l, o, M, Aa, na, ca, G, by omega, by omega, by go_num, z1, z2⟩
            case measure => have := Hq.out; simp [intOf]; omega
          · have h2a : (X.ou == 2) = false := by simp [h2]
            by_cases h1 : X.ou = 1
            · have h1a : (X.ou == 1) = true := by simp [h1]
              have hc := of_c A3 n3 c3 X.ad w9 d9 (by omega)
              rw [← K.out.2 h1] at hc
              clear h1 h2 K
              go_wp2_with fail
              (with_reducible refine hc.mono ?_)
              rintro e w10 ⟨A10, n10, c10, rfl, s10, b10⟩
              have hc2 := same8_c A9 A10 n9 c9 n10 c10 _ w10 (s9.rr.on b10) s10.rr
              clear hc cp0 cp1 cp2 cp3
              go_wp2_with fail
              (with_reducible refine hc2.mono ?_)
              rintro e w11 ⟨rfl, b11⟩
              have Hn := Lib.hid (Hnext.out w11 (bel2 b10 b11))
              clear hc2 Hnext p9 d9 sg9 s9 l6 s10 b10 b11
              go_wp2_with fail
              go_roundw
              case rel => obtain ⟨s, A1, n1, c1, l, o, M, Aa, na, ca, G, z1, z2⟩ := Hn.out; have := Hq.out; exact ⟨j + 1, s, A1, n1, c1, l, o, M, Aa, na, ca, G, by omega, by omega, by go_num, z1, z2⟩
              case measure => have := Hq.out; simp [intOf]; omega
            · have h1a : (X.ou == 1) = false := by simp [h1]
              have Hn := Lib.hid (Hnext.out w9 (Below.refl _ _))
              clear h1 h2 K Hnext p9 d9 sg9 s9 l6
              go_wp2_with fail
              go_roundw
              case rel => obtain ⟨s, A1, n1, c1, l, o, M, Aa, na, ca, G, z1, z2⟩ := Hn.out; have := Hq.out; exact ⟨j + 1, s, A1, n1, c1, l, o, M, Aa, na, ca, G, by omega, by omega, by go_num, z1, z2⟩
              case measure => have := Hq.out; simp [intOf]; omega
        · have h3a : (X.st == 3) = false := by simp [h3]
          have Hn := Lib.hid (Hnext.out w9 (Below.refl _ _))
          clear h3 Hst Hnext p9 d9 sg9 s9 l6
          go_wp2_with fail
          go_roundw
          case rel => obtain ⟨s, A1, n1, c1, l, o, M, Aa, na, ca, G, z1, z2⟩ := Hn.out; have := Hq.out; exact ⟨j + 1, s, A1, n1, c1, l, o, M, Aa, na, ca, G, by omega, by omega, by go_num, z1, z2⟩
          case measure => have := Hq.out; simp [intOf]; omega
    · have Hb := Lib.hid hb
      clear hp hd hsg hb
      by_cases hjn : j < n
      · have q1b : decide ((j : Int) < (n : Int)) = true := by simp; omega
        have q2b : decide ((j : Int) < 80) = false := by simp; omega
        clear hlt
        go_wp2_with fail
        go_ret
        exact ⟨rfl, Hb.out⟩
      · have q1b : decide ((j : Int) < (n : Int)) = false := by simp; omega
        clear hlt
        go_wp2_with fail
        go_ret
        exact ⟨rfl, Hb.out⟩
end Go.Proofs.Ytmbmbodcmobllaa
