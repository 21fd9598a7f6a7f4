/-
  The walk of SiteAgain: it returns true. Condition: the calls can be read, their numbers such as their types hold.
-/
import Derived.Test.YtealcccjnmfkcaaSiJ
import Derived.Test.YtealcccjnmfkcaaSiT
import Derived.BigQuiet
set_option linter.unusedVariables false
set_option linter.unusedSimpArgs false
namespace Go.Proofs.Ytealcccjnmfkcaa
open Go.RowKit

set_option maxRecDepth 100000 in
set_option maxHeartbeats 4000000 in
theorem again_walk (A : Option Addr) (n c : Nat) (L : List Rc) (A' : Option Addr) (n' c' : Nat) (M : List Rc) (w : World) (h : KR w A n c L) (hr : ∀ r ∈ L, RcOk r) (h' : KR w A' n' c' M) (hr' : ∀ r ∈ M, RcOk r) :
    Calls Try.prog 4 #[.slice A n c, .slice A' n' c'] w fun e w' => e = .returned (.bool true) ∧ Below w.heap.size w w' := by
  have hlen := Lib.hid h'.len
  have hmx : n' ≤ maxLen := Nat.le_trans h'.cap h'.max
  simp only [maxLen] at hmx
  go_enter Try.func4, Try.ntmps4
  go_wp2_with fail
  (with_reducible refine (alive_c w).mono ?_)
  rintro e w1 ⟨rfl, b1⟩
  have hp := played_c A n c L w1 (h.on b1) hr
  have hw1 := h'.on b1
  have HB1 := Lib.hid b1
  clear h h' b1
  go_wp2_with fail
  (with_reducible refine hp.mono ?_)
  rintro e w2 ⟨b, m, G, rfl, hst⟩
  have hK : (logs si0 (L.take 120)).length ≤ 120 := by have := logs_len si0 (L.take 120); rw [List.length_take] at this; omega
  obtain ⟨ag1, ag2⟩ := again_log si0 (L.take 120)
  generalize plays si0 (L.take 120) = S at *
  generalize logs si0 (L.take 120) = K at *
  have hlo := slog_c b m G S K w2 hst.sr (by omega)
  have Ag1 := Lib.hid ag1
  have Ag2 := Lib.hid ag2
  clear hp ag1 ag2
  go_wp2_with fail
  (with_reducible refine hlo.mono ?_)
  rintro e w3 ⟨A3, n3, c3, rfl, k3, b3⟩
  have hst3 := hst.onw b3
  have hrp := replay_c A3 n3 c3 K w3 k3.rr hst.sr.good.ok (by have := k3.len; omega)
  clear hlo k3 b3 hst
  go_wp2_with fail
  (with_reducible refine hrp.mono ?_)
  rintro e w4 (⟨_, b', m', G', rfl, hs2⟩ | ⟨hno, _⟩)
  rotate_left
  · exact absurd Ag2.out hno
  rw [Ag1.out] at hs2
  obtain ⟨l1, l2, l3⟩ := hst3.sr.lt
  have hB : w1.heap.size ≤ w3.heap.size := hst3.low.size
  have hst4 := hst3.onw hs2.low
  have hT : TT w1.heap.size w1 w4 (fun _ => False) b m G S K b' m' G' S K :=
    ⟨hst4, ⟨hs2.sr, ⟨Nat.le_trans hB hs2.hi.b, Nat.le_trans hB hs2.hi.m, fun g e => Nat.le_trans hB (hs2.hi.G g e)⟩, hst4.low, fun R hR => hR.elim⟩, by have := hs2.hi.b; omega, by have := hs2.hi.m; omega, fun g e e' => by have := l3 g e; have := hs2.hi.G g e'; omega⟩
  clear hrp hst3 hst4 hs2 l1 l2 l3 hB
  go_wp2_with fail
  go_loopw [8] (fun i wr => ∃ (j : Nat) (Ga Gb : Option Nat) (S1 : Si) (K1 : List Rc), j ≤ n' ∧ j ≤ 120 ∧ i = .int .i64 j ∧ K1.length ≤ 120 + j ∧ TT w1.heap.size w1 wr (fun _ => False) b m Ga S1 K1 b' m' Gb S1 K1) (fun i _ => n' - (intOf i).toNat)
  case atStart => exact ⟨0, G, G', S, K, by omega, by omega, rfl, by omega, hT⟩
  case round =>
    clear hT
    obtain ⟨j, Ga, Gb, S1, K1, hj, hj2, rfl, hK1, hT⟩ := hrel
    by_cases hlt : j < n'
    · by_cases hl4 : j < 120
      · have hlt1 : (j : Int) < (n' : Int) := by omega
        have hl5 : (j : Int) < 120 := by omega
        have hjl : j < M.length := by rw [hlen.out]; exact hlt
        have hok := hr' _ (tkR_mem hjl)
        have hat := Lib.hid (fun (W : World) (hb : Below w1.heap.size w1 W) => (hw1.on hb).at4 hlt)
        obtain ⟨g, off, rfl, d0, d1, d2, d3⟩ := hat.out _ hT.one.low
        generalize tkR M j = x at *
        have hK2 := logIf_len (eDo S1 x = 0) K1 x
        have hdo := do_c b m Ga S1 K1 x wr hT.one.sr hok (by omega)
        go_wp2_with fail
        (with_reducible refine hdo.mono ?_)
        intro e w5 hp
        obtain ⟨rfl, G5, hT5, _⟩ := hT.done hp (Nat.le_refl _)
        clear hp hdo hT d0 d1 d2 d3
        obtain ⟨g', off', e0, d0, d1, d2, d3⟩ := hat.out _ hT5.one.low
        cases e0
        have hdo := do_c b' m' Gb S1 K1 x w5 hT5.two.sr hok (by omega)
        go_wp2_with fail
        (with_reducible refine hdo.mono ?_)
        intro e w6 hp
        obtain ⟨rfl, G6, hT6, _⟩ := hT5.swap.done hp (Nat.le_refl _)
        have HT := Lib.hid hT6.swap
        clear hp hdo hT5 hT6 d0 d1 d2 d3 hat
        go_wp2_with fail
        go_roundw
        case rel => exact ⟨j + 1, G5, G6, _, _, by omega, by omega, by go_num, by omega, HT.out⟩
        case measure => simp [intOf]; omega
      · have hlt1 : (j : Int) < (n' : Int) := by omega
        have hl5 : ¬ (j : Int) < 120 := by omega
        obtain ⟨wz, hwz⟩ : ∃ z, z = wr := ⟨_, rfl⟩
        subst hwz
        have hbig : K1.length ≤ 240 := by omega
        clear hK1
        go_wp2_with fail
        go_loopw [71] (fun i wr => ∃ t : Nat, t ≤ 64 ∧ i = .int .u8 t ∧ Below wz.heap.size wz wr) (fun i _ => 64 - (intOf i).toNat)
        case atStart => exact ⟨0, by omega, rfl, Below.refl _ _⟩
        case round =>
          obtain ⟨t, ht, rfl, hbl⟩ := hrel
          by_cases hlt2 : t < 64
          · have hlt3 : (t : Int) < 64 := by omega
            have hg1 := sget_c b m Ga S1 K1 (t : Int) wr (hT.one.sr.on hbl)
            go_wp2_with fail
            (with_reducible refine hg1.mono ?_)
            rintro e w5 ⟨rfl, b5⟩
            have l5 := bel2 hbl b5
            have hg2 := sget_c b' m' Gb S1 K1 (t : Int) w5 (hT.two.sr.on l5)
            clear hg1 b5
            go_wp2_with fail
            (with_reducible refine hg2.mono ?_)
            rintro e w6 ⟨rfl, b6⟩
            have l6 := bel2 l5 b6
            clear hg2 b6 l5
            go_wp2_with fail
            go_roundw
            case rel => exact ⟨t + 1, by omega, by go_num, l6⟩
            case measure => simp [intOf]; omega
          · obtain rfl : t = 64 := by omega
            have hlt3 : ¬ ((64 : Nat) : Int) < 64 := by omega
            have hT2 := hT.onw hbl
            have hl1 := slog_c b m Ga S1 K1 wr hT2.one.sr (by omega)
            clear hT hbl
            go_wp2_with fail
            (with_reducible refine hl1.mono ?_)
            rintro e w5 ⟨A5, n5, c5, rfl, k5, b5⟩
            have hT3 := hT2.onw b5
            have hl2 := slog_c b' m' Gb S1 K1 w5 hT3.two.sr (by omega)
            clear hl1 b5 hT2
            go_wp2_with fail
            (with_reducible refine hl2.mono ?_)
            rintro e w6 ⟨A6, n6, c6, rfl, k6, b6⟩
            have e6 : n6 = n5 := k6.len.symm.trans k5.len
            subst e6
            have r5 := k5.rr.on b6
            have r6 := k6.rr
            have hz := (hT3.onw b6).one.low
            have Hz := Lib.hid (bel2 HB1.out hz)
            have hm6 : n6 ≤ maxLen := Nat.le_trans r6.cap r6.max
            simp only [maxLen] at hm6
            clear hl2 b6 hT3 k5 k6 hz
            go_wp2_with fail
            go_loopw [93] (fun i wr => ∃ t : Nat, t ≤ n6 ∧ i = .int .i64 t ∧ Below w6.heap.size w6 wr) (fun i _ => n6 - (intOf i).toNat)
            case atStart => exact ⟨0, by omega, rfl, Below.refl _ _⟩
            case round =>
              obtain ⟨t, ht, rfl, hbl⟩ := hrel
              by_cases hlt4 : t < n6
              · have hlt5 : (t : Int) < (n6 : Int) := by omega
                obtain ⟨g, off, rfl, d0, d1, d2, d3⟩ := (r5.on hbl).at4 hlt4
                obtain ⟨g', off', rfl, d4, d5, d6, d7⟩ := (r6.on hbl).at4 hlt4
                generalize tkR K1 t = x at *
                go_wp2_with fail
                go_quiet (fail)
                go_wp2_with fail
                go_roundw
                case rel => exact ⟨t + 1, by omega, by go_num, belowN hbl _⟩
                case measure => simp [intOf]; omega
              · obtain rfl : t = n6 := by omega
                have hlt5 : ¬ (t : Int) < (t : Int) := by omega
                go_wp2_with fail
                go_ret
                exact ⟨rfl, bel2 Hz.out hbl⟩
    · have hlt1 : ¬ (j : Int) < (n' : Int) := by omega
      obtain ⟨wz, hwz⟩ : ∃ z, z = wr := ⟨_, rfl⟩
      subst hwz
      have hbig : K1.length ≤ 240 := by omega
      clear hK1
      go_wp2_with fail
      go_loopw [71] (fun i wr => ∃ t : Nat, t ≤ 64 ∧ i = .int .u8 t ∧ Below wz.heap.size wz wr) (fun i _ => 64 - (intOf i).toNat)
      case atStart => exact ⟨0, by omega, rfl, Below.refl _ _⟩
      case round =>
        obtain ⟨t, ht, rfl, hbl⟩ := hrel
        by_cases hlt2 : t < 64
        · have hlt3 : (t : Int) < 64 := by omega
          have hg1 := sget_c b m Ga S1 K1 (t : Int) wr (hT.one.sr.on hbl)
          go_wp2_with fail
          (with_reducible refine hg1.mono ?_)
          rintro e w5 ⟨rfl, b5⟩
          have l5 := bel2 hbl b5
          have hg2 := sget_c b' m' Gb S1 K1 (t : Int) w5 (hT.two.sr.on l5)
          clear hg1 b5
          go_wp2_with fail
          (with_reducible refine hg2.mono ?_)
          rintro e w6 ⟨rfl, b6⟩
          have l6 := bel2 l5 b6
          clear hg2 b6 l5
          go_wp2_with fail
          go_roundw
          case rel => exact ⟨t + 1, by omega, by go_num, l6⟩
          case measure => simp [intOf]; omega
        · obtain rfl : t = 64 := by omega
          have hlt3 : ¬ ((64 : Nat) : Int) < 64 := by omega
          have hT2 := hT.onw hbl
          have hl1 := slog_c b m Ga S1 K1 wr hT2.one.sr (by omega)
          clear hT hbl
          go_wp2_with fail
          (with_reducible refine hl1.mono ?_)
          rintro e w5 ⟨A5, n5, c5, rfl, k5, b5⟩
          have hT3 := hT2.onw b5
          have hl2 := slog_c b' m' Gb S1 K1 w5 hT3.two.sr (by omega)
          clear hl1 b5 hT2
          go_wp2_with fail
          (with_reducible refine hl2.mono ?_)
          rintro e w6 ⟨A6, n6, c6, rfl, k6, b6⟩
          have e6 : n6 = n5 := k6.len.symm.trans k5.len
          subst e6
          have r5 := k5.rr.on b6
          have r6 := k6.rr
          have hz := (hT3.onw b6).one.low
          have Hz := Lib.hid (bel2 HB1.out hz)
          have hm6 : n6 ≤ maxLen := Nat.le_trans r6.cap r6.max
          simp only [maxLen] at hm6
          clear hl2 b6 hT3 k5 k6 hz
          go_wp2_with fail
          go_loopw [93] (fun i wr => ∃ t : Nat, t ≤ n6 ∧ i = .int .i64 t ∧ Below w6.heap.size w6 wr) (fun i _ => n6 - (intOf i).toNat)
          case atStart => exact ⟨0, by omega, rfl, Below.refl _ _⟩
          case round =>
            obtain ⟨t, ht, rfl, hbl⟩ := hrel
            by_cases hlt4 : t < n6
            · have hlt5 : (t : Int) < (n6 : Int) := by omega
              obtain ⟨g, off, rfl, d0, d1, d2, d3⟩ := (r5.on hbl).at4 hlt4
              obtain ⟨g', off', rfl, d4, d5, d6, d7⟩ := (r6.on hbl).at4 hlt4
              generalize tkR K1 t = x at *
              go_wp2_with fail
              go_quiet (fail)
              go_wp2_with fail
              go_roundw
              case rel => exact ⟨t + 1, by omega, by go_num, belowN hbl _⟩
              case measure => simp [intOf]; omega
            · obtain rfl : t = n6 := by omega
              have hlt5 : ¬ (t : Int) < (t : Int) := by omega
              go_wp2_with fail
              go_ret
              exact ⟨rfl, bel2 Hz.out hbl⟩
end Go.Proofs.Ytealcccjnmfkcaa
