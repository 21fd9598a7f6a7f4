/-
  The walk of PartFull: it returns true. Condition: the number is one of eight bits.
-/
import Derived.Test.YtmbmbodcmobllaaPtJ
import Derived.Deep.CutRange
import Derived.Deep.RegionHeld3
set_option linter.unusedVariables false
set_option linter.unusedSimpArgs false
namespace Go.Proofs.Ytmbmbodcmobllaa
open Go.RowKit

/-- The first n deltas. -/
def mkL : Nat → List Dl
  | 0 => []
  | n + 1 => mkL n ++ [⟨n, 1⟩]
theorem mk_len (n : Nat) : (mkL n).length = n := by
  induction n with
  | zero => rfl
  | succ n ih => rw [mkL, List.length_append, ih]; rfl
theorem mk_keys (n : Nat) (h : n ≤ 64) : KeysP (mkL n) := by
  induction n with
  | zero => exact keys_nil
  | succ n ih => rw [mkL]; exact keys_snoc.2 ⟨ih (by omega), by show (n : Int) < 64; omega⟩
theorem mk_ok (n : Nat) (h : n ≤ 50) : okP ⟨0, mkL n, false, 0⟩ = true := ok_mk (.inl rfl) (by rw [mk_len]; exact h) (mk_keys n (by omega)) (fun k => by cases k) (fun k => by cases k) (fun _ => rfl)
theorem full_add {n j : Nat} (hn : n = min j 50) (hj : j < 64) : (j < 50 → sAdd ⟨0, mkL n, false, 0⟩ ⟨j, 1⟩ = ⟨0, mkL (min (j + 1) 50), false, 0⟩ ∧ eAdd ⟨0, mkL n, false, 0⟩ ⟨j, 1⟩ = 0) ∧ (50 ≤ j → sAdd ⟨0, mkL n, false, 0⟩ ⟨j, 1⟩ = ⟨0, mkL (min (j + 1) 50), false, 0⟩ ∧ eAdd ⟨0, mkL n, false, 0⟩ ⟨j, 1⟩ = 6) := by
  have hok := mk_ok n (by omega)
  constructor
  · intro h
    obtain rfl : n = j := by omega
    have he : eAdd ⟨0, mkL n, false, 0⟩ ⟨n, 1⟩ = 0 := by
      unfold eAdd
      rw [if_neg (fun k => k.elim (fun k => by rw [hok] at k; cases k) (fun k => by have : (64 : Int) ≤ (n : Int) := k; omega)), if_neg (fun k => k rfl), if_neg (fun k => by have := (mk_len n).symm.trans k; omega)]
    refine ⟨?_, he⟩
    unfold sAdd
    rw [if_pos he, show min (n + 1) 50 = n + 1 by omega]
    rfl
  · intro h
    obtain rfl : n = 50 := by omega
    have he : eAdd ⟨0, mkL 50, false, 0⟩ ⟨j, 1⟩ = 6 := by
      unfold eAdd
      rw [if_neg (fun k => k.elim (fun k => by rw [hok] at k; cases k) (fun k => by have : (64 : Int) ≤ (j : Int) := k; omega)), if_neg (fun k => k rfl), if_pos (mk_len 50)]
    refine ⟨?_, he⟩
    unfold sAdd
    rw [if_neg (by rw [he]; omega), show min (j + 1) 50 = 50 by omega]
theorem full_vote {n : Nat} (h : n ≤ 50) (y : Bool) : sVote ⟨0, mkL n, false, 0⟩ y = ⟨if y then 1 else 2, mkL n, false, 0⟩ ∧ eVote ⟨0, mkL n, false, 0⟩ = 0 := by
  have hok := mk_ok n h
  have he : eVote ⟨0, mkL n, false, 0⟩ = 0 := by unfold eVote; rw [if_neg (by rw [hok]; simp), if_neg (by simp)]
  exact ⟨by unfold sVote; rw [if_pos he], he⟩
theorem full_over {n : Nat} (h : n ≤ 50) {s : Int} (hs : s = 1 ∨ s = 2) (x : Dl) (hx : x.k < 64) : eAdd ⟨s, mkL n, false, 0⟩ x = 13 ∧ eVote ⟨s, mkL n, false, 0⟩ = 13 := by
  have hok : okP ⟨s, mkL n, false, 0⟩ = true := ok_mk (by rcases hs with rfl | rfl <;> simp) (by rw [mk_len]; exact h) (mk_keys n (by omega)) (fun k => by cases k) (fun k => by rcases hs with rfl | rfl <;> cases k) (fun _ => rfl)
  constructor
  · unfold eAdd
    rw [if_neg (fun k => k.elim (fun k => by rw [hok] at k; cases k) (fun k => by omega)), if_pos (by rcases hs with rfl | rfl <;> simp)]
  · unfold eVote
    rw [if_neg (by rw [hok]; simp), if_pos (by rcases hs with rfl | rfl <;> simp)]

set_option maxRecDepth 100000 in
set_option maxHeartbeats 4000000 in
theorem full_walk (m : Nat) (yes : Bool) (w : World) (hm : m ≤ 255) :
    Calls Try.prog 8 #[.int .u8 m, .bool yes] w fun e w' => e = .returned (.bool true) ∧ Below w.heap.size w w' := by
  have hc := alive_c w
  obtain ⟨K, hK⟩ : ∃ K : Nat, (m : Int).tmod 60 = K := ⟨m % 60, by rw [Int.tmod_eq_emod_of_nonneg (by omega)]; omega⟩
  have hK2 : K ≤ 59 := by rw [Int.tmod_eq_emod_of_nonneg (by omega)] at hK; omega
  go_enter Try.func8, Try.ntmps8
  go_wp2_with fail
  refine hc.mono ?_
  rintro e w1 ⟨rfl, b1⟩
  obtain ⟨W, hW⟩ : ∃ W, w1.alloc (.cells #[.int .i64 0, .slice none 0 0, .bool false, .int .i64 0] 30) = W := ⟨_, rfl⟩
  have hp : PB W w1.heap.size 30 0 none 0 0 false 0 := by rw [← hW]; exact PB.new _ _ _ _ _ _ _ _
  have bW : Below w1.heap.size w1 W := by rw [← hW]; exact belA _ _
  have hb := bel2 b1 bW
  have hsz := b1.size
  have HW := Lib.hid hW
  clear hW hc b1 bW
  go_upto_region 4 with fail
  rw [HW.out]
  go_wp2_with fail
  go_loopw [21] (fun v wr => ∃ (j n : Nat) (A : Option Addr) (c : Nat), j ≤ K + 1 ∧ v = .int .i64 j ∧ n = min j 50 ∧ PB wr w1.heap.size 30 0 A n c false 0 ∧ DR wr A n c (mkL n) ∧ Below w.heap.size w wr) (fun v _ => K + 1 - (intOf v).toNat)
  case atStart => exact ⟨0, 0, none, 0, by omega, rfl, by omega, hp, RR.nil _ _ _, hb⟩
  case round =>
    clear hp hb HW
    obtain ⟨j, n, A, c, hj, rfl, hn, hp, hd, hb⟩ := hrel
    have Hn := Lib.hid hn
    have hn50 : n ≤ 50 := by omega
    obtain ⟨cp0, cp1, cp2, cp3⟩ := hp.cells
    by_cases hlt : j < K + 1
    · have q1 : (j : Int) < (K : Int) + 1 := by omega
      have q2 : (j : Int).tmod 64 = (j : Int) := by rw [Int.tmod_eq_emod_of_nonneg (by omega)]; omega
      have q3 : IntKind.u8.wrap (j : Int) = (j : Int) := by simp [IntKind.wrap, IntKind.bits, IntKind.signed]; omega
      have HF := Lib.hid (full_add hn (j := j) (by omega))
      have hc := add_c 0 A n c false 0 j 1 (mkL n) wr hd (by omega)
      clear hn
      obtain ⟨X, hX⟩ : ∃ X, sAdd ⟨0, mkL n, false, 0⟩ ⟨j, 1⟩ = X := ⟨_, rfl⟩
      obtain ⟨E, hE⟩ : ∃ E, eAdd ⟨0, mkL n, false, 0⟩ ⟨j, 1⟩ = E := ⟨_, rfl⟩
      rw [hX, hE] at hc
      rw [hX, hE] at HF
      have HX := Lib.hid (show X = ⟨0, mkL (min (j + 1) 50), false, 0⟩ from by
        by_cases h : j < 50
        · exact (HF.out.1 h).1
        · exact (HF.out.2 (by omega)).1)
      have hXX := HX.out
      subst hXX
      clear hX hE HX
      go_wp2_with fail
      (with_reducible refine hc.mono ?_)
      rintro e w2 ⟨A1, n1, c1, rfl, d1, b2, _⟩
      have HN := Lib.hid (show n1 = min (j + 1) 50 from d1.len.symm.trans (mk_len _))
      have p2 := hp.on b2
      have l2 := bel2 hb b2
      clear hc hp hd hb b2 cp0 cp1 cp2 cp3
      obtain ⟨V, hV⟩ : ∃ V, w2.alloc (.cells #[.int .i64 0, .slice A1 n1 c1, .bool false, .int .i64 0] 30) = V := ⟨_, rfl⟩
      have xV : PB V w2.heap.size 30 0 A1 n1 c1 false 0 := by rw [← hV]; exact PB.new _ _ _ _ _ _ _ _
      have bV : Below w2.heap.size w2 V := by rw [← hV]; exact belA _ _
      have pV := p2.on bV
      have dV := d1.on bV
      have lV := bel2 l2 bV
      have HV := Lib.hid hV
      clear hV bV p2 d1 l2
      obtain ⟨cp0, cp1, cp2, cp3⟩ := pV.cells
      obtain ⟨fp0, fp1, fp2, fp3⟩ := pV.froz
      obtain ⟨cx0, cx1, cx2, cx3⟩ := xV.cells
      obtain ⟨U, hU, pU, kU⟩ := store_end pV Try.neP 0 A1 n1 c1 false 0
      have dU := kU.dr _ _ _ _ dV
      have lU := kU.low _ _ lV hsz
      have HU := Lib.hid hU
      clear hU kU pV dV lV xV
      have Hnext := Lib.hid (show ∃ (n : Nat) (A : Option Addr) (c : Nat), n = min (j + 1) 50 ∧ PB U w1.heap.size 30 0 A n c false 0 ∧ DR U A n c (mkL n) ∧ Below w.heap.size w U from ⟨n1, A1, c1, HN.out, pU, by rw [HN.out]; rw [HN.out] at dU; exact dU, lU⟩)
      clear pU dU lU
      by_cases h5 : j < 50
      · have q4 : (j : Int) < 50 := by omega
        have hEE := (HF.out.1 h5).2
        subst hEE
        clear HF
        go_upto_region 8 with fail
        rw [HV.out]
        go_upto_region 11 with fail
        rw [HU.out]
        go_wp2_with fail
        go_roundw
        case rel => obtain ⟨n2, A2, c2, r1, r2, r3, r4⟩ := Hnext.out; exact ⟨j + 1, n2, A2, c2, by omega, by go_num, r1, r2, r3, r4⟩
        case measure => simp [intOf]; omega
      · have q4 : ¬ (j : Int) < 50 := by omega
        have hEE := (HF.out.2 (by omega)).2
        subst hEE
        clear HF
        go_upto_region 8 with fail
        rw [HV.out]
        go_upto_region 11 with fail
        rw [HU.out]
        go_wp2_with fail
        go_roundw
        case rel => obtain ⟨n2, A2, c2, r1, r2, r3, r4⟩ := Hnext.out; exact ⟨j + 1, n2, A2, c2, by omega, by go_num, r1, r2, r3, r4⟩
        case measure => simp [intOf]; omega
    · obtain rfl : j = K + 1 := by omega
      have Hn' := Lib.hid (show n = min (K + 1) 50 from Hn.out)
      clear hn
      have q1 : ¬ ((K + 1 : Nat) : Int) < (K : Int) + 1 := by omega
      have hc := vote_c 0 A n c false 0 yes (mkL n) wr hd (by omega)
      rw [(full_vote hn50 yes).1, (full_vote hn50 yes).2] at hc
      obtain ⟨S, hS⟩ : ∃ S : Int, (if yes then 1 else 2) = S := ⟨_, rfl⟩
      rw [hS] at hc
      have hS2 : S = 1 ∨ S = 2 := by rw [← hS]; cases yes <;> simp
      have HS := Lib.hid (show (S == 1) = yes by rw [← hS]; cases yes <;> rfl)
      have O := Lib.hid (fun x hx => full_over hn50 hS2 x hx)
      clear hS hS2
      have hT : ((S == 1) == yes) = true := by rw [HS.out]; simp
      have o1 := (O.out ⟨1, 1⟩ (by show (1 : Int) < 64; omega)).1
      have o2 := (O.out ⟨1, 1⟩ (by show (1 : Int) < 64; omega)).2
      have O1 := Lib.hid o1
      have O2 := Lib.hid o2
      clear o1 o2 O HS
      go_wp2_with fail
      (with_reducible refine hc.mono ?_)
      rintro e w2 ⟨A1, n1, c1, rfl, d1, b2, _⟩
      obtain rfl : n1 = n := d1.len.symm.trans (mk_len _)
      have l2 := bel2 hb b2
      clear hc hp hd hb b2 cp0 cp1 cp2 cp3
      obtain ⟨V, hV⟩ : ∃ V, w2.alloc (.cells #[.int .i64 S, .slice A1 n1 c1, .bool false, .int .i64 0] 30) = V := ⟨_, rfl⟩
      have xV : PB V w2.heap.size 30 S A1 n1 c1 false 0 := by rw [← hV]; exact PB.new _ _ _ _ _ _ _ _
      have bV : Below w2.heap.size w2 V := by rw [← hV]; exact belA _ _
      have dV := d1.on bV
      have lV := bel2 l2 bV
      have HV := Lib.hid hV
      clear hV bV d1 l2
      obtain ⟨cp0, cp1, cp2, cp3⟩ := xV.cells
      have hc := add_c S A1 n1 c1 false 0 1 1 (mkL n1) V dV (by omega)
      rw [O1.out, show sAdd ⟨S, mkL n1, false, 0⟩ ⟨1, 1⟩ = ⟨S, mkL n1, false, 0⟩ from add_err (by rw [O1.out]; omega)] at hc
      go_upto_region 13 with fail
      rw [HV.out]
      go_wp2_with fail
      (with_reducible refine hc.mono ?_)
      rintro e w3 ⟨A3, n3, c3, rfl, d3, b3, _⟩
      have x3 := xV.on b3
      have l3 := bel2 lV b3
      have d3' := dV.on b3
      clear hc xV dV lV b3 d3 cp0 cp1 cp2 cp3
      obtain ⟨V3, hV3⟩ : ∃ V, w3.alloc (.cells #[.int .i64 S, .slice A3 n3 c3, .bool false, .int .i64 0] 30) = V := ⟨_, rfl⟩
      have bV3 : Below w3.heap.size w3 V3 := by rw [← hV3]; exact belA _ _
      have x4 := x3.on bV3
      have l4 := bel2 l3 bV3
      have d4 := d3'.on bV3
      have HV3 := Lib.hid hV3
      clear hV3 bV3 x3 l3 d3'
      obtain ⟨cp0, cp1, cp2, cp3⟩ := x4.cells
      have hc := vote_c S A1 n1 c1 false 0 yes (mkL n1) V3 d4 (by omega)
      rw [O2.out, show sVote ⟨S, mkL n1, false, 0⟩ yes = ⟨S, mkL n1, false, 0⟩ by unfold sVote; rw [if_neg (by rw [O2.out]; omega)]] at hc
      go_upto_region 14 with fail
      rw [HV3.out]
      go_wp2_with fail
      (with_reducible refine hc.mono ?_)
      rintro e w5 ⟨A5, n5, c5, rfl, d5, b5, _⟩
      have x5 := x4.on b5
      have l5 := bel2 l4 b5
      clear hc x4 d4 l4 b5 d5 cp0 cp1 cp2 cp3
      obtain ⟨V5, hV5⟩ : ∃ V, w5.alloc (.cells #[.int .i64 S, .slice A5 n5 c5, .bool false, .int .i64 0] 30) = V := ⟨_, rfl⟩
      have bV5 : Below w5.heap.size w5 V5 := by rw [← hV5]; exact belA _ _
      have x6 := x5.on bV5
      have l6 := bel2 l5 bV5
      have HV5 := Lib.hid hV5
      clear hV5 bV5 x5 l5
      obtain ⟨cp0, cp1, cp2, cp3⟩ := x6.cells
      have HL := Lib.hid l6
      clear l6 q1
      by_cases h5 : 50 < K + 1
      · have q5 : (50 : Int) < (K : Int) + 1 := by omega
        have q6 : ((n1 : Int) == 50) = true := by have := Hn.out; simp; omega
        clear h5
        go_upto_region 15 with fail
        rw [HV5.out]
        go_wp2_with fail
        go_ret
        exact ⟨rfl, HL.out⟩
      · have q5 : ¬ (50 : Int) < (K : Int) + 1 := by omega
        have q5' : (K : Int) + 1 ≤ 50 := by omega
        have q6 : ((n1 : Int) == (K : Int) + 1) = true := by have := Hn.out; simp; omega
        clear h5
        go_upto_region 15 with fail
        rw [HV5.out]
        go_wp2_with fail
        go_ret
        exact ⟨rfl, HL.out⟩
end Go.Proofs.Ytmbmbodcmobllaa
