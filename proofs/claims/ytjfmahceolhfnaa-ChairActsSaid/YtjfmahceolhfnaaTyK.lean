/-
  The document's layer 14: New. Condition: the list can be read.
-/
import Derived.Test.YtjfmahceolhfnaaTyF
set_option linter.unusedVariables false
set_option linter.unusedSimpArgs false
namespace Go.Proofs.Ytjfmahceolhfnaa
open Go.RowKit

set_option maxRecDepth 100000 in
set_option maxHeartbeats 4000000 in
theorem new_r (A : Option Addr) (n c : Nat) (L : List Nat) (w : World) (h : RR w uc 1 A n c L) : Calls Try.prog 44 #[.slice A n c] w fun r w' => r = .returned (.tuple #[.agg (tA (sNew L)), .int .i64 ((eNew L : Nat) : Int)]) ∧ Below w.heap.size w w' := by
  have hl := h.len
  have hmx : n ≤ maxLen := Nat.le_trans h.cap h.max
  simp only [maxLen] at hmx
  have ru := RU.start h
  clear h
  go_enter Try.func44, Try.ntmps44
  go_wp2_with (first | ((with_reducible refine st_alloc 73 (tA zeroY) ?_ ?_); exact zero_r))
  refine ⟨fun V1 g1 n1 f1 => ?_⟩
  have up1 : w.heap.size ≤ g1 := Nat.le_of_eq f1.at_
  have bl1 := f1.bel
  clear f1
  have r2_ru := (ru).on bl1
  have l2 := le_tr (Below.refl _ _) bl1
  clear ru
  clear bl1
  go_wp2_with (first | ((with_reducible refine st_alloc 37 (bA (fun _ => false)) ?_ ?_); exact zero_b))
  refine ⟨fun V3 g3 n3 f3 => ?_⟩
  have ne3_r := f3.ne n1
  have up3 : w.heap.size ≤ g3 := f3.up l2
  have bl3 := f3.bel
  clear f3
  have r4_r := le_on n1 bl3
  have r4_ru := (r2_ru).on bl3
  have l4 := le_tr l2 bl3
  clear n1 r2_ru l2
  clear bl3
  have tz : CB V3 g3 37 (bA (memF (L.take 0))) := cb_cast n3 (by rw [memF_zero] <;> rfl)
  go_wp2_with fail
  go_loopw [5] (fun iv wr => ∃ k : Nat, k ≤ n ∧ iv = .int .i64 k ∧ CB wr g3 37 (bA (memF (L.take k))) ∧ CB wr g1 73 (tA zeroY) ∧ Hid (okP L k) ∧ RU w wr A n c L ∧ Below w.heap.size w wr) (fun iv _ => n - (intOf iv).toNat)
  case atStart => exact ⟨0, by omega, rfl, tz, r4_r, Lib.hid (okP_zero L), r4_ru, l4⟩
  case round =>
    clear tz r4_r r4_ru l4
    obtain ⟨k, hk, rfl, ht, hr, HK, hu, hb⟩ := hrel
    by_cases hlt : k < n
    · have l1 : (k : Int) < n := by omega
      have l2 : (0 : Int) ≤ (k : Int) := by omega
      obtain ⟨ga, ofa, x, hx, rfl, cx⟩ := hu.rr.u8 hlt
      by_cases h8 : 8 ≤ x
      · have h0' : ¬ okL L := fun h => by have := ((okP_next hx).1 (okP_of h (k + 1))).2.1; omega
        have HE := Lib.hid (eNew_2 h0')
        have HS := Lib.hid (sNew_2 h0')
        have q8 : decide (8 ≤ x) = true := by simp; omega
        have q8i : decide ((8 : Int) ≤ (x : Int)) = true := by simp; omega
        clear h0' hx HK
        go_wp2_with (first | ((with_reducible refine st_store 73 _ _ g1 (tA zeroY) ?_ ?_ hr ?_ ?_ ?_ ?_); exact rfl; exact rfl; exact Try.zTr; exact rfl; exact tA_one _))
        refine ⟨fun V101 n101 k101 => ?_⟩
        have m101_t := k101.on ht (Ne.symm ne3_r)
        have m101_ru := (hu).wr k101 up1
        have o101 := k101.bel _ _ hb up1
        clear k101
        clear hr ht hu hb
        go_wp2_with fail
        exact bodyPost_ret (v := .tuple #[.agg (tA zeroY), .int .i64 2]) (res_two Try.results44 rfl rfl n101 Try.underlying73 rfl Try.zTr) rfl ⟨(by rw [HE.out, HS.out] <;> rfl), o101⟩
      have q8 : decide (8 ≤ x) = false := by simp; omega
      have q8i : decide ((8 : Int) ≤ (x : Int)) = false := by simp; omega
      have x8 : x < 8 := by omega
      have j1 : (x : Int) < 8 := by omega
      have j2 : (0 : Int) ≤ (x : Int) := by omega
      have cm : wr.cell? ⟨g3, x, none⟩ = some (.bool ((memF (L.take k)) x)) := (CB.cell ht (x)).trans (bA_get (memF (L.take k)) x8)
      cases hm : memF (L.take k) x with
      | true =>
        have h0' : ¬ okL L := fun h => by have := ((okP_next hx).1 (okP_of h (k + 1))).2.2; rw [hm] at this; cases this
        have HE := Lib.hid (eNew_2 h0')
        have HS := Lib.hid (sNew_2 h0')
        rw [hm] at cm
        clear h0' hx HK hm
        go_wp2_with (first | ((with_reducible refine st_store 73 _ _ g1 (tA zeroY) ?_ ?_ hr ?_ ?_ ?_ ?_); exact rfl; exact rfl; exact Try.zTr; exact rfl; exact tA_one _))
        refine ⟨fun V102 n102 k102 => ?_⟩
        have m102_t := k102.on ht (Ne.symm ne3_r)
        have m102_ru := (hu).wr k102 up1
        have o102 := k102.bel _ _ hb up1
        clear k102
        clear hr ht hu hb
        go_wp2_with fail
        exact bodyPost_ret (v := .tuple #[.agg (tA zeroY), .int .i64 2]) (res_two Try.results44 rfl rfl n102 Try.underlying73 rfl Try.zTr) rfl ⟨(by rw [HE.out, HS.out] <;> rfl), o102⟩
      | false =>
        have HN := Lib.hid ((okP_next hx).2 ⟨HK.out, x8, hm⟩)
        have HM := Lib.hid (memF_next hx)
        rw [hm] at cm
        clear hx HK hm
        go_wp2_with (first | ((with_reducible refine st_cell 4 _ _ g3 x (.bool true) ?_ ?_ ht (new := bA (updB (memF (L.take k)) x true)) ?_ ?_ ?_ ?_ ?_ ?_); exact rfl; exact rfl; exact (by rw [bA_size]; omega); exact bA_set (memF (L.take k)) _ x8; exact one_b; exact rfl; exact rfl))
        refine ⟨fun V102 n102 k102 => ?_⟩
        have m102_r := k102.on hr ne3_r
        have m102_ru := (hu).wr k102 up3
        have o102 := k102.bel _ _ hb up3
        clear k102
        clear ht hr hu hb
        rw [← HM.out] at n102
        go_wp2_with fail
        go_roundw
        case rel => exact ⟨k + 1, by omega, by go_num, n102, m102_r, HN, m102_ru, o102⟩
        case measure => simp [intOf]; omega
    obtain rfl : k = n := by omega
    have HM := Lib.hid (memF_end hl)
    rw [HM.out] at ht
    by_cases h0 : k = 0
    · have h0' : ¬ okL L := by rintro ⟨h1, _⟩; exact h1 (List.eq_nil_of_length_eq_zero (hl.trans h0))
      have HE := Lib.hid (eNew_2 h0')
      have HS := Lib.hid (sNew_2 h0')
      clear h0' HK
      have n0 : ((k : Int) == 0) = true := by simp; omega
      have n0' : (k == 0) = true := by simp; omega
      clear h0
      go_wp2_with (first | ((with_reducible refine st_store 73 _ _ g1 (tA zeroY) ?_ ?_ hr ?_ ?_ ?_ ?_); exact rfl; exact rfl; exact Try.zTr; exact rfl; exact tA_one _))
      refine ⟨fun V101 n101 k101 => ?_⟩
      have m101_t := k101.on ht (Ne.symm ne3_r)
      have m101_ru := (hu).wr k101 up1
      have o101 := k101.bel _ _ hb up1
      clear k101
      clear hr ht hu hb
      go_wp2_with fail
      exact bodyPost_ret (v := .tuple #[.agg (tA zeroY), .int .i64 2]) (res_two Try.results44 rfl rfl n101 Try.underlying73 rfl Try.zTr) rfl ⟨(by rw [HE.out, HS.out] <;> rfl), o101⟩
    have n0 : ((k : Int) == 0) = false := by simp; omega
    have n0' : (k == 0) = false := by simp; omega
    have ho : okL L := okP_end hl h0 HK.out
    have HE := Lib.hid (eNew_0 ho)
    have HS := Lib.hid (sNew_0 ho)
    clear ho HK
    go_wp2_with (first | ((with_reducible refine st_load 37 _ g3 ?_ ht Try.underlying37 ?_ ?_ ?_); exact rfl; exact rfl; exact Try.zB8) | ((with_reducible refine st_build 73 _ (.agg (bA (memF L))) (tA (Ty.mk (memF L) (fun _ => 0) (fun _ => 0))) ?_ ?_ ?_); exact rfl; exact built_r _) | ((with_reducible refine st_store 73 _ _ g1 (tA (Ty.mk (memF L) (fun _ => 0) (fun _ => 0))) ?_ ?_ hr ?_ ?_ ?_ ?_); exact rfl; exact rfl; exact Try.zTr; exact rfl; exact tA_one _))
    refine ⟨fun V101 n101 k101 => ?_⟩
    have m101_t := k101.on ht (Ne.symm ne3_r)
    have m101_ru := (hu).wr k101 up1
    have o101 := k101.bel _ _ hb up1
    clear k101
    clear hr ht hu hb
    go_wp2_with fail
    exact bodyPost_ret (v := .tuple #[.agg (tA (Ty.mk (memF L) (fun _ => 0) (fun _ => 0))), .int .i64 0]) (res_two Try.results44 rfl rfl n101 Try.underlying73 rfl Try.zTr) rfl ⟨(by rw [HE.out, HS.out] <;> rfl), o101⟩
end Go.Proofs.Ytjfmahceolhfnaa
