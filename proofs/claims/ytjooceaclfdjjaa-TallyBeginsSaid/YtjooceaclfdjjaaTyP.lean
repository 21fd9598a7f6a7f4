/-
  The law TallyBegins, walked. Condition: the list can be read.
-/
import Derived.Test.YtjooceaclfdjjaaTyL
set_option linter.unusedVariables false
set_option linter.unusedSimpArgs false
namespace Go.Proofs.Ytjooceaclfdjjaa
open Go.RowKit

set_option maxRecDepth 100000 in
set_option maxHeartbeats 4000000 in
theorem begins_walk (A : Option Addr) (n c : Nat) (L : List Nat) (w : World) (h : RR w uc 1 A n c L) : Calls Try.prog 9 #[.slice A n c] w fun r w' => r = .returned (.bool true) ∧ Below w.heap.size w w' := by
  have hl := h.len
  have hmx : n ≤ maxLen := Nat.le_trans h.cap h.max
  simp only [maxLen] at hmx
  have ru := RU.start h
  clear h
  have N1 := fun W h => new_c A n c L W h
  by_cases h1 : 100 < n
  · have q1 : decide (100 < n) = true := by simp; omega
    have q1i : decide ((100 : Int) < (n : Int)) = true := by simp; omega
    go_enter Try.func9, Try.ntmps9
    go_wp2_with fail
    refine (alive_c _).mono ?_
    rintro e w1 ⟨rfl, b1⟩
    have r2_ru := (ru).on b1
    have l2 := le_tr (Below.refl _ _) b1
    clear ru
    clear b1
    go_wp2_with fail
    go_ret
    exact ⟨rfl, l2⟩
  have q1 : decide (100 < n) = false := by simp; omega
  have q1i : decide ((100 : Int) < (n : Int)) = false := by simp; omega
  clear h1
  by_cases ho : okL L
  · rw [sNew_0 ho, eNew_0 ho] at N1
    have O1 := fun W => out_c (Ty.mk (memF L) (fun _ => 0) (fun _ => 0)) W
    rw [out_new ho] at O1
    have R1 := fun W => right_c (Ty.mk (memF L) (fun _ => 0) (fun _ => 0)) W
    rw [new_right ho] at R1
    have HC := Lib.hid (cnt_mem L ho.2.1 ho.2.2)
    clear ho
    go_enter Try.func9, Try.ntmps9
    go_wp2_with fail
    refine (alive_c _).mono ?_
    rintro e w1 ⟨rfl, b1⟩
    have r2_ru := (ru).on b1
    have l2 := le_tr (Below.refl _ _) b1
    clear ru
    clear b1
    go_wp2_with fail
    refine (N1 _ (r2_ru).rr).mono ?_
    rintro e w3 ⟨rfl, b3⟩
    have r4_ru := (r2_ru).on b3
    have l4 := le_tr l2 b3
    clear r2_ru l2
    clear b3
    go_wp2_with (first | ((with_reducible refine st_alloc 30 (tA zeroY) ?_ ?_); exact zero_c))
    refine ⟨fun V5 g5 n5 f5 => ?_⟩
    have up5 : w.heap.size ≤ g5 := f5.up l4
    have bl5 := f5.bel
    clear f5
    have r6_ru := (r4_ru).on bl5
    have l6 := le_tr l4 bl5
    clear r4_ru l4
    clear bl5
    go_wp2_with (first | ((with_reducible refine st_store 30 _ _ g5 (tA (Ty.mk (memF L) (fun _ => 0) (fun _ => 0))) ?_ ?_ n5 ?_ ?_ ?_ ?_); exact rfl; exact rfl; exact Try.zTc; exact rfl; exact tA_one _))
    refine ⟨fun V7 n7 k7 => ?_⟩
    have m7_ru := (r6_ru).wr k7 up5
    have o7 := k7.bel _ _ l6 up5
    clear k7
    clear n5 r6_ru l6
    go_wp2_with (first | (first | ((with_reducible refine st_part 22 _ g5 0 ?_ (pt := bA (Ty.mk (memF L) (fun _ => 0) (fun _ => 0)).wh) n7 ?_ Try.underlying22 ?_ ?_ ?_); exact rfl; exact rfl; exact rfl; exact Try.zB8) | ((with_reducible refine st_partG 22 _ g5 0 ?_ (pt := bA (Ty.mk (memF L) (fun _ => 0) (fun _ => 0)).wh) n7 ?_ Try.underlying22 ?_ ?_ ?_ ?_); exact rfl; exact rfl; exact rfl; exact Try.zB8; exact rfl)))
    go_loopw [5, 25] (fun nv iv wr => ∃ k : Nat, k ≤ 8 ∧ iv = .int .i64 k ∧ nv = .int .i64 ((cntB (memF L) k : Nat) : Int) ∧ CB wr g5 30 (tA (Ty.mk (memF L) (fun _ => 0) (fun _ => 0))) ∧ Below w.heap.size w wr) (fun _ iv _ => 8 - (intOf iv).toNat)
    case atStart => exact ⟨0, by omega, rfl, rfl, n7, o7⟩
    case round =>
      clear n7 o7 m7_ru
      obtain ⟨k, hk, rfl, rfl, ht, hb⟩ := hrel
      by_cases hlt : k < 8
      · have j1 : (k : Int) < 8 := by omega
        have j2 : (0 : Int) ≤ (k : Int) := by omega
        have hx := fun V => idx_b (memF L) hlt V
        have cv : wr.cell? ⟨g5, 8 + k, none⟩ = some (.int .i64 0) := (CB.cell ht (8 + k)).trans (tA_vt (Ty.mk (memF L) (fun _ => 0) (fun _ => 0)) hlt)
        have ce : wr.cell? ⟨g5, 16 + k, none⟩ = some (.int .i64 0) := (CB.cell ht (16 + k)).trans (tA_ep (Ty.mk (memF L) (fun _ => 0) (fun _ => 0)) hlt)
        have hle := cntB_le (memF L) k
        cases hf : memF L k with
        | false =>
          rw [hf] at hx
          have HN := Lib.hid (cntB_no hf)
          obtain ⟨q, hq⟩ : ∃ q, cntB (memF L) k = q := ⟨_, rfl⟩
          rw [hq] at HN hle
          rw [hq]
          clear hf hq
          go_wp2_with fail
          go_roundw
          case rel => exact ⟨k + 1, by omega, by go_num, by rw [HN.out], ht, hb⟩
          case measure => simp [intOf]; omega
        | true =>
          rw [hf] at hx
          have HN := Lib.hid (cntB_yes hf)
          obtain ⟨q, hq⟩ : ∃ q, cntB (memF L) k = q := ⟨_, rfl⟩
          rw [hq] at HN hle
          rw [hq]
          clear hf hq
          go_wp2_with fail
          go_roundw
          case rel => exact ⟨k + 1, by omega, by go_num, by rw [HN.out] <;> go_num, ht, hb⟩
          case measure => simp [intOf]; omega
      obtain rfl : k = 8 := by omega
      rw [HC.out, hl]
      go_wp2_with (first | (first | ((with_reducible refine st_load 30 _ g5 ?_ ht Try.underlying30 ?_ ?_ ?_); exact rfl; exact rfl; exact Try.zTc) | ((with_reducible refine st_loadG 30 _ g5 ?_ ht Try.underlying30 ?_ ?_ ?_ ?_); exact rfl; exact rfl; exact Try.zTc; exact rfl)))
      refine (O1 _).mono ?_
      rintro e w101 ⟨rfl, b101⟩
      have r102_t := le_on ht b101
      have l102 := le_tr hb b101
      clear ht hb
      clear b101
      go_wp2_with (first | (first | ((with_reducible refine st_load 30 _ g5 ?_ r102_t Try.underlying30 ?_ ?_ ?_); exact rfl; exact rfl; exact Try.zTc) | ((with_reducible refine st_loadG 30 _ g5 ?_ r102_t Try.underlying30 ?_ ?_ ?_ ?_); exact rfl; exact rfl; exact Try.zTc; exact rfl)))
      refine (R1 _).mono ?_
      rintro e w103 ⟨rfl, b103⟩
      have r104_t := le_on r102_t b103
      have l104 := le_tr l102 b103
      clear r102_t l102
      clear b103
      go_wp2_with fail
      go_ret
      exact ⟨rfl, l104⟩
  rw [sNew_2 ho, eNew_2 ho] at N1
  clear ho
  have R1 := fun W => right_c zeroY W
  rw [right_zero] at R1
  go_enter Try.func9, Try.ntmps9
  go_wp2_with fail
  refine (alive_c _).mono ?_
  rintro e w1 ⟨rfl, b1⟩
  have r2_ru := (ru).on b1
  have l2 := le_tr (Below.refl _ _) b1
  clear ru
  clear b1
  go_wp2_with fail
  refine (N1 _ (r2_ru).rr).mono ?_
  rintro e w3 ⟨rfl, b3⟩
  have r4_ru := (r2_ru).on b3
  have l4 := le_tr l2 b3
  clear r2_ru l2
  clear b3
  go_wp2_with (first | ((with_reducible refine st_alloc 30 (tA zeroY) ?_ ?_); exact zero_c))
  refine ⟨fun V5 g5 n5 f5 => ?_⟩
  have up5 : w.heap.size ≤ g5 := f5.up l4
  have bl5 := f5.bel
  clear f5
  have r6_ru := (r4_ru).on bl5
  have l6 := le_tr l4 bl5
  clear r4_ru l4
  clear bl5
  go_wp2_with (first | ((with_reducible refine st_store 30 _ _ g5 (tA zeroY) ?_ ?_ n5 ?_ ?_ ?_ ?_); exact rfl; exact rfl; exact Try.zTc; exact rfl; exact tA_one _))
  refine ⟨fun V7 n7 k7 => ?_⟩
  have m7_ru := (r6_ru).wr k7 up5
  have o7 := k7.bel _ _ l6 up5
  clear k7
  clear n5 r6_ru l6
  go_wp2_with (first | (first | ((with_reducible refine st_load 30 _ g5 ?_ n7 Try.underlying30 ?_ ?_ ?_); exact rfl; exact rfl; exact Try.zTc) | ((with_reducible refine st_loadG 30 _ g5 ?_ n7 Try.underlying30 ?_ ?_ ?_ ?_); exact rfl; exact rfl; exact Try.zTc; exact rfl)))
  refine (R1 _).mono ?_
  rintro e w8 ⟨rfl, b8⟩
  have r9_t := le_on n7 b8
  have r9_ru := (m7_ru).on b8
  have l9 := le_tr o7 b8
  clear n7 m7_ru o7
  clear b8
  go_wp2_with fail
  go_ret
  exact ⟨rfl, l9⟩
end Go.Proofs.Ytjooceaclfdjjaa
